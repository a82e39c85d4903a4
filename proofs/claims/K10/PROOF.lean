import PyProof.Rows.All
import Wide.All
import OpenK.AllK
import Wide.FinOn
import HandS.ForMost
import HandS.More
import HandS.Wide
import HandS.IsInst
import HandS.Flow
import HandS.Replace
import HandS.Evl
import HandS.WideBits
import KE.IntBitsLaws
import PySem.Challenge.RW_linecourt_k10_how_many_worlds
set_option Elab.async false
set_option linter.all false
set_option maxRecDepth 100000
set_option maxHeartbeats 4000000
namespace Lc
open PySem PySem.Spec PyProof.Rows L2
/-! ### a def that is called -/
structure Dn (P : Program) (w : World) (K : PySem.W.Frag) (mg : Str → Option Value) (base : Heap) (x : Str) (ps : List Str) (k : Nat) (sp : Sp) where
  f : Addr
  fd : FuncData
  kp : PySem.W.keepIn K (.ref f) = true
  g : mg x = some (.ref f)
  b : Binds K fd ps []
  G : FnOk P w K mg base CX0 k f fd ps sp
section
variable {X : Cx} {x : Str} {ps : List Str} {k : Nat} {sp : Sp} {e : Expr} {es : List Expr} {t : TA} {p pos : Pos}
theorem pe_dn (C : Dn X.prog X.w X.K X.mg X.base x ps k sp) (hr : Room k X.A) (hg : Gl X x) (ha : PA X (e :: es) t) (hdb : (x == ("__debug__" : Str)) = false := by decide)
    (he : starEach (e :: es) X.env = (false, eval e X.env) :: starEach es X.env := by rfl) (hpl : (backTo pos (starEach es X.env)).any (·.1) = false := by rfl) :
    PE X (.Call (.Name x p) (e :: es) [] pos) (tCall sp [] E0 t) := pe_call C.G hr hg C.g C.kp C.b .nil pass0 ha hdb he hpl
theorem pe_dn0 (C : Dn X.prog X.w X.K X.mg X.base x ps k sp) (hr : Room k X.A) (hg : Gl X x) (hdb : (x == ("__debug__" : Str)) = false := by decide) :
    PE X (.Call (.Name x p) [] [] pos) (tCall sp [] E0 tNil) := pe_call0 C.G hr hg C.g C.kp C.b .nil pass0 hdb
end
/-! ### frames: what is not in M stays as it is -/
def Fr (M : Addr → Prop) (H H' : Hp) : Prop := ∀ b o, H b = some o → ∃ o', H' b = some o' ∧ (¬ M b → o' = o)
theorem Fr.refl {M : Addr → Prop} (H : Hp) : Fr M H H := fun _ o h => ⟨o, h, fun _ => rfl⟩
theorem Fr.trans {M : Addr → Prop} {H H1 H2 : Hp} (a : Fr M H H1) (b : Fr M H1 H2) : Fr M H H2 := fun c o h => by
  obtain ⟨o1, h1, e1⟩ := a c o h
  obtain ⟨o2, h2, e2⟩ := b c o1 h1
  exact ⟨o2, h2, fun n => (e2 n).trans (e1 n)⟩
theorem Fr.new {M : Addr → Prop} {H : Hp} {p : Addr} {o : HO} (h : H p = none) : Fr M H (upd H p o) := fun b u e => ⟨u, by rw [upd_ne (ne_of_none e h)]; exact e, fun _ => rfl⟩
theorem Fr.mut {M : Addr → Prop} {H : Hp} {p : Addr} {o : HO} (h : M p) : Fr M H (upd H p o) := fun b u e => by
  by_cases q : b = p
  · subst q
    exact ⟨o, upd_same, fun n => absurd h n⟩
  · exact ⟨u, by rw [upd_ne q]; exact e, fun _ => rfl⟩
/-- what H does not know may change -/
theorem Fr.own {M : Addr → Prop} {H H' : Hp} {p : Addr} {o : HO} (e : Fr M H H') (h : H p = none) : Fr M H (upd H' p o) := fun b u q => by
  obtain ⟨o', h1, h2⟩ := e b u q
  exact ⟨o', by rw [upd_ne (ne_of_none q h)]; exact h1, h2⟩
theorem Fr.free {M : Addr → Prop} {H H' : Hp} {p : Addr} (e : Fr M H H') (h : H' p = none) : H p = none := by
  cases q : H p with
  | none => rfl
  | some o =>
    obtain ⟨o', h1, _⟩ := e p o q
    rw [h1] at h
    cases h
theorem Fr.at {M : Addr → Prop} {H H' : Hp} {b : Addr} {o : HO} (e : Fr M H H') (h : H b = some o) (n : ¬ M b) : H' b = some o := by
  obtain ⟨o', h1, h2⟩ := e b o h
  rw [h2 n] at h1
  exact h1
theorem Fr.of {M : Addr → Prop} {H H' : Hp} (e : Same H H') : Fr M H H' := fun b o h => ⟨o, e b o h, fun _ => rfl⟩
theorem Fr.seq {M : Addr → Prop} {K : PySem.W.Frag} {H H' : Hp} {a : Addr} {xs : List V} (e : Fr M H H') (n : ¬ M a) (h : SqL K H a xs) : SqL K H' a xs := by
  rcases h with (h | ⟨o, h⟩) | h
  · exact .inl (.inl (e.at h n))
  · exact .inl (.inr ⟨o, e.at h n⟩)
  · exact .inr h
theorem same_new {H : Hp} {p : Addr} {o : HO} (h : H p = none) : Same H (upd H p o) := fun b x e => by
  rw [upd_ne (ne_of_none e h)]
  exact e
theorem sz {n : Nat} (h : n ≤ 100000) : n ≤ sizeLine := Nat.le_trans h (by decide)
theorem szl {n : Nat} (h : n < 100000) : n < sizeLine := Nat.lt_of_lt_of_le h (by decide)
/-! ### powers by squares -/
theorem pow_odd (t s : Nat) (l : Nat) (h : l % 2 = 1) : t * s ^ l = (t * s) * (s * s) ^ (l / 2) := by
  have e : l = 2 * (l / 2) + 1 := by omega
  have e2 : (s * s) ^ (l / 2) = s ^ (2 * (l / 2)) := by rw [Nat.pow_mul]; congr 1; exact (Nat.pow_two s).symm
  rw [e2]
  conv => lhs; rw [e]
  rw [Nat.pow_succ, Nat.mul_assoc, Nat.mul_comm s]
theorem pow_even (t s : Nat) (l : Nat) (h : l % 2 = 0) : t * s ^ l = t * (s * s) ^ (l / 2) := by
  have e : l = 2 * (l / 2) := by omega
  have e2 : (s * s) ^ (l / 2) = s ^ (2 * (l / 2)) := by rw [Nat.pow_mul]; congr 1; exact (Nat.pow_two s).symm
  rw [e2, ← e]
/-! ### pigeons -/
theorem nodup_le {α : Type} [DecidableEq α] : ∀ (l m : List α), l.Nodup → (∀ x ∈ l, x ∈ m) → l.length ≤ m.length
  | [], m, _, _ => Nat.zero_le _
  | a :: l, m, hn, hs => by
    have ha : a ∈ m := hs a List.mem_cons_self
    have hn' := List.nodup_cons.mp hn
    have ih := nodup_le l (m.erase a) hn'.2 fun x hx => (List.mem_erase_of_ne (fun e => by subst e; exact hn'.1 hx)).mpr (hs x (List.mem_cons_of_mem _ hx))
    rw [List.length_erase_of_mem ha] at ih
    have : 0 < m.length := List.length_pos_of_mem ha
    simp only [List.length_cons]
    omega
/-- the words with one more sign -/
def alts (p : List Nat) : List (List Nat) := (List.range 26).map fun i => p ++ [97 + i]
theorem alts_nodup (p : List Nat) : (alts p).Nodup := by
  unfold alts
  have h := @List.nodup_range 26
  unfold List.Nodup at h ⊢
  rw [List.pairwise_map]
  refine h.imp fun {i j} ne e => ne ?_
  have := List.append_cancel_left e
  simp at this
  exact this
theorem own_few (own : List (List Nat)) (n : Nat) (h : ∀ o ∈ own, (own.filter fun q => decide (q.dropLast = o.dropLast)).length ≤ n) (p : List Nat) : (own.filter fun q => decide (q.dropLast = p)).length ≤ n := by
  by_cases hp : ∃ o ∈ own, o.dropLast = p
  · obtain ⟨o, ho, e⟩ := hp
    rw [← e]
    exact h o ho
  · have : (own.filter fun q => decide (q.dropLast = p)) = [] := by
      rw [List.filter_eq_nil_iff]
      intro q hq
      simp
      exact fun e => hp ⟨q, hq, e⟩
    rw [this]
    exact Nat.zero_le _
theorem free_sign (known own : List (List Nat)) (n : Nat) (h : ∀ o ∈ own, (own.filter fun q => decide (q.dropLast = o.dropLast)).length ≤ n) (hk : known.length + n < 26) (p : List Nat) :
    ∃ i, i < 26 ∧ (p ++ [97 + i]) ∉ known ∧ (p ++ [97 + i]) ∉ own := by
  apply Classical.byContradiction
  intro hc
  have hs : ∀ x ∈ alts p, x ∈ known ++ own.filter fun q => decide (q.dropLast = p) := by
    intro x hx
    obtain ⟨i, hi, rfl⟩ := List.mem_map.mp hx
    have hi := List.mem_range.mp hi
    by_cases h1 : (p ++ [97 + i]) ∈ known
    · exact List.mem_append_left _ h1
    · by_cases h2 : (p ++ [97 + i]) ∈ own
      · refine List.mem_append_right _ (List.mem_filter.mpr ⟨h2, ?_⟩)
        simp
      · exact absurd ⟨i, hi, h1, h2⟩ hc
  have := nodup_le _ _ (alts_nodup p) hs
  rw [List.length_append] at this
  have h2 := own_few own n h p
  have h3 : (alts p).length = 26 := by simp [alts]
  omega
end Lc
namespace Lc
open PySem PySem.Spec PyProof.Rows L2
/-! ### data -/
theorem dpI {K : PySem.W.Frag} {H : Hp} : ∀ ns : List Int, DpAll K H (ns.map V.int) (ns.map PyData.int)
  | [] => .nil
  | n :: r => .cons (.int n) (dpI r)
theorem dpS {K : PySem.W.Frag} {H : Hp} : ∀ ns : List Str, DpAll K H (ns.map V.str) (ns.map PyData.str)
  | [] => .nil
  | n :: r => .cons (.str n) (dpS r)
theorem lay_ints : ∀ ns : List Int, PyData.canLayAll0 (ns.map PyData.int) = true
  | [] => rfl
  | n :: r => by
    show (PyData.canLay0 (.int n) && PyData.canLayAll0 (r.map PyData.int)) = true
    rw [lay_ints r]
    rfl
theorem dep_ints : ∀ ns : List Int, PyData.depthAll (ns.map PyData.int) = 0
  | [] => rfl
  | n :: r => by
    show max (PyData.depth (.int n)) (PyData.depthAll (r.map PyData.int)) = 0
    rw [dep_ints r]
    rfl
theorem shInts (ns : List Int) : SeqAt.shaped (.list (ns.map PyData.int)) = true := by
  unfold SeqAt.shaped
  rw [show PyData.canLay0 (.list (ns.map PyData.int)) = true from lay_ints ns, show PyData.depth (.list (ns.map PyData.int)) = 1 by show PyData.depthAll _ + 1 = 1; rw [dep_ints]]
  rfl
theorem lay_strs : ∀ ns : List Str, (∀ x ∈ ns, PyData.canLay0 (.str x) = true) → PyData.canLayAll0 (ns.map PyData.str) = true
  | [], _ => rfl
  | n :: r, h => by
    show (PyData.canLay0 (.str n) && PyData.canLayAll0 (r.map PyData.str)) = true
    rw [lay_strs r fun x hx => h x (List.mem_cons_of_mem _ hx), h n List.mem_cons_self]
    rfl
theorem dep_strs : ∀ ns : List Str, PyData.depthAll (ns.map PyData.str) = 0
  | [] => rfl
  | n :: r => by
    show max (PyData.depth (.str n)) (PyData.depthAll (r.map PyData.str)) = 0
    rw [dep_strs r]
    rfl
theorem shStrs (ns : List Str) (h : ∀ x ∈ ns, PyData.canLay0 (.str x) = true) : SeqAt.shaped (.list (ns.map PyData.str)) = true := by
  unfold SeqAt.shaped
  rw [show PyData.canLay0 (.list (ns.map PyData.str)) = true from lay_strs ns h, show PyData.depth (.list (ns.map PyData.str)) = 1 by show PyData.depthAll _ + 1 = 1; rw [dep_strs]]
  rfl
theorem eqv_nil {α : Type} (f : α → PyData) : ∀ ns : List α, PyData.eqv (.list (ns.map f)) (.list []) = ns.isEmpty
  | [] => rfl
  | _ :: _ => rfl
theorem cut_to (xs : List V) (k : Nat) : cutV xs none (some (k : Int)) = xs.take k := by
  unfold cutV
  rw [HT.sIx_none, HT.sIx_nat, List.drop_zero, Nat.sub_zero]
  by_cases h : k ≤ xs.length
  · rw [Nat.min_eq_left h]
  · rw [Nat.min_eq_right (by omega), List.take_length, List.take_of_length_le (by omega)]
theorem cut_from (xs : List V) (k : Nat) : cutV xs (some (k : Int)) none = xs.drop k := by
  unfold cutV
  rw [HT.sIx_none, HT.sIx_nat]
  by_cases h : k ≤ xs.length
  · rw [Nat.min_eq_left h, List.take_of_length_le]
    rw [List.length_drop]
    exact Nat.le_refl _
  · rw [Nat.min_eq_right (by omega), Nat.sub_self, List.take_zero, List.drop_of_length_le (by omega)]
end Lc
namespace Lc
open PySem PySem.Spec PyProof.Rows L2
/-! ### texts by their codes -/
def tx (l : List Nat) : Str := ⟨l.toArray⟩
theorem tx_cps (l : List Nat) : (tx l).cps.toList = l := by simp [tx]
theorem tx_len (l : List Nat) : (tx l).length = l.length := by simp [tx, Str.length]
theorem tx_app (a b : List Nat) : tx a ++ tx b = tx (a ++ b) := by
  have h : (tx a ++ tx b).cps = (tx (a ++ b)).cps := by rw [Str.cps_append]; simp [tx]
  generalize tx a ++ tx b = x at h
  cases x
  cases h
  rfl
theorem tx_of (s : Str) : s = tx s.cps.toList := by
  cases s
  simp [tx]
theorem tx_inj {a b : List Nat} : tx a = tx b ↔ a = b := ⟨fun h => by rw [← tx_cps a, h, tx_cps], fun h => by rw [h]⟩
theorem tx_one (c : Nat) : (⟨#[c]⟩ : Str) = tx [c] := rfl
theorem cutS_to (l : List Nat) (k : Nat) : cutS (tx l) none (some (k : Int)) = tx (l.take k) := by
  unfold cutS
  rw [HT.sIx_none, HT.sIx_nat, tx_cps, tx_len, List.drop_zero, Nat.sub_zero]
  unfold tx
  by_cases h : k ≤ l.length
  · rw [Nat.min_eq_left h]
  · rw [Nat.min_eq_right (by omega), List.take_length, List.take_of_length_le (by omega)]
theorem cutS_from (l : List Nat) (k : Nat) : cutS (tx l) (some (k : Int)) none = tx (l.drop k) := by
  unfold cutS
  rw [HT.sIx_none, HT.sIx_nat, tx_cps, tx_len]
  unfold tx
  by_cases h : k ≤ l.length
  · rw [Nat.min_eq_left h, List.take_of_length_le]
    rw [List.length_drop]
    exact Nat.le_refl _
  · rw [Nat.min_eq_right (by omega), Nat.sub_self, List.take_zero, List.drop_of_length_le (by omega)]
theorem cutS_last (p : List Nat) (x : Nat) : cutS (tx (p ++ [x])) none (some (-1)) = tx p := by
  unfold cutS
  rw [HT.sIx_none, tx_cps, tx_len, List.drop_zero, Nat.sub_zero]
  have e : HT.sIx (p ++ [x]).length (p ++ [x]).length (some (-1)) = p.length := by
    rw [List.length_append]
    show HT.sIx (p.length + 1) (p.length + 1) (some (-1)) = p.length
    unfold HT.sIx
    simp
    omega
  rw [e, List.take_left]
  rfl
theorem in_strs {x : Str} : ∀ {xs : List Str}, inV (.str x) (xs.map V.str) = decide (x ∈ xs)
  | [] => by simp [inV]
  | y :: r => by
    have ih := in_strs (x := x) (xs := r)
    unfold inV at ih ⊢
    rw [List.map_cons, List.any_cons, ih]
    show ((y == x) || decide (x ∈ r)) = decide (x ∈ y :: r)
    by_cases h : y = x
    · subst h
      simp
    · have h2 : ¬ x = y := fun e => h e.symm
      simp [h, h2]
theorem flat_strs : ∀ xs : List Str, (xs.map V.str).all flatV = true
  | [] => rfl
  | y :: r => by
    rw [List.map_cons, List.all_cons, flat_strs r]
    rfl
/-- small signs alone -/
def Low (l : List Nat) : Prop := ∀ c ∈ l, 97 ≤ c ∧ c ≤ 122
theorem Low.app {a b : List Nat} (h : Low a) (g : Low b) : Low (a ++ b) := fun c hc => (List.mem_append.mp hc).elim (h c) (g c)
theorem Low.take {a : List Nat} (h : Low a) (k : Nat) : Low (a.take k) := fun c hc => h c (List.mem_of_mem_take hc)
theorem Low.drop {a : List Nat} (h : Low a) (k : Nat) : Low (a.drop k) := fun c hc => h c (List.mem_of_mem_drop hc)
theorem Low.lay {a : List Nat} (h : Low a) : PyData.canLay0 (.str (tx a)) = true := by
  show PySem.PyData.strOk (tx a) = true
  unfold PyData.strOk tx
  rw [List.all_toArray]
  rw [List.all_eq_true]
  intro c hc
  have := h c hc
  simp
  omega
end Lc
namespace Lc
open PySem PySem.Spec PyProof.Rows L2
/-! ### the rules with the written part told, for use inside a comprehension -/
section
variable {X : Cx} (K : PySem.W.Frag)
theorem ix_listK (h : X.K = K := by rfl) : IxR X (rIxL K) := h ▸ ix_list
theorem ix_tupK (h : X.K = K := by rfl) : IxR X (rIxT K) := h ▸ ix_tup
theorem ix_seqK (h : X.K = K := by rfl) : IxR X (rIx K) := h ▸ ix_seq
theorem sl_listK (h : X.K = K := by rfl) : SlR X (rSlL K) := h ▸ sl_list
theorem sl_tupK (h : X.K = K := by rfl) : SlR X (rSlT K) := h ▸ sl_tup
theorem op_in_seqK (h : X.K = K := by rfl) : OpR X (compareOp .In) (rIn K false) := h ▸ op_in_seq
theorem op_notIn_seqK (h : X.K = K := by rfl) : OpR X (compareOp .NotIn) (rIn K true) := h ▸ op_notIn_seq
theorem op_eqDK (hu : X.A.units + 64 < cLine) (h : X.K = K := by rfl) : OpR X (compareOp .Eq) (rEqD K) := h ▸ op_eqD hu
theorem op_neDK (hu : X.A.units + 64 < cLine) (h : X.K = K := by rfl) : OpR X (compareOp .NotEq) (rNeD K) := h ▸ op_neD hu
theorem op_catTK (h : X.K = K := by rfl) : OpR X (binaryOp .Add) (rCatT K) := h ▸ op_catT
def rLenQ (K : PySem.W.Frag) : List V → Hp → VK → Prop := fun xs H Q => ∃ p ys, xs = [.ref p] ∧ (SqL K H p ys ∨ SqT K H p ys) ∧ Q (.int ys.length) H
theorem call_len_seqK (h : X.K = K := by rfl) : CallR X (.builtin "len") (rLenQ K) := h ▸ call_len_seq
theorem call_isiK' (h : X.K = K := by rfl) : CallR X (.builtin "isinstance") (rIsi K) := h ▸ call_isi
variable {o e : Expr} {es : List Expr} {to : TE} {t : TA} {name : Str} {apos cpos : Pos} {T id : String} {r : V → List V → Hp → VK → Prop}
theorem pe_bmK (pa : PlainAttrs T) (slot : Slot T name id) (hty : typeOf (.builtin id) = pure (.type "method_descriptor")) (hm : MtR X id r) (ho : PE X o to) (ha : PA X (e :: es) t) (h : X.K = K := by rfl)
    (hbase : attributeBase o name X.env (eval o X.env) = eval o X.env := by rfl)
    (hfew : ((backTo cpos (starEach (e :: es) X.env)).all (fun x => !x.1) && (backToKw cpos (keywordEach [] X.env)).all (fun x => x.1.isSome)
      && decide ((e :: es).length + ([] : List Keyword).length + (if ([] : List Keyword).isEmpty then 0 else 1) < 30)) = true := by rfl)
    (hline : (apos.endLine == cpos.line) = true := by rfl) (hs : starEach (e :: es) X.env = (false, eval e X.env) :: starEach es X.env := by rfl) (hplain : (backTo cpos (starEach es X.env)).any (·.1) = false := by rfl) :
    PE X (.Call (.Attribute o name apos) (e :: es) [] cpos) (tBM K T r to t) := h ▸ pe_bm pa slot hty hm ho ha hbase hfew hline hs hplain
theorem pe_bm0K (pa : PlainAttrs T) (slot : Slot T name id) (hty : typeOf (.builtin id) = pure (.type "method_descriptor")) (hm : MtR X id r) (ho : PE X o to) (h : X.K = K := by rfl)
    (hbase : attributeBase o name X.env (eval o X.env) = eval o X.env := by rfl) (hline : (apos.endLine == cpos.line) = true := by rfl) : PE X (.Call (.Attribute o name apos) [] [] cpos) (tBM0 K T r to) := h ▸ pe_bm0 pa slot hty hm ho hbase hline
theorem pg_tupK {es : List Expr} {k : Nat} {t : TGs} {n : Nat} {pos : Pos} (hc : X.calm = true) (hg : PGs X es t) (h : X.K = K := by rfl)
    (hn : (assignEach es X.env).length = n := by rfl) (hst : (assignEach es X.env).findIdx? (·.1) = none := by rfl) : PG X (.Tuple es k pos) (gTup K n t) := h ▸ pg_tup hc hg hn hst
theorem pi_listK {tg l : Expr} {tl : TE} (hl : PE X l tl) (h : X.K = K := by rfl) : PI X tg l (iList K tl) := h ▸ pi_list hl
theorem pi_tupK {tg l : Expr} {tl : TE} (hl : PE X l tl) (h : X.K = K := by rfl) : PI X tg l (iTup K tl) := h ▸ pi_tup hl
end
end Lc
namespace Lc
open PySem PySem.Spec PyProof.Rows L2
theorem yes_if {σ : L2.St} {H : Hp} {A B : Hp → Prop} (h : A H) : tYes σ H (fun b H3 => if b = true then A H3 else B H3) := by
  show if true = true then A H else B H
  rw [if_pos rfl]
  exact h
end Lc
set_option Elab.async false
set_option linter.all false
set_option maxRecDepth 100000
set_option maxHeartbeats 4000000
namespace K10
open PySem PySem.Spec PyProof.Rows L2 Lc
def topS (i : Nat) : Stmt := PySem.Challenge.pw_linecourt_k10_how_many_worlds.main.body.getD i (.Pass ⟨0, 0, 0, 0⟩)
section
variable {P : Program} {w : World} {K : PySem.W.Frag} {mg : Str → Option Value} {base : Heap} {f : Addr} {fd : FuncData}
/-! ### power -/
abbrev s_power : Stmt := topS 1
theorem sc_power : FnScope ["base", "times", "told", "square", "left"] ["base", "times"] (defScope s_power) := ⟨rfl, rfl, rfl, by decide +kernel, rfl, by decide +kernel, by decide +kernel⟩
def spPower : Sp := fun vs H Q _ => ∃ b t : Nat, vs = [.int b, .int t] ∧ 1 ≤ b ∧ b ^ t < 2 ^ 400000 ∧ Q (.int ((b ^ t : Nat) : Int)) H
theorem ok_power {k : Nat} (F : Fun K "power" "power" s_power f fd) : FnOk P w K mg base CX0 (k + 1) f fd ["base", "times"] spPower := by
  refine F.ok sc_power (fun vs H Q E h => ?_) (fun cdv A outer s H vs Q E hr h => ?_)
  · obtain ⟨b, t, rfl, _⟩ := h
    rfl
  · obtain ⟨b, t, rfl, hb, hlt, q⟩ := h
    refine ⟨_, (pss_cons (ps_set (i := 2) sc_power.nd rfl (.inl rfl) pe_int)
      (pss_cons (ps_set (i := 3) sc_power.nd rfl (.inl rfl) (pv 0))
      (pss_cons (ps_set (i := 4) sc_power.nd rfl (.inl rfl) (pv 1))
      (pss_cons (ps_while PassesOwn.never (pt_cmpR op_gt (pv 4) pe_int (nomark _))
      (pss_cons (ps_if (pt_truth (pe_op op_and (pv 4) pe_int) (by intro _; rfl))
        (pss_one (ps_set (i := 2) sc_power.nd rfl (.inl rfl) (pe_op op_mulW (pv 2) (pv 3))))
        pss_nil)
        (pss_cons (ps_set (i := 4) sc_power.nd rfl (.inl rfl) (pe_op op_shr (pv 4) pe_int))
        (pss_one (ps_if (pt_cmpR op_gt (pv 4) pe_int (nomark _))
        (pss_one (ps_set (i := 3) sc_power.nd rfl (.inl rfl) (pe_op op_mulW (pv 3) (pv 3))))
        pss_nil)))))
      (pss_one (ps_ret (pv 2))))))), ?_⟩
    have hP : 1 ≤ b ^ t := Nat.one_le_pow _ _ hb
    refine ⟨.int b, rfl, .int t, rfl, fun m σ H' => ∃ told square left : Nat, σ = [some (.int b), some (.int t), some (.int told), some (.int square), some (.int left)] ∧ H' = H ∧ m = left ∧ told * square ^ left = b ^ t ∧ 1 ≤ told ∧ 1 ≤ square,
      ⟨t, 1, b, t, rfl, rfl, rfl, by rw [Nat.one_mul], Nat.le_refl _, hb⟩, fun m σ H' hW => ?_⟩
    obtain ⟨told, square, left, rfl, rfl, rfl, he, ht, hs⟩ := hW
    have hsq : 1 ≤ square ^ m := Nat.one_le_pow _ _ hs
    have htb : told ≤ b ^ t := by rw [← he]; exact Nat.le_mul_of_pos_right _ hsq
    have hbt : (told : Int).natAbs < 2 ^ 400000 := Nat.lt_of_le_of_lt (by omega) hlt
    refine ⟨.int m, rfl, _, _, rfl, rfl, _, rfl, ite2 (fun e => ?_) (fun e => ?_)⟩
    · have h0 : (0 : Int) < m := of_decide_eq_true e
      have h0 : 0 < m := by omega
      have hq : square ≤ b ^ t := by
        rw [← he]
        refine Nat.le_trans ?_ (Nat.le_mul_of_pos_left _ ht)
        exact Nat.le_self_pow (by omega) square
      have hbs : (square : Int).natAbs < 2 ^ 400000 := Nat.lt_of_le_of_lt (by omega) hlt
      have ea : Builtin.bitAnd (m : Int) 1 = ((m % 2 : Nat) : Int) := by
        have := Bits.bitAnd_mask (x := (m : Int)) 1 (by omega)
        simpa using this
      have eh : ((m : Int) / 2 ^ (Int.toNat 1)) = ((m / 2 : Nat) : Int) := by
        show (m : Int) / 2 ^ 1 = _
        omega
      -- what stands behind the first if
      have rest : ∀ told' : Nat, told' * (square * square) ^ (m / 2) = b ^ t → 1 ≤ told' → told' = told ∨ told' = told * square →
          tSeq (tAsg (tOp (rI (fun _ j => 0 ≤ j) fun i j => .int (i / 2 ^ j.toNat)) (tVar 4) (tC (.int 1))) (gName 4)) (tIfS (tTest (tOp (rI0 fun i j => .bl (decide (j < i))) (tVar 4) (tC (.int 0)))) (tAsg (tOp (rI CMulW fun i j => .int (i * j)) (tVar 3) (tVar 3)) (gName 3)) tNext)
            { nx := fun σ H'' => ∃ told square left : Nat, σ = [some (.int b), some (.int t), some (.int told), some (.int square), some (.int left)] ∧ H'' = H' ∧ left < m ∧ told * square ^ left = b ^ t ∧ 1 ≤ told ∧ 1 ≤ square, rt := Q }
            [some (.int b), some (.int t), some (.int told'), some (.int square), some (.int m)] H' := by
        intro told' h1 h2 h3
        refine ⟨.int m, rfl, _, _, rfl, rfl, (show (0 : Int) ≤ 1 by decide), ?_⟩
        refine ⟨_, rfl, _, _, rfl, rfl, _, rfl, ite2 (fun e2 => ?_) (fun e2 => ?_)⟩
        · have h4 : (0 : Int) < (m : Int) / 2 ^ (Int.toNat 1) := of_decide_eq_true e2
          rw [eh] at h4
          refine ⟨.int square, rfl, .int square, rfl, _, _, rfl, rfl, wide_mul hbs hbs (by decide) (by decide) (by decide), told', square * square, m / 2, ?_, rfl, by omega, h1, h2, Nat.mul_pos hs hs⟩
          show [some (V.int b), some (V.int t), some (V.int told'), some (V.int ((square : Int) * (square : Int))), some (V.int ((m : Int) / 2 ^ (Int.toNat 1)))] = _
          rw [eh, Int.natCast_mul]
        · have h4 : ¬ (0 : Int) < (m : Int) / 2 ^ (Int.toNat 1) := fun z => e2 (decide_eq_true z)
          rw [eh] at h4
          have h5 : m / 2 = 0 := by omega
          refine ⟨told', square, 0, ?_, rfl, h0, ?_, h2, hs⟩
          · show [some (V.int b), some (V.int t), some (V.int told'), some (V.int square), some (V.int ((m : Int) / 2 ^ (Int.toNat 1)))] = _
            rw [eh, h5]
          · rw [h5] at h1
            exact h1
      refine ⟨fun σ H'' => ∃ told square left : Nat, σ = [some (.int b), some (.int t), some (.int told), some (.int square), some (.int left)] ∧ H'' = H' ∧ left < m ∧ told * square ^ left = b ^ t ∧ 1 ≤ told ∧ 1 ≤ square, fun σ' H'' ⟨a1, a2, a3, z1, z2, z3, z4⟩ => ⟨a3, z3, a1, a2, a3, z1, z2, rfl, z4⟩, ?_⟩
      refine ⟨.int m, rfl, _, _, rfl, rfl, (m % 2 == 1), ?_, ?_⟩
      · show (m % 2 == 1) = (Builtin.bitAnd (m : Int) 1 != 0)
        rw [ea]
        rcases Nat.mod_two_eq_zero_or_one m with z | z <;> rw [z] <;> rfl
      · refine ite2 (fun e1 => ?_) (fun e1 => ?_)
        · have e1 : m % 2 = 1 := by simpa using e1
          refine ⟨.int told, rfl, .int square, rfl, _, _, rfl, rfl, wide_mul hbt hbs (by decide) (by decide) (by decide), ?_⟩
          have := rest (told * square) (by rw [← pow_odd _ _ _ e1]; exact he) (Nat.mul_pos ht hs) (.inr rfl)
          rw [Int.natCast_mul] at this
          exact this
        · have e1 : m % 2 = 0 := by
            have : ¬ m % 2 = 1 := by simpa using e1
            omega
          exact rest told (by rw [← pow_even _ _ _ e1]; exact he) ht (.inl rfl)
    · have h0 : ¬ (0 : Int) < m := fun z => e (decide_eq_true z)
      have h0 : m = 0 := by omega
      subst h0
      refine ⟨.int told, rfl, ?_⟩
      rw [Nat.pow_zero, Nat.mul_one] at he
      rw [he]
      exact q
end
end K10
set_option Elab.async false
set_option linter.all false
set_option maxRecDepth 100000
set_option maxHeartbeats 4000000
namespace K10
open PySem PySem.Spec PyProof.Rows L2 Lc
section
variable {P : Program} {w : World} {K : PySem.W.Frag} {mg : Str → Option Value} {base : Heap} {f : Addr} {fd : FuncData}
/-! ### doublings, how_many -/
abbrev s_doublings : Stmt := topS 3
theorem sc_doublings : FnScope ["vocabulary", "size"] ["vocabulary", "size"] (defScope s_doublings) := ⟨rfl, rfl, rfl, by decide +kernel, rfl, by decide +kernel, by decide +kernel⟩
/-- a vocabulary of so many words -/
def Voc (K : PySem.W.Frag) (H : Hp) (v : Addr) (n0 n1 n2 : Nat) : Prop := ∃ a b c xs ys zs, H v = some (.tup [.ref a, .ref b, .ref c]) ∧ H a = some (.tup xs) ∧ H b = some (.tup ys) ∧ H c = some (.tup zs) ∧ xs.length = n0 ∧ ys.length = n1 ∧ zs.length = n2
def spDoublings (K : PySem.W.Frag) : Sp := fun vs H Q _ => ∃ (v : Addr) (n0 n1 n2 size : Nat), vs = [.ref v, .int size] ∧ Voc K H v n0 n1 n2 ∧ size ≤ 1000 ∧ Q (.int ((size * n1 + size * size * n2 : Nat) : Int)) H
theorem ok_doublings {k : Nat} (F : Fun K "doublings" "doublings" s_doublings f fd) (m_len : mg "len" = none) : FnOk P w K mg base CX0 (k + 1) f fd ["vocabulary", "size"] (spDoublings K) := by
  refine F.ok sc_doublings (fun vs H Q E h => ?_) (fun cdv A outer s H vs Q E hr h => ?_)
  · obtain ⟨v, n0, n1, n2, size, rfl, _⟩ := h
    rfl
  · obtain ⟨v, n0, n1, n2, size, rfl, ⟨a, b, c, xs, ys, zs, hv, ha, hb, hc, e0, e1, e2⟩, hz, q⟩ := h
    refine ⟨_, (pss_one (ps_ret (pe_op op_add (pe_op op_mul (pv 1) (pe_callB call_len_seq (by rfl) m_len (by decide +kernel) (pa_cons (pe_ix ix_tup (pv 0) pe_int (fun _ _ => rfl)) pa_nil))) (pe_op op_mul (pe_op op_mul (pv 1) (pv 1)) (pe_callB call_len_seq (by rfl) m_len (by decide +kernel) (pa_cons (pe_ix ix_tup (pv 0) pe_int (fun _ _ => rfl)) pa_nil)))))), ?_⟩
    refine ⟨_, rfl, .ref v, rfl, v, _, 1, .ref b, rfl, rfl, SqT.of hv, rfl, b, ys, rfl, .inr (SqT.of hb), _, _, rfl, rfl, .inl ⟨by omega, by omega⟩, ?_⟩
    refine ⟨_, rfl, _, rfl, _, _, rfl, rfl, .inl ⟨by omega, by omega⟩, .ref v, rfl, v, _, 2, .ref c, rfl, rfl, SqT.of hv, rfl, c, zs, rfl, .inr (SqT.of hc), _, _, rfl, rfl, .inl ?_, _, _, rfl, rfl, ?_⟩
    · have h1 : size * size ≤ 1000 * 1000 := Nat.mul_le_mul hz hz
      have h2 : ((size : Int) * (size : Int)) = ((size * size : Nat) : Int) := by rw [Int.natCast_mul]
      refine ⟨?_, ?_⟩
      · show -(2 ^ 64) < ((size : Int) * (size : Int))
        rw [h2]
        omega
      · show ((size : Int) * (size : Int)) < 2 ^ 64
        rw [h2]
        omega
    · subst e1 e2
      rw [Int.natCast_add, Int.natCast_mul, Int.natCast_mul, Int.natCast_mul] at q
      exact q
theorem shl_bits {n a : Nat} (h : n < 2 ^ a) : Builtin.Int.intBits (n : Int) ≤ a :=
  intBits_le_iff.mpr (show (n : Int).natAbs < 2 ^ a from h)
abbrev s_how_many : Stmt := topS 4
theorem sc_how_many : FnScope ["vocabulary", "size"] ["vocabulary", "size"] (defScope s_how_many) := ⟨rfl, rfl, rfl, by decide +kernel, rfl, by decide +kernel, by decide +kernel⟩
def spHowMany (K : PySem.W.Frag) : Sp := fun vs H Q _ => ∃ (v : Addr) (n0 n1 n2 size : Nat), vs = [.ref v, .int size] ∧ Voc K H v n0 n1 n2 ∧ 1 ≤ size ∧ size ≤ 100 ∧ n0 ≤ 6 ∧ n1 ≤ 6 ∧ n2 ≤ 3 ∧ Q (.int ((size ^ n0 * 2 ^ (size * n1 + size * size * n2) : Nat) : Int)) H
theorem ok_how_many {k : Nat} (F : Fun K "how_many" "how_many" s_how_many f fd) (m_len : mg "len" = none) (C_power : Dn P w K mg base "power" ["base", "times"] 1 spPower) (C_doublings : Dn P w K mg base "doublings" ["vocabulary", "size"] 1 (spDoublings K)) :
    FnOk P w K mg base CX0 (k + 2) f fd ["vocabulary", "size"] (spHowMany K) := by
  refine F.ok sc_how_many (fun vs H Q E h => ?_) (fun cdv A outer s H vs Q E hr h => ?_)
  · obtain ⟨v, n0, n1, n2, size, rfl, _⟩ := h
    rfl
  · obtain ⟨v, n0, n1, n2, size, rfl, hV, h1, h100, b0, b1, b2, q⟩ := h
    refine ⟨_, (pss_cons (ps_if (pt_cmpR op_lt (pv 1) pe_int (nomark _))
      (pss_one (ps_ret pe_int))
      pss_nil)
      (pss_one (ps_ret (pe_op op_shlW (Lc.pe_dn C_power (hr.mono (by omega)) (by rfl) (pa_cons (pv 1) (pa_cons (pe_callB call_len_seq (by rfl) m_len (by decide +kernel) (pa_cons (pe_ix ix_tup (pv 0) pe_int (fun _ _ => rfl)) pa_nil)) pa_nil))) (Lc.pe_dn C_doublings (hr.mono (by omega)) (by rfl) (pa_cons (pv 0) (pa_cons (pv 1) pa_nil))))))), ?_⟩
    obtain ⟨a, b, c, xs, ys, zs, hv, ha, hb, hc, e0, e1, e2⟩ := id hV
    refine ⟨_, rfl, _, _, rfl, rfl, _, rfl, ite2 (fun e => ?_) (fun e => ?_)⟩
    · have : (size : Int) < 1 := of_decide_eq_true e
      omega
    · have p1 : size ^ n0 < 2 ^ 60 := by
        have s1 : size ^ n0 ≤ 100 ^ n0 := Nat.pow_le_pow_left h100 n0
        have s2 : (100 : Nat) ^ n0 ≤ 100 ^ 6 := Nat.pow_le_pow_right (by decide) b0
        have s3 : (100 : Nat) ^ 6 < 2 ^ 60 := by decide
        omega
      have s4 : size * n1 ≤ 100 * 6 := Nat.mul_le_mul h100 b1
      have s5 : size * size * n2 ≤ 100 * 100 * 3 := Nat.mul_le_mul (Nat.mul_le_mul h100 h100) b2
      have p2 : 2 ^ (size * n1 + size * size * n2) < 2 ^ 400000 := Nat.pow_lt_pow_right (by decide) (by omega)
      have p3 : 2 ^ (size * n1 + size * size * n2) < 2 ^ 40000 := Nat.pow_lt_pow_right (by decide) (by omega)
      have p4 : size ^ n0 < 2 ^ 400000 := Nat.lt_of_lt_of_le p1 (Nat.pow_le_pow_right (by decide) (show 60 ≤ 400000 by omega))
      refine ⟨_, rfl, .ref v, rfl, v, _, 0, .ref a, rfl, rfl, SqT.of hv, rfl, a, xs, rfl, .inr (SqT.of ha), size, n0, ?_, h1, p4, ?_⟩
      · rw [e0]
        rfl
      · refine ⟨.ref v, rfl, _, rfl, v, n0, n1, n2, size, rfl, hV, by omega, _, _, rfl, rfl, ⟨Int.natCast_nonneg _, ?_⟩, ?_⟩
        · have hb := shl_bits (n := size ^ n0) (a := 60) p1
          omega
        · rw [Int.natCast_mul] at q
          exact q
/-! ### the deck -/
/-- a deck: its dict, its cells -/
def Dk (d c : Addr) (H : Hp) : Prop := ∃ (cells : List Int) (n s : Int), H d = some (.dK [(.inr "cells", .ref c), (.inr "at", .int n), (.inr "sum", .int s)]) ∧ H c = some (.lst (cells.map V.int)) ∧ cells.length ≤ 63
abbrev MD (d c : Addr) : Addr → Prop := fun b => b = d ∨ b = c
theorem Dk.ne {d c : Addr} {H : Hp} (h : Dk d c H) : d ≠ c := by
  obtain ⟨_, _, _, h1, h2, _⟩ := h
  exact ne_of h1 h2 (by intro z; cases z)
theorem Dk.keep {d c : Addr} {H : Hp} {p : Addr} {o : HO} (h : Dk d c H) (hp : ¬ MD d c p) : Dk d c (upd H p o) := by
  obtain ⟨cells, n, s, h1, h2, h3⟩ := h
  exact ⟨cells, n, s, by rw [upd_ne (fun e => hp (.inl e.symm))]; exact h1, by rw [upd_ne (fun e => hp (.inr e.symm))]; exact h2, h3⟩
theorem Dk.out {d c : Addr} {H : Hp} {p : Addr} (h : Dk d c H) (hp : H p = none) : ¬ MD d c p := by
  obtain ⟨cells, n, s, h1, h2, h3⟩ := h
  rintro (rfl | rfl)
  · rw [hp] at h1; cases h1
  · rw [hp] at h2; cases h2
theorem Dk.new {d c : Addr} {H : Hp} {p : Addr} {o : HO} (h : Dk d c H) (hp : H p = none) : Dk d c (upd H p o) := h.keep (h.out hp)
theorem Dk.tup {d c : Addr} {H : Hp} {p : Addr} {xs : List V} (h : Dk d c H) (hp : H p = some (.tup xs)) : ¬ MD d c p := by
  obtain ⟨cells, n, s, h1, h2, h3⟩ := h
  rintro (rfl | rfl)
  · rw [hp] at h1; cases h1
  · rw [hp] at h2; cases h2
abbrev s_w_deck : Stmt := topS 6
theorem sc_w_deck : FnScope ["_law_script", "_law_cells"] ["_law_script"] (defScope s_w_deck) := ⟨rfl, rfl, rfl, by decide +kernel, rfl, by decide +kernel, by decide +kernel⟩
def spDeck (K : PySem.W.Frag) : Sp := fun vs H Q _ => ∃ (a : Addr) (ns : List Int), vs = [.ref a] ∧ SqL K H a (ns.map V.int) ∧ ∀ d c H', Same H H' → Dk d c H' → Q (.ref d) H'
theorem ok_w_deck {k : Nat} (F : Fun K "_law_deck" "_law_deck" s_w_deck f fd) (m_len : mg "len" = none) (m_list : mg "list" = none) (m_sum : mg "sum" = none) : FnOk P w K mg base CX0 (k + 1) f fd ["_law_script"] (spDeck K) := by
  refine F.ok sc_w_deck (fun vs H Q E h => ?_) (fun cdv A outer s H vs Q E hr h => ?_)
  · obtain ⟨a, ns, rfl, _⟩ := h
    rfl
  · obtain ⟨a, ns, rfl, hS, q⟩ := h
    refine ⟨_, (pss_cons (ps_set (i := 1) sc_w_deck.nd rfl (.inl rfl) (pe_callTy call_list_of (by rfl) m_list (by decide +kernel) (pa_cons (pe_slice sl_list (pv 0) po_none (po_some pe_int)) pa_nil)))
      (pss_one (ps_ret (pe_disp (pps_cons pe_str (pv 1) (pps_cons pe_str pe_int (pps_cons pe_str (pe_op op_add (pe_op op_mod (pe_callB (cr_sum rfl) (by rfl) m_sum (by decide +kernel) (pa_cons (pv 1) pa_nil)) pe_int) (pe_callB call_len_seq (by rfl) m_len (by decide +kernel) (pa_cons (pv 1) pa_nil))) pps_nil))) (by rfl) (by rfl) (fun z => by cases z) (by decide))))), ?_⟩
    refine ⟨.ref a, rfl, _, rfl, a, _, rfl, hS, fun p np => ?_⟩
    have s1 := same_new (o := .lst (cutV (ns.map V.int) none (some 63))) np
    refine ⟨p, _, rfl, .inl (SqL.of upd_same), fun c nc => ?_⟩
    have ec : cutV (ns.map V.int) none (some 63) = (ns.take 63).map V.int := by
      rw [show (63 : Int) = ((63 : Nat) : Int) from rfl, cut_to, List.map_take]
    rw [ec] at nc s1 ⊢
    have s2 := same_new (o := .lst ((ns.take 63).map V.int)) nc
    intro d nd
    have s3 := same_new (o := .dK []) nd
    have ndc : d ≠ c := fun e => by
      rw [e, upd_same] at nd
      cases nd
    have hc : (upd (upd (upd H p (.lst ((ns.take 63).map V.int))) c (.lst ((ns.take 63).map V.int))) d (.dK [])) c = some (.lst ((ns.take 63).map V.int)) := by
      rw [upd_ne ndc.symm, upd_same]
    refine ⟨_, rfl, .ref c, rfl, c, ns.take 63, rfl, SqL.of hc, _, _, rfl, rfl, (show (0 : Int) < 2147483629 by decide), .ref c, rfl, c, _, rfl, .inl (SqL.of hc), _, _, rfl, rfl, upd_same,
      [(.inr "cells", .ref c), (.inr "at", .int 0), (.inr "sum", .int ((ns.take 63).sum % 2147483629 + (((ns.take 63).map V.int).length : Int)))], rfl, (by show 3 ≤ 15; decide), ?_⟩
    refine q d c _ (fun b o e => ?_) ⟨ns.take 63, 0, _, upd_same, ?_, ?_⟩
    · have e1 := s3 _ _ (s2 _ _ (s1 _ _ e))
      rw [upd_ne (ne_of_none (s2 _ _ (s1 _ _ e)) nd)]
      exact e1
    · rw [upd_ne ndc.symm]
      exact hc
    · rw [List.length_take]
      omega
/-! ### a draw -/
abbrev s_w_draw : Stmt := topS 7
theorem sc_w_draw : FnScope ["_law_deck_here", "_law_most", "_law_cells", "_law_seed", "_law_number"] ["_law_deck_here", "_law_most"] (defScope s_w_draw) := ⟨rfl, rfl, rfl, by decide +kernel, rfl, by decide +kernel, by decide +kernel⟩
def spDraw : Sp := fun vs H Q _ => ∃ (d c : Addr) (m : Int), vs = [.ref d, .int m] ∧ Dk d c H ∧ 0 < m ∧ m < 1073741824 ∧ ∀ r H', 0 ≤ r → r < m → Fr (MD d c) H H' → Dk d c H' → Q (.int r) H'
theorem ok_w_draw {k : Nat} (F : Fun K "_law_draw" "_law_draw" s_w_draw f fd) : FnOk P w K mg base CX0 (k + 1) f fd ["_law_deck_here", "_law_most"] spDraw := by
  refine F.ok sc_w_draw (fun vs H Q E h => ?_) (fun cdv A outer s H vs Q E hr h => ?_)
  · obtain ⟨d, c, m, rfl, _⟩ := h
    rfl
  · obtain ⟨d, c, m, rfl, ⟨cells, n, sm, hd, hc, hl⟩, hm, hm2, q⟩ := h
    refine ⟨_, (pss_cons (ps_dput (hu_of hr) (pv 0) pe_str (pe_op op_add (pe_dget (hu_of hr) (pv 0) pe_str (fun _ _ => rfl)) pe_int) rfl)
      (pss_cons (ps_set (i := 2) sc_w_draw.nd rfl (.inl rfl) (pe_dget (hu_of hr) (pv 0) pe_str (fun _ _ => rfl)))
      (pss_cons (ps_set (i := 3) sc_w_draw.nd rfl (.inl rfl) (pe_dget (hu_of hr) (pv 0) pe_str (fun _ _ => rfl)))
      (pss_cons (ps_if (pt_cmpR (op_neD hr.units) (pv 2) (pe_lst pa_nil) (nomark _))
      (pss_cons (ps_set (i := 3) sc_w_draw.nd rfl (.inl rfl) (pe_bm PySem.F.plainAttrs_list PySem.F.slot_list_pop PySem.F.type_list_pop mt_popAt (pv 2) (pa_cons pe_int pa_nil)))
        (pss_one (ps_if (pt_cmpR op_ge (pv 3) (pe_op op_pow pe_int pe_int) (nomark _))
        (pss_cons (ps_expr (pe_bm PySem.F.plainAttrs_list PySem.F.slot_list_insert PySem.F.type_list_insert mt_insert (pv 2) (pa_cons pe_int (pa_cons (pe_op op_fdiv (pv 3) (pv 1)) pa_nil))))
          (pss_one (ps_ret (pe_op op_mod (pv 3) (pv 1)))))
        pss_nil)))
      pss_nil)
      (pss_cons (ps_set (i := 4) sc_w_draw.nd rfl (.inl rfl) (pe_op op_mod (pe_op op_add (pe_op op_add (pe_op op_mul (pe_op op_mod (pv 3) pe_int) pe_int) (pe_op op_mul pe_int (pe_dget (hu_of hr) (pv 0) pe_str (fun _ _ => rfl)))) pe_int) pe_int))
      (pss_cons (ps_set (i := 4) sc_w_draw.nd rfl (.inl rfl) (pe_op op_mod (pe_op op_mul (pv 4) (pv 4)) pe_int))
      (pss_one (ps_ret (pe_op op_mod (pe_op op_mod (pe_op op_mul (pv 4) (pe_op op_add (pv 4) pe_int)) pe_int) (pv 1)))))))))), ?_⟩
    have ndc : d ≠ c := ne_of hd hc (by intro z; cases z)
    -- at + 1
    refine ⟨.ref d, rfl, d, .int n, rfl, DGet.k (k := .inr "at") hd, n, 1, rfl, rfl, .ref d, rfl, d, _, rfl, DPut.k (k := .inr "at") hd (by show 3 < sizeLine; decide), ?_⟩
    rw [show putK [(Sum.inr ("cells" : Str), V.ref c), (Sum.inr ("at" : Str), V.int n), (Sum.inr ("sum" : Str), V.int sm)] (Sum.inr ("at" : Str)) (V.int (n + 1)) = [(Sum.inr ("cells" : Str), V.ref c), (Sum.inr ("at" : Str), V.int (n + 1)), (Sum.inr ("sum" : Str), V.int sm)] from rfl]
    generalize hH1 : upd H d (.dK [(.inr "cells", .ref c), (.inr "at", .int (n + 1)), (.inr "sum", .int sm)]) = H1
    have hd1 : H1 d = some (.dK [(.inr "cells", .ref c), (.inr "at", .int (n + 1)), (.inr "sum", .int sm)]) := by rw [← hH1, upd_same]
    have hc1 : H1 c = some (.lst (cells.map V.int)) := by rw [← hH1, upd_ne ndc.symm]; exact hc
    have f1 : Fr (MD d c) H H1 := by rw [← hH1]; exact Fr.mut (.inl rfl)
    refine ⟨.ref d, rfl, d, .ref c, rfl, DGet.k (k := .inr "cells") hd1, .ref d, rfl, d, .int sm, rfl, DGet.k (k := .inr "sum") hd1, ?_⟩
    -- the mixing, from any seed
    have mix : ∀ (seed : Int) (H2 : Hp) (x : Option V), Fr (MD d c) H H2 → Dk d c H2 → H2 d = some (.dK [(.inr "cells", .ref c), (.inr "at", .int (n + 1)), (.inr "sum", .int sm)]) →
        (tSeq (tAsg (tOp (rI (fun _ j => 0 < j) fun i j => .int (i % j)) (tOp (rI0 fun i j => .int (i + j)) (tOp (rI0 fun i j => .int (i + j)) (tOp (rI CMul fun i j => .int (i * j)) (tOp (rI (fun _ j => 0 < j) fun i j => .int (i % j)) (tVar 3) (tC (.int 2147483647))) (tC (.int 48271))) (tOp (rI CMul fun i j => .int (i * j)) (tC (.int 69621)) (tDGet (tVar 0) (tC (.str "at"))))) (tC (.int 7919))) (tC (.int 2147483629))) (gName 4))
          (tSeq (tAsg (tOp (rI (fun _ j => 0 < j) fun i j => .int (i % j)) (tOp (rI CMul fun i j => .int (i * j)) (tVar 4) (tVar 4)) (tC (.int 2147483587))) (gName 4))
          (tRet (tOp (rI (fun _ j => 0 < j) fun i j => .int (i % j)) (tOp (rI (fun _ j => 0 < j) fun i j => .int (i % j)) (tOp (rI CMul fun i j => .int (i * j)) (tVar 4) (tOp (rI0 fun i j => .int (i + j)) (tVar 4) (tC (.int 69621)))) (tC (.int 2147483563))) (tVar 1)))))
          { nx := fun _ H' => Q .non H', rt := Q } [some (.ref d), some (.int m), some (.ref c), some (.int seed), none] H2 := by
      intro seed H2 x f2 k2 hd2
      refine ⟨_, rfl, _, _, rfl, rfl, (show (0 : Int) < 2147483647 by decide), _, _, rfl, rfl, .inr ⟨by decide, by decide⟩, .ref d, rfl, d, .int (n + 1), rfl, DGet.k (k := .inr "at") hd2, _, _, rfl, rfl, .inl ⟨by decide, by decide⟩, _, _, rfl, rfl, _, _, rfl, rfl, _, _, rfl, rfl, (show (0 : Int) < 2147483629 by decide), ?_⟩
      refine ⟨_, rfl, _, rfl, _, _, rfl, rfl, .inl ⟨?_, ?_⟩, _, _, rfl, rfl, (show (0 : Int) < 2147483587 by decide), ?_⟩
      · show -(2 ^ 64) < (seed % 2147483647 * 48271 + 69621 * (n + 1) + 7919) % 2147483629
        omega
      · show (seed % 2147483647 * 48271 + 69621 * (n + 1) + 7919) % 2147483629 < 2 ^ 64
        omega
      · generalize hz : ((seed % 2147483647 * 48271 + 69621 * (n + 1) + 7919) % 2147483629 * ((seed % 2147483647 * 48271 + 69621 * (n + 1) + 7919) % 2147483629)) = z
        refine ⟨.int (z % 2147483587), by rw [← hz]; rfl, .int (z % 2147483587), by rw [← hz]; rfl, _, _, rfl, rfl, _, _, rfl, rfl, .inl ⟨by omega, by omega⟩, _, _, rfl, rfl, (show (0 : Int) < 2147483563 by decide), _, rfl, _, _, rfl, rfl, hm, ?_⟩
        exact q _ H2 (Int.emod_nonneg _ (by omega)) (Int.emod_lt_of_pos _ hm) f2 k2
    -- cells != []
    refine ⟨.ref c, rfl, Nat.zero_le _, fun o no => ?_⟩
    have nod : o ≠ d := fun e => by rw [e, hd1] at no; cases no
    have noc : o ≠ c := fun e => by rw [e, hc1] at no; cases no
    have hd2 : (upd H1 o (.lst [])) d = some (.dK [(.inr "cells", .ref c), (.inr "at", .int (n + 1)), (.inr "sum", .int sm)]) := by rw [upd_ne nod.symm]; exact hd1
    have hc2 : (upd H1 o (.lst [])) c = some (.lst (cells.map V.int)) := by rw [upd_ne noc.symm]; exact hc1
    have f2 : Fr (MD d c) H (upd H1 o (.lst [])) := f1.trans (Fr.new no)
    have ho2 : (upd H1 o (.lst [])) o = some (.lst []) := upd_same
    generalize upd H1 o (.lst []) = H2 at hd2 hc2 f2 ho2 ⊢
    refine ⟨.list (cells.map PyData.int), .list [], .lst (SqL.of hc2) (dpI cells), .lst (SqL.of ho2) .nil, shInts cells, rfl, _, rfl, ?_⟩
    rw [eqv_nil]
    cases cells with
    | nil => exact iteF (mix sm H2 none f2 ⟨[], n + 1, sm, hd2, hc2, by simp⟩ hd2)
    | cons x r =>
      refine iteT ?_
      have hl' : r.length + 1 ≤ 63 := hl
      -- cells.pop(0)
      refine ⟨.ref c, rfl, .inl ⟨rfl, _, SqL.of hc2⟩, c, _, 0, 0, .int x, rfl, rfl, hc2, (by decide), (by decide), ?_, rfl, ?_⟩
      · show seqIndex? 0 ((x :: r).map V.int).length = some 0
        rw [List.length_map, List.length_cons]
        simp [seqIndex?]
      · have hd3 : (upd H2 c (.lst (r.map V.int))) d = some (.dK [(.inr "cells", .ref c), (.inr "at", .int (n + 1)), (.inr "sum", .int sm)]) := by rw [upd_ne ndc]; exact hd2
        have hc3 : (upd H2 c (.lst (r.map V.int))) c = some (.lst (r.map V.int)) := upd_same
        have f3 : Fr (MD d c) H (upd H2 c (.lst (r.map V.int))) := f2.trans (Fr.mut (.inr rfl))
        show tSeq _ _ _ _ (upd H2 c (.lst (r.map V.int)))
        generalize upd H2 c (.lst (r.map V.int)) = H3 at hd3 hc3 f3 ⊢
        -- if seed >= 10 ** 18
        refine ⟨.int x, rfl, 10, 18, rfl, rfl, ⟨by decide, by decide, by decide⟩, _, _, rfl, rfl, _, rfl, ite2 (fun e => ?_) (fun e => ?_)⟩
        · -- cells.insert(0, seed // most)
          refine ⟨.ref c, rfl, .inl ⟨rfl, _, SqL.of hc3⟩, .int x, rfl, .int m, rfl, x, m, rfl, rfl, ⟨hm, hm2⟩, c, _, 0, _, rfl, rfl, hc3, ?_, (by decide), (by decide), ?_⟩
          · rw [List.length_map]
            exact szl (by omega)
          · have hd4 : (upd H3 c (.lst ((x / m :: r).map V.int))) d = some (.dK [(.inr "cells", .ref c), (.inr "at", .int (n + 1)), (.inr "sum", .int sm)]) := by rw [upd_ne ndc]; exact hd3
            have f4 : Fr (MD d c) H (upd H3 c (.lst ((x / m :: r).map V.int))) := f3.trans (Fr.mut (.inr rfl))
            refine ⟨.int x, rfl, .int m, rfl, x, m, rfl, rfl, hm, ?_⟩
            exact q _ (upd H3 c (.lst ((x / m :: r).map V.int))) (Int.emod_nonneg _ (by omega)) (Int.emod_lt_of_pos _ hm) f4 ⟨x / m :: r, n + 1, sm, hd4, upd_same, hl⟩
        · exact mix x H3 none f3 ⟨r, n + 1, sm, hd3, hc3, by omega⟩ hd3
end
end K10
set_option Elab.async false
set_option linter.all false
set_option maxRecDepth 100000
set_option maxHeartbeats 4000000
namespace K10
open PySem PySem.Spec PyProof.Rows L2 Lc
/-! ### the tongue's own words, as the law lists them -/
def own1 : List Str := ["all", "an", "and", "any", "are", "as", "at", "be", "by", "if", "is", "least", "many", "more", "no", "not"]
def own2 : List Str := ["only", "or", "same", "some", "than", "the", "then", "there", "every", "either", "unless", "false"]
def own : List Str := own1 ++ own2 ++ [("absurd" : Str)]
def ownC : List (List Nat) := own.map fun s => s.cps.toList
theorem own_bound : ∀ o ∈ ownC, (ownC.filter fun q => decide (q.dropLast = o.dropLast)).length ≤ 3 := by decide +kernel
/-- a word of small signs -/
def Wd (s : Str) : Prop := ∃ l, s = tx l ∧ Low l ∧ 1 ≤ l.length ∧ l.length ≤ 8
theorem Wd.lay {s : Str} (h : Wd s) : PyData.canLay0 (.str s) = true := by
  obtain ⟨l, rfl, h, _⟩ := h
  exact h.lay
def abcL : List Nat := (List.range 26).map fun i => 97 + i
theorem abc_eq : ("abcdefghijklmnopqrstuvwxyz" : Str) = tx abcL := by decide +kernel
theorem abc_at {i : Nat} (h : i < 26) : atI ("abcdefghijklmnopqrstuvwxyz" : Str).cps.toList (i : Int) = some (97 + i) := by
  refine atI_nat ?_
  rw [abc_eq, tx_cps]
  unfold abcL
  rw [List.getElem?_map, List.getElem?_range h]
  rfl
theorem abc_ix : ∀ i : Fin 26, Builtin.Str.occurrences ("abcdefghijklmnopqrstuvwxyz" : Str) ⟨#[97 + i.val]⟩ 0 26 1 = [i.val] := by decide +kernel
theorem abc_find {c : Nat} (h : 97 ≤ c ∧ c ≤ 122) : Builtin.Str.occurrences ("abcdefghijklmnopqrstuvwxyz" : Str) ⟨#[c]⟩ 0 ("abcdefghijklmnopqrstuvwxyz" : Str).length 1 = (c - 97) :: [] := by
  have := abc_ix ⟨c - 97, by omega⟩
  simp only at this
  rw [show 97 + (c - 97) = c by omega] at this
  exact this
/-- which last sign is free -/
theorem word_free (known : List Str) (p : List Nat) (hk : known.length ≤ 8) : ∃ i, i < 26 ∧ tx (p ++ [97 + i]) ∉ known ∧ tx (p ++ [97 + i]) ∉ own := by
  obtain ⟨i, hi, h1, h2⟩ := free_sign (known.map fun s => s.cps.toList) ownC 3 own_bound (by rw [List.length_map]; omega) p
  refine ⟨i, hi, fun h => h1 (List.mem_map.mpr ⟨_, h, tx_cps _⟩), fun h => h2 (List.mem_map.mpr ⟨_, h, tx_cps _⟩)⟩
section
variable {P : Program} {w : World} {K : PySem.W.Frag} {mg : Str → Option Value} {base : Heap} {f : Addr} {fd : FuncData}
abbrev s_w_word : Stmt := topS 8
theorem sc_w_word : FnScope ["_law_deck_here", "_law_least", "_law_known", "_law_letters", "_law_own", "_law_number", "_law_word_here", "_law_k"] ["_law_deck_here", "_law_least", "_law_known"] (defScope s_w_word) := ⟨rfl, rfl, rfl, by decide +kernel, rfl, by decide +kernel, by decide +kernel⟩
def spWord : Sp := fun vs H Q _ => ∃ (d c ka : Addr) (least : Nat) (known : List Str), vs = [.ref d, .int least, .ref ka] ∧ Dk d c H ∧ 1 ≤ least ∧ least ≤ 2 ∧ H ka = some (.lst (known.map V.str)) ∧ ¬ MD d c ka ∧ known.length ≤ 8 ∧ (∀ x ∈ known, Wd x) ∧
  ∀ l H', Low l → least ≤ l.length → l.length ≤ 8 → tx l ∉ known → tx l ∉ own → Fr (MD d c) H H' → Dk d c H' → Q (.str (tx l)) H'
theorem ok_w_word {k : Nat} (F : Fun K "_law_word" "_law_word" s_w_word f fd) (m_range : mg "range" = none) (C_w_draw : Dn P w K mg base "_law_draw" ["_law_deck_here", "_law_most"] 1 spDraw) :
    FnOk P w K mg base CX0 (k + 2) f fd ["_law_deck_here", "_law_least", "_law_known"] spWord := by
  refine F.ok sc_w_word (fun vs H Q E h => ?_) (fun cdv A outer s H vs Q E hr h => ?_)
  · obtain ⟨d, c, ka, least, known, rfl, _⟩ := h
    rfl
  · obtain ⟨d, c, ka, least, known, rfl, hD, hl1, hl2, hka, nka, hkn, hkw, q⟩ := h
    refine ⟨_, (pss_cons (ps_set (i := 3) sc_w_word.nd rfl (.inl rfl) pe_str)
      (pss_cons (ps_set (i := 4) sc_w_word.nd rfl (.inl rfl) (pe_lst (pa_cons pe_str (pa_cons pe_str (pa_cons pe_str (pa_cons pe_str (pa_cons pe_str (pa_cons pe_str (pa_cons pe_str (pa_cons pe_str (pa_cons pe_str (pa_cons pe_str (pa_cons pe_str (pa_cons pe_str (pa_cons pe_str (pa_cons pe_str (pa_cons pe_str (pa_cons pe_str pa_nil))))))))))))))))))
      (pss_cons (ps_set (i := 4) sc_w_word.nd rfl (.inl rfl) (pe_op op_cat (pv 4) (pe_lst (pa_cons pe_str (pa_cons pe_str (pa_cons pe_str (pa_cons pe_str (pa_cons pe_str (pa_cons pe_str (pa_cons pe_str (pa_cons pe_str (pa_cons pe_str (pa_cons pe_str (pa_cons pe_str (pa_cons pe_str pa_nil)))))))))))))))
      (pss_cons (ps_set (i := 5) sc_w_word.nd rfl (.inl rfl) (Lc.pe_dn C_w_draw (hr.mono (by omega)) (by rfl) (pa_cons (pv 0) (pa_cons pe_int pa_nil))))
      (pss_cons (ps_set (i := 5) sc_w_word.nd rfl (.inl rfl) (pe_op op_add (pv 5) (pe_op op_mul pe_int (Lc.pe_dn C_w_draw (hr.mono (by omega)) (by rfl) (pa_cons (pv 0) (pa_cons pe_int pa_nil))))))
      (pss_cons (ps_set (i := 6) sc_w_word.nd rfl (.inl rfl) pe_str)
      (pss_cons (ps_for PassesOwn.never rfl (pi_range1 (by rfl) m_range (pa_cons (pe_op op_add (pv 1) (Lc.pe_dn C_w_draw (hr.mono (by omega)) (by rfl) (pa_cons (pv 0) (pa_cons (pe_op op_sub pe_int (pv 1)) pa_nil)))) pa_nil)) (pg_name (i := 7) sc_w_word.nd rfl (.inl rfl))
      (pss_cons (ps_set (i := 6) sc_w_word.nd rfl (.inl rfl) (pe_op op_add_str (pv 6) (pe_ix ix_str (pv 3) (pe_op op_mod (pv 5) pe_int) (fun _ _ => rfl))))
        (pss_one (ps_set (i := 5) sc_w_word.nd rfl (.inl rfl) (pe_op op_fdiv (pv 5) pe_int)))))
      (Evl.pss_cut (ps_if (PW.pt (pw_and (pt_cmpR (op_neD hr.units) (pv 2) (pe_lst pa_nil) (nomark _)) (pw_and1 (pt_cmpR op_eq (Lc.pe_dn C_w_draw (hr.mono (by omega)) (by rfl) (pa_cons (pv 0) (pa_cons pe_int pa_nil))) pe_int (nomark _)))))
      (pss_one (ps_set (i := 6) sc_w_word.nd rfl (.inl rfl) (pe_slice sl_str (pe_op op_add_str (pe_ix ix_list (pv 2) (pe_un un_neg pe_int) (fun _ _ => rfl)) (pv 6)) po_none (po_some pe_int))))
      pss_nil)
      (pss_cons (ps_while PassesOwn.never (PW.pt (pw_or (pt_cmpR op_in_seq (pv 6) (pv 2) (by rfl)) (pw_or1 (pt_cmpR op_in_seq (pv 6) (pe_op op_cat (pv 4) (pe_lst (pa_cons pe_str pa_nil))) (by rfl)))))
      (pss_one (ps_set (i := 6) sc_w_word.nd rfl (.inl rfl) (pe_op op_add_str (pe_slice sl_str (pv 6) po_none (po_some (pe_un un_neg pe_int))) (pe_ix ix_str (pv 3) (pe_op op_mod (pe_op op_add (pe_bm PySem.F.plainAttrs_str PySem.F.slot_str_index PySem.F.type_str_index mt_sindex (pv 3) (pa_cons (pe_ix ix_str (pv 6) (pe_un un_neg pe_int) (fun _ _ => rfl)) pa_nil)) pe_int) pe_int) (fun _ _ => rfl))))))
      (pss_one (ps_ret (pv 6)))))))))))), ?_⟩
    -- the own words
    refine ⟨sz (by show 16 ≤ 100000; decide), fun o1 no1 => ?_⟩
    have f1 : Fr (MD d c) H (upd H o1 (.lst (own1.map V.str))) := Fr.new no1
    have D1 : Dk d c (upd H o1 (.lst (own1.map V.str))) := hD.new no1
    refine ⟨.ref o1, rfl, sz (by show 12 ≤ 100000; decide), fun o2 no2 => ?_⟩
    change (upd H o1 (.lst (own1.map V.str))) o2 = none at no2
    have ne12 : o1 ≠ o2 := fun e => by rw [← e, upd_same] at no2; cases no2
    have f2 : Fr (MD d c) H (upd (upd H o1 (.lst (own1.map V.str))) o2 (.lst (own2.map V.str))) := f1.trans (Fr.new no2)
    have D2 : Dk d c (upd (upd H o1 (.lst (own1.map V.str))) o2 (.lst (own2.map V.str))) := D1.new no2
    refine ⟨o1, o2, own1.map V.str, own2.map V.str, rfl, rfl, by rw [upd_ne ne12]; exact upd_same, upd_same, sz (by show 16 + 12 ≤ 100000; decide), fun o3 no3 => ?_⟩
    change (upd (upd H o1 (.lst (own1.map V.str))) o2 (.lst (own2.map V.str))) o3 = none at no3
    have f3 : Fr (MD d c) H (upd (upd (upd H o1 (.lst (own1.map V.str))) o2 (.lst (own2.map V.str))) o3 (.lst (own1.map V.str ++ own2.map V.str))) := f2.trans (Fr.new no3)
    have D3 : Dk d c (upd (upd (upd H o1 (.lst (own1.map V.str))) o2 (.lst (own2.map V.str))) o3 (.lst (own1.map V.str ++ own2.map V.str))) := D2.new no3
    have n3 : ¬ MD d c o3 := D2.out no3
    have h3 : (upd (upd (upd H o1 (.lst (own1.map V.str))) o2 (.lst (own2.map V.str))) o3 (.lst (own1.map V.str ++ own2.map V.str))) o3 = some (.lst ((own1 ++ own2).map V.str)) := by rw [upd_same, List.map_append]
    show tSeq _ _ _ _ (upd (upd (upd H o1 (.lst (own1.map V.str))) o2 (.lst (own2.map V.str))) o3 (.lst (own1.map V.str ++ own2.map V.str)))
    generalize (upd (upd (upd H o1 (.lst (own1.map V.str))) o2 (.lst (own2.map V.str))) o3 (.lst (own1.map V.str ++ own2.map V.str))) = H3 at f3 D3 h3 ⊢
    -- the number
    refine ⟨.ref d, rfl, d, c, _, rfl, D3, by decide, by decide, fun r1 H4 r1a r1b f4 D4 => ?_⟩
    have f4 := f3.trans f4
    have h4 := (show Fr (MD d c) H3 H4 by assumption).at h3 n3
    refine ⟨.int r1, rfl, .ref d, rfl, d, c, _, rfl, D4, by decide, by decide, fun r2 H5 r2a r2b f5 D5 => ?_⟩
    have h5 := f5.at h4 n3
    have f5 := f4.trans f5
    refine ⟨456976, r2, rfl, rfl, .inl ⟨by decide, by decide⟩, r1, _, rfl, rfl, ?_⟩
    -- the loop
    refine ⟨_, rfl, .ref d, rfl, _, rfl, _, _, rfl, rfl, d, c, _, rfl, D5, by omega, by omega, fun r3 H6 r3a r3b f6 D6 => ?_⟩
    have h6 := f6.at h5 n3
    have f6 := f5.trans f6
    refine ⟨_, _, rfl, rfl, _, rfl, by omega, by omega, ?_⟩
    obtain ⟨n, hn⟩ : ∃ n : Nat, (least : Int) + r3 = (n : Int) := ⟨((least : Int) + r3).toNat, by omega⟩
    refine for_range (lo := 0) (n := ((least : Int) + r3).toNat) (fun i σ H' => ∃ (num : Int) (l : List Nat) (y : Option V), σ = [some (.ref d), some (.int least), some (.ref ka), some (.str "abcdefghijklmnopqrstuvwxyz"), some (.ref o3), some (.int num), some (.str (tx l)), y] ∧ H' = H6 ∧ Low l ∧ l.length = i)
      ⟨_, [], none, rfl, rfl, (fun _ z => nomatch z), rfl⟩ (fun i σ H' hi ⟨num, l, y, e1, e2, e3, e4⟩ => ?_) (fun σ H' ⟨num, l, y, e1, e2, e3, e4⟩ => ?_)
    · subst e1 e2
      have hb : num % 26 = (((num % 26).toNat : Nat) : Int) := by omega
      refine ⟨.str (tx l), rfl, _, rfl, .int num, rfl, num, 26, rfl, rfl, (show (0 : Int) < 26 by decide), _, num % 26, 97 + (num % 26).toNat, rfl, rfl, sz (by decide +kernel), ?_, _, _, rfl, rfl, ?_, ?_⟩
      · rw [hb]
        exact abc_at (by omega)
      · rw [tx_len]
        show l.length + 1 ≤ sizeLine
        exact sz (by omega)
      · refine ⟨.int num, rfl, num, 26, rfl, rfl, ⟨by decide, by decide⟩, num / 26, l ++ [97 + (num % 26).toNat], some (.int (0 + (i : Int))), ?_, rfl, e3.app ?_, ?_⟩
        · rw [← tx_app, tx_one]
          rfl
        · intro c hc
          have : c = 97 + (num % 26).toNat := by simpa using hc
          omega
        · rw [List.length_append, e4]
          rfl
    · subst e1 e2
      have hl : least ≤ l.length ∧ l.length ≤ 8 := by omega
      -- what may go on
      refine ⟨fun σ H'' => ∃ (num : Int) (l : List Nat) (y : Option V), σ = [some (.ref d), some (.int least), some (.ref ka), some (.str "abcdefghijklmnopqrstuvwxyz"), some (.ref o3), some (.int num), some (.str (tx l)), y] ∧ Fr (MD d c) H H'' ∧ Dk d c H'' ∧ H'' o3 = some (.lst ((own1 ++ own2).map V.str)) ∧ Low l ∧ least ≤ l.length ∧ l.length ≤ 8, ?_, ?_⟩
      · have hk6 : H' ka = some (.lst (known.map V.str)) := f6.at hka nka
        refine ⟨.ref ka, rfl, Nat.zero_le _, fun o no => ?_⟩
        have nok : ka ≠ o := ne_of_none hk6 no
        have hk7 : (upd H' o (.lst [])) ka = some (.lst (known.map V.str)) := by rw [upd_ne nok]; exact hk6
        have h7 : (upd H' o (.lst [])) o3 = some (.lst ((own1 ++ own2).map V.str)) := by rw [upd_ne (ne_of_none h6 no)]; exact h6
        have f7 : Fr (MD d c) H (upd H' o (.lst [])) := f6.trans (Fr.new no)
        have D7 : Dk d c (upd H' o (.lst [])) := D6.new no
        have ho : (upd H' o (.lst [])) o = some (.lst []) := upd_same
        generalize upd H' o (.lst []) = H7 at hk7 h7 f7 D7 ho ⊢
        refine ⟨.list (known.map PyData.str), .list [], .lst (SqL.of hk7) (dpS known), .lst (SqL.of ho) .nil, shStrs known (fun x hx => (hkw x hx).lay), rfl, _, rfl, ?_⟩
        rw [eqv_nil]
        cases known with
        | nil =>
          refine iteF ?_
          exact ⟨num, l, y, rfl, f7, D7, h7, e3, hl⟩
        | cons x0 rest0 =>
          refine iteT ?_
          refine ⟨.ref d, rfl, d, c, 4, rfl, D7, by decide, by decide, fun r4 H8 r4a r4b f8 D8 => ?_⟩
          have h8 := f8.at h7 n3
          have hk8 := f8.at hk7 nka
          have f8 := f7.trans f8
          refine ⟨rfl, _, rfl, ite2 (fun _ => ?_) (fun _ => ?_)⟩
          · -- known[-1]
            obtain ⟨ini, x, hx⟩ : ∃ ini x, (x0 :: rest0) = ini ++ [x] := ⟨_, _, (List.dropLast_concat_getLast (List.cons_ne_nil x0 rest0)).symm⟩
            rw [hx] at hk8 hkw
            obtain ⟨lx, ex, lxL, lx1, lx8⟩ := hkw x (by simp)
            subst ex
            have ha : atI ((ini ++ [tx lx]).map V.str) (-1) = some (.str (tx lx)) := by
              rw [List.map_append]
              exact atI_last _ _
            refine ⟨.ref ka, rfl, 1, rfl, ka, _, -1, _, rfl, rfl, SqL.of hk8, ha, .str (tx l), rfl, _, _, rfl, rfl, ?_, 8, rfl, _, rfl, ?_, ?_⟩
            · rw [tx_len, tx_len]
              exact sz (by omega)
            · rw [tx_app, tx_len, List.length_append]
              exact sz (by omega)
            · refine ⟨num, (lx ++ l).take 8, y, ?_, f8, D8, h8, (lxL.app e3).take 8, ?_, ?_⟩
              · rw [tx_app, show (8 : Int) = ((8 : Nat) : Int) from rfl, cutS_to]
                rfl
              · rw [List.length_take, List.length_append]
                omega
              · rw [List.length_take]
                omega
          · exact ⟨num, l, y, rfl, f8, D8, h8, e3, hl⟩
      · rintro σ H7 ⟨num, l, y, e1, f7, D7, h7, e3, hl⟩
        subst e1
        obtain ⟨p, x, hx⟩ : ∃ p x, l = p ++ [x] := by
          have : l ≠ [] := fun z => by rw [z] at hl; simp at hl; omega
          exact ⟨_, _, (List.dropLast_concat_getLast this).symm⟩
        subst hx
        have hxL := e3 x (by simp)
        have pL : Low p := fun c hc => e3 c (List.mem_append_left _ hc)
        have plen : least ≤ p.length + 1 ∧ p.length + 1 ≤ 8 := by
          rw [List.length_append] at hl
          exact hl
        obtain ⟨i0, hi0, g1, g2⟩ := word_free known p hkn
        refine ⟨fun m σ H' => ∃ (j : Nat), j < 26 ∧ (j + m) % 26 = i0 ∧ σ = [some (.ref d), some (.int least), some (.ref ka), some (.str "abcdefghijklmnopqrstuvwxyz"), some (.ref o3), some (.int num), some (.str (tx (p ++ [97 + j]))), y] ∧ Fr (MD d c) H H' ∧ Dk d c H' ∧ H' o3 = some (.lst ((own1 ++ own2).map V.str)),
          ⟨(i0 + 26 - (x - 97)) % 26, x - 97, by omega, by omega, by rw [show 97 + (x - 97) = x by omega], f7, D7, h7⟩, fun m σ H8 hW => ?_⟩
        obtain ⟨j, hj, hjm, e1, f8, D8, h8⟩ := hW
        subst e1
        have hk8 : H8 ka = some (.lst (known.map V.str)) := f8.at hka nka
        -- the step, where the word is taken
        have step : ∀ H9 : Hp, tx (p ++ [97 + j]) ∈ known ∨ tx (p ++ [97 + j]) ∈ own → Fr (MD d c) H H9 → Dk d c H9 → H9 o3 = some (.lst ((own1 ++ own2).map V.str)) → ∃ N : L2.St → Hp → Prop, (∀ σ' H', N σ' H' → ∃ m', m' < m ∧ ∃ (j : Nat), j < 26 ∧ (j + m') % 26 = i0 ∧ σ' = [some (.ref d), some (.int least), some (.ref ka), some (.str "abcdefghijklmnopqrstuvwxyz"), some (.ref o3), some (.int num), some (.str (tx (p ++ [97 + j]))), y] ∧ Fr (MD d c) H H' ∧ Dk d c H' ∧ H' o3 = some (.lst ((own1 ++ own2).map V.str))) ∧
            N ([some (.ref d), some (.int least), some (.ref ka), some (.str "abcdefghijklmnopqrstuvwxyz"), some (.ref o3), some (.int num), some (.str (tx (p ++ [97 + (j + 1) % 26]))), y]) H9 := by
          intro H9 hbad f9 D9 h9
          refine ⟨fun σ' H' => σ' = [some (.ref d), some (.int least), some (.ref ka), some (.str "abcdefghijklmnopqrstuvwxyz"), some (.ref o3), some (.int num), some (.str (tx (p ++ [97 + (j + 1) % 26]))), y] ∧ H' = H9, fun σ' H' ⟨z1, z2⟩ => ?_, rfl, rfl⟩
          subst z2
          have hm0 : m ≠ 0 := fun z => by
            subst z
            have : j = i0 := by omega
            subst this
            exact hbad.elim g1 g2
          exact ⟨m - 1, by omega, (j + 1) % 26, by omega, by omega, z1, f9, D9, h9⟩
        -- the body
        have bodyR : ∀ (H9 : Hp) (D' : Ends), D'.nx [some (.ref d), some (.int least), some (.ref ka), some (.str "abcdefghijklmnopqrstuvwxyz"), some (.ref o3), some (.int num), some (.str (tx (p ++ [97 + (j + 1) % 26]))), y] H9 →
            tAsg (tOp (fun x y H Q => ∃ i j, x = .str i ∧ y = .str j ∧ i.length + j.length ≤ sizeLine ∧ Q (.str (i ++ j)) H) (tSl rSlS (tVar 6) tNoPart (tPart (tUn (rU fun i => .int (-i)) (tC (.int 1))))) (tOp rIxS (tVar 3) (tOp (rI (fun _ j => 0 < j) fun i j => .int (i % j)) (tOp (rI0 fun i j => .int (i + j)) (tBM K "str" (fun x xs H Q => ∃ a b i rest, x = .str a ∧ xs = [.str b] ∧ Builtin.Str.occurrences a b 0 a.length 1 = i :: rest ∧ Q (.int (i : Nat)) H) (tVar 3) (tCons (tOp rIxS (tVar 6) (tUn (rU fun i => .int (-i)) (tC (.int 1)))) tNil)) (tC (.int 1))) (tC (.int 26))))) (gName 6) D' [some (.ref d), some (.int least), some (.ref ka), some (.str "abcdefghijklmnopqrstuvwxyz"), some (.ref o3), some (.int num), some (.str (tx (p ++ [97 + j]))), y] H9 := by
          intro H9 D' hn
          refine ⟨_, rfl, 1, rfl, _, rfl, _, rfl, ?_, _, rfl, _, rfl, rfl, _, rfl, 1, rfl, tx (p ++ [97 + j]), -1, 97 + j, rfl, rfl, ?_, ?_, _, _, j, [], rfl, rfl, ?_, _, 1, rfl, rfl, _, 26, rfl, rfl, (show (0 : Int) < 26 by decide), _, _, 97 + (j + 1) % 26, rfl, rfl, sz (by decide +kernel), ?_, _, _, rfl, rfl, ?_, ?_⟩
          · rw [tx_len, List.length_append]
            exact sz (by simp; omega)
          · rw [tx_len, List.length_append]
            exact sz (by simp; omega)
          · rw [tx_cps]
            exact atI_last _ _
          · have := abc_find (c := 97 + j) (by omega)
            rw [show 97 + j - 97 = j by omega] at this
            exact this
          · rw [show ((j : Nat) : Int) + 1 = ((j + 1 : Nat) : Int) by omega, show (((j + 1 : Nat) : Int) % 26) = (((j + 1) % 26 : Nat) : Int) by omega]
            exact abc_at (by omega)
          · rw [cutS_last, tx_len]
            show p.length + 1 ≤ sizeLine
            exact sz (by omega)
          · rw [cutS_last, tx_one, tx_app]
            exact hn
        -- the test
        refine ⟨.str _, rfl, .ref ka, rfl, ka, _, rfl, .inl (SqL.of hk8), rfl, flat_strs known, _, rfl, ?_⟩
        show if (if false = true then _ else inV _ _) = true then _ else _
        rw [if_neg Bool.false_ne_true, in_strs]
        refine ite2 (fun e => ?_) (fun e => ?_)
        · refine iteT ?_
          obtain ⟨N, hN, hn⟩ := step H8 (.inl (of_decide_eq_true e)) f8 D8 h8
          exact ⟨N, hN, bodyR H8 _ hn⟩
        · refine ⟨.str _, rfl, .ref o3, rfl, sz (by show 1 ≤ 100000; decide), fun o4 no4 => ?_⟩
          have h9 : (upd H8 o4 (.lst [.str "absurd"])) o3 = some (.lst ((own1 ++ own2).map V.str)) := by rw [upd_ne (ne_of_none h8 no4)]; exact h8
          have f9 : Fr (MD d c) H (upd H8 o4 (.lst [.str "absurd"])) := f8.trans (Fr.new no4)
          have D9 : Dk d c (upd H8 o4 (.lst [.str "absurd"])) := D8.new no4
          have ho4 : (upd H8 o4 (.lst [.str "absurd"])) o4 = some (.lst [.str "absurd"]) := upd_same
          generalize (upd H8 o4 (.lst [.str "absurd"])) = H9 at h9 f9 D9 ho4 ⊢
          refine ⟨o3, o4, _, _, rfl, rfl, h9, ho4, sz (by decide), fun o5 no5 => ?_⟩
          have h10 : (upd H9 o5 (.lst ((own1 ++ own2).map V.str ++ [.str "absurd"]))) o3 = some (.lst ((own1 ++ own2).map V.str)) := by rw [upd_ne (ne_of_none h9 no5)]; exact h9
          have f10 : Fr (MD d c) H (upd H9 o5 (.lst ((own1 ++ own2).map V.str ++ [.str "absurd"]))) := f9.trans (Fr.new no5)
          have D10 : Dk d c (upd H9 o5 (.lst ((own1 ++ own2).map V.str ++ [.str "absurd"]))) := D9.new no5
          have ho5 : (upd H9 o5 (.lst ((own1 ++ own2).map V.str ++ [.str "absurd"]))) o5 = some (.lst (own.map V.str)) := by rw [upd_same]; rfl
          generalize (upd H9 o5 (.lst ((own1 ++ own2).map V.str ++ [.str "absurd"]))) = H10 at h10 f10 D10 ho5 ⊢
          refine ⟨o5, _, rfl, .inl (SqL.of ho5), rfl, flat_strs own, _, rfl, ?_⟩
          show if (if false = true then _ else inV _ _) = true then _ else _
          rw [if_neg Bool.false_ne_true, in_strs]
          refine ite2 (fun e2 => ?_) (fun e2 => ?_)
          · obtain ⟨N, hN, hn⟩ := step H10 (.inr (of_decide_eq_true e2)) f10 D10 h10
            exact ⟨N, hN, bodyR H10 _ hn⟩
          · refine ⟨.str _, rfl, ?_⟩
            refine q (p ++ [97 + j]) H10 (pL.app ?_) ?_ ?_ (fun z => e (decide_eq_true z)) (fun z => e2 (decide_eq_true z)) f10 D10
            · intro c hc
              have : c = 97 + j := by simpa using hc
              omega
            · rw [List.length_append]
              exact plen.1
            · rw [List.length_append]
              exact plen.2
end
end K10
set_option Elab.async false
set_option linter.all false
set_option maxRecDepth 100000
set_option maxHeartbeats 4000000
namespace K10
open PySem PySem.Spec PyProof.Rows L2 Lc
section
variable {P : Program} {w : World} {K : PySem.W.Frag} {mg : Str → Option Value} {base : Heap} {f : Addr} {fd : FuncData}
/-! ### some words -/
/-- words of at least so many small signs, none the tongue's own, each once -/
structure Wds (least : Nat) (ws : List Str) : Prop where
  one : ∀ x ∈ ws, ∃ l, x = tx l ∧ Low l ∧ least ≤ l.length ∧ l.length ≤ 8
  own : ∀ x ∈ ws, x ∉ own
  nd : ws.Nodup
theorem Wds.wd {least : Nat} {ws : List Str} (h : Wds least ws) (h1 : 1 ≤ least) : ∀ x ∈ ws, Wd x := fun x hx => by
  obtain ⟨l, e, a, b, c⟩ := h.one x hx
  exact ⟨l, e, a, by omega, c⟩
theorem Wds.snoc {least : Nat} {ws : List Str} {l : List Nat} (h : Wds least ws) (a : Low l) (b : least ≤ l.length) (c : l.length ≤ 8) (n : tx l ∉ ws) (o : tx l ∉ K10.own) : Wds least (ws ++ [tx l]) := by
  refine ⟨fun x hx => ?_, fun x hx => ?_, ?_⟩
  · rcases List.mem_append.mp hx with hx | hx
    · exact h.one x hx
    · have e : x = tx l := by simpa using hx
      exact ⟨l, e, a, b, c⟩
  · rcases List.mem_append.mp hx with hx | hx
    · exact h.own x hx
    · have e : x = tx l := by simpa using hx
      rw [e]
      exact o
  · rw [List.nodup_append]
    refine ⟨h.nd, by simp, fun x hx y hy e => ?_⟩
    have e2 : y = tx l := by simpa using hy
    rw [e, e2] at hx
    exact n hx
abbrev s_w_words : Stmt := topS 9
theorem sc_w_words : FnScope ["_law_deck_here", "_law_many", "_law_least", "_law_known", "_law_found", "_law_k"] ["_law_deck_here", "_law_many", "_law_least", "_law_known"] (defScope s_w_words) := ⟨rfl, rfl, rfl, by decide +kernel, rfl, by decide +kernel, by decide +kernel⟩
def spWords : Sp := fun vs H Q _ => ∃ (d c ka : Addr) (many least : Nat), vs = [.ref d, .int many, .int least, .ref ka] ∧ Dk d c H ∧ 1 ≤ least ∧ least ≤ 2 ∧ many ≤ 9 ∧ H ka = some (.lst []) ∧ ¬ MD d c ka ∧
  ∀ (ws : List Str) (p : Addr) H', ws.length = many → Wds least ws → H p = none → H' p = some (.lst (ws.map V.str)) → Fr (MD d c) H H' → Dk d c H' → Q (.ref p) H'
theorem ok_w_words {k : Nat} (F : Fun K "_law_words" "_law_words" s_w_words f fd) (m_range : mg "range" = none) (C_w_word : Dn P w K mg base "_law_word" ["_law_deck_here", "_law_least", "_law_known"] 2 spWord) :
    FnOk P w K mg base CX0 (k + 3) f fd ["_law_deck_here", "_law_many", "_law_least", "_law_known"] spWords := by
  refine F.ok sc_w_words (fun vs H Q E h => ?_) (fun cdv A outer s H vs Q E hr h => ?_)
  · obtain ⟨d, c, ka, many, least, rfl, _⟩ := h
    rfl
  · obtain ⟨d, c, ka, many, least, rfl, hD, hl1, hl2, hm, hka, nka, q⟩ := h
    refine ⟨_, (pss_cons (ps_set (i := 4) sc_w_words.nd rfl (.inl rfl) (pe_lst pa_nil))
      (pss_cons (ps_for PassesOwn.never rfl (pi_range1 (by rfl) m_range (pa_cons (pv 1) pa_nil)) (pg_name (i := 5) sc_w_words.nd rfl (.inl rfl))
      (pss_one (ps_expr (pe_bm PySem.F.plainAttrs_list PySem.F.slot_list_append PySem.F.type_list_append mt_append (pv 4) (pa_cons (Lc.pe_dn C_w_word (hr.mono (by omega)) (by rfl) (pa_cons (pv 0) (pa_cons (pv 2) (pa_cons (pe_op op_cat (pv 3) (pv 4)) pa_nil)))) pa_nil)))))
      (pss_one (ps_ret (pv 4))))), ?_⟩
    refine ⟨Nat.zero_le _, fun fo nfo => ?_⟩
    have nMfo := hD.out nfo
    refine ⟨.int many, rfl, _, rfl, by omega, by omega, ?_⟩
    refine for_range (lo := 0) (n := (many : Int).toNat) (fun i σ H' => ∃ (ws : List Str) (y : Option V), σ = [some (.ref d), some (.int many), some (.int least), some (.ref ka), some (.ref fo), y] ∧ Fr (MD d c) H H' ∧ Dk d c H' ∧ H' fo = some (.lst (ws.map V.str)) ∧ ws.length = i ∧ Wds least ws)
      ⟨[], none, rfl, Fr.new nfo, hD.new nfo, upd_same, rfl, ⟨(fun _ z => nomatch z), (fun _ z => nomatch z), List.nodup_nil⟩⟩ (fun i σ H' hi ⟨ws, y, e1, f1, D1, h1, hl, hw⟩ => ?_) (fun σ H' ⟨ws, y, e1, f1, D1, h1, hl, hw⟩ => ?_)
    · subst e1
      have hka1 : H' ka = some (.lst []) := f1.at hka nka
      refine ⟨.ref fo, rfl, .inl ⟨rfl, _, SqL.of h1⟩, .ref d, rfl, .int least, rfl, .ref ka, rfl, .ref fo, rfl, ka, fo, [], ws.map V.str, rfl, rfl, hka1, h1, ?_, fun p np => ?_⟩
      · rw [List.length_map]
        exact sz (by simp; omega)
      · have hp : (upd H' p (.lst ([] ++ ws.map V.str))) p = some (.lst (ws.map V.str)) := upd_same
        have h2 : (upd H' p (.lst ([] ++ ws.map V.str))) fo = some (.lst (ws.map V.str)) := by rw [upd_ne (ne_of_none h1 np)]; exact h1
        have D2 : Dk d c (upd H' p (.lst ([] ++ ws.map V.str))) := D1.new np
        have f2 : Fr (MD d c) H (upd H' p (.lst ([] ++ ws.map V.str))) := f1.trans (Fr.new np)
        have nMp := D1.out np
        generalize (upd H' p (.lst ([] ++ ws.map V.str))) = H2 at hp h2 D2 f2 ⊢
        refine ⟨d, c, p, least, ws, rfl, D2, hl1, hl2, hp, nMp, by omega, hw.wd hl1, fun l H3 a1 a2 a3 a4 a5 f3 D3 => ?_⟩
        have h3 := f3.at h2 nMfo
        refine ⟨fo, ws.map V.str, _, rfl, rfl, h3, ?_, ws ++ [tx l], some (.int (0 + (i : Int))), rfl, (f2.trans f3).own nfo, D3.keep nMfo, ?_, ?_, hw.snoc a1 a2 a3 a4 a5⟩
        · rw [List.length_map]
          exact szl (by omega)
        · rw [upd_same, List.map_append]
          rfl
        · rw [List.length_append, hl]
          rfl
    · subst e1
      exact ⟨.ref fo, rfl, q ws fo H' (by omega) hw nfo h1 f1 D1⟩
/-! ### a vocabulary -/
def ABCL : List Nat := (List.range 26).map fun i => 65 + i
theorem ABC_eq : ("ABCDEFGHIJKLMNOPQRSTUVWXYZ" : Str) = tx ABCL := by decide +kernel
theorem ABC_at {i : Nat} (h : i < 26) : atI ("ABCDEFGHIJKLMNOPQRSTUVWXYZ" : Str).cps.toList (i : Int) = some (65 + i) := by
  refine atI_nat ?_
  rw [ABC_eq, tx_cps]
  unfold ABCL
  rw [List.getElem?_map, List.getElem?_range h]
  rfl
/-- a word with a great first sign -/
def cap (s : Str) : Str := match s.cps.toList with
  | [] => s
  | x :: r => tx ((x - 32) :: r)
abbrev s_w_vocabulary : Stmt := topS 10
abbrev N_w_vocabulary : List Str := ["_law_deck_here", "_law_names", "_law_kinds", "_law_doings", "_law_great", "_law_small", "_law_named", "_law_words_here", "_law_word_here"]
theorem sc_w_vocabulary : FnScope N_w_vocabulary ["_law_deck_here", "_law_names", "_law_kinds", "_law_doings"] (defScope s_w_vocabulary) := ⟨rfl, rfl, rfl, by decide +kernel, rfl, by decide +kernel, by decide +kernel⟩
/-- a vocabulary, told by its words -/
structure VocD (H : Hp) (v : Addr) (ns ks ds : List Str) : Prop where
  at_ : ∃ a b c, H v = some (.tup [.ref a, .ref b, .ref c]) ∧ H a = some (.tup (ns.map V.str)) ∧ H b = some (.tup (ks.map V.str)) ∧ H c = some (.tup (ds.map V.str))
/-- what is drawn -/
structure VocOk (n0 n1 n2 : Nat) (ns ks ds : List Str) : Prop where
  ns_ : ∃ ws, Wds 1 ws ∧ ws.length = n0 ∧ ns.Perm (ws.map cap)
  ks_ : ∃ ws, Wds 2 ws ∧ ws.length = n1 + n2 ∧ ks.Perm (ws.take n1) ∧ ds.Perm (ws.drop n1)
  sn : sortedS ns = true
  sk : sortedS ks = true
  sd : sortedS ds = true
def spVoc : Sp := fun vs H Q _ => ∃ (d c : Addr) (n0 n1 n2 : Nat), vs = [.ref d, .int n0, .int n1, .int n2] ∧ Dk d c H ∧ n0 ≤ 6 ∧ n1 ≤ 6 ∧ n2 ≤ 3 ∧
  ∀ (ns ks ds : List Str) (v : Addr) H', VocOk n0 n1 n2 ns ks ds → H v = none → VocD H' v ns ks ds → Fr (MD d c) H H' → Dk d c H' → Q (.ref v) H'
theorem ok_w_vocabulary {k : Nat} (F : Fun K "_law_vocabulary" "_law_vocabulary" s_w_vocabulary f fd) (m_tuple : mg "tuple" = none) (m_sorted : mg "sorted" = none) (C_w_words : Dn P w K mg base "_law_words" ["_law_deck_here", "_law_many", "_law_least", "_law_known"] 3 spWords) :
    FnOk P w K mg base CX0 (k + 4) f fd ["_law_deck_here", "_law_names", "_law_kinds", "_law_doings"] spVoc := by
  refine F.ok sc_w_vocabulary (fun vs H Q E h => ?_) (fun cdv A outer s H vs Q E hr h => ?_)
  · obtain ⟨d, c, n0, n1, n2, rfl, _⟩ := h
    rfl
  · obtain ⟨d, c, n0, n1, n2, rfl, hD, b0, b1, b2, q⟩ := h
    refine ⟨_, (pss_cons (ps_set (i := 4) sc_w_vocabulary.nd rfl (.inr rfl) pe_str)
      (pss_cons (ps_set (i := 5) sc_w_vocabulary.nd rfl (.inr rfl) pe_str)
      (pss_cons (ps_setLc (i := 6) (own := [("_law_word_here", 8)]) (g := gName 8) (tt := tYes) rfl sc_w_vocabulary.nd rfl rfl (sw_true rfl rfl rfl (by decide +kernel)) (pi_list (Lc.pe_dn C_w_words (hr.mono (by omega)) (by rfl) (pa_cons (pv 0) (pa_cons (pv 1) (pa_cons pe_int (pa_cons (pe_lst pa_nil) pa_nil)))))) (blkOk_by (N := N_w_vocabulary) (sc := defScope s_w_vocabulary) (by decide +kernel)) (fun _ _ _ _ _ => pg_name (i := 8) sc_w_vocabulary.nd rfl (Or.inl rfl)) (fun _ _ _ _ _ => pts_nil) (fun _ _ _ _ _ => (pe_op op_add_str (pe_ix ix_str (pv 4) (Lc.pe_bmK K PySem.F.plainAttrs_str PySem.F.slot_str_index PySem.F.type_str_index mt_sindex (pv 5) (pa_cons (pe_ix ix_str (pv 8) pe_int (fun _ _ => rfl)) pa_nil)) (fun _ _ => rfl)) (pe_slice sl_str (pv 8) (po_some pe_int) po_none))))
      (pss_cons (ps_set (i := 7) sc_w_vocabulary.nd rfl (.inl rfl) (Lc.pe_dn C_w_words (hr.mono (by omega)) (by rfl) (pa_cons (pv 0) (pa_cons (pe_op op_add (pv 2) (pv 3)) (pa_cons pe_int (pa_cons (pe_lst pa_nil) pa_nil))))))
      (pss_one (ps_ret (pe_tup (pa_cons (pe_callTy call_tuple_of (by rfl) m_tuple (by decide +kernel) (pa_cons (pe_callB cr_sortedS (by rfl) m_sorted (by decide +kernel) (pa_cons (pv 6) pa_nil)) pa_nil)) (pa_cons (pe_callTy call_tuple_of (by rfl) m_tuple (by decide +kernel) (pa_cons (pe_callB cr_sortedS (by rfl) m_sorted (by decide +kernel) (pa_cons (pe_slice sl_list (pv 7) po_none (po_some (pv 2))) pa_nil)) pa_nil)) (pa_cons (pe_callTy call_tuple_of (by rfl) m_tuple (by decide +kernel) (pa_cons (pe_callB cr_sortedS (by rfl) m_sorted (by decide +kernel) (pa_cons (pe_slice sl_list (pv 7) (po_some (pv 2)) po_none) pa_nil)) pa_nil)) pa_nil)))))))))), ?_⟩
    -- names' words
    refine ⟨.ref d, rfl, .int n0, rfl, Nat.zero_le _, fun e1 ne1 => ?_⟩
    have nM1 := hD.out ne1
    refine ⟨d, c, e1, n0, 1, rfl, hD.new ne1, by decide, by decide, by omega, upd_same, nM1, fun ws p H1 hws hW np hp f1 D1 => ?_⟩
    have f1 : Fr (MD d c) H H1 := (Fr.new ne1).trans f1
    refine ⟨p, rfl, ⟨_, SqL.of hp⟩, fun D nD => ?_⟩
    have nDp : D ≠ p := fun e => by rw [e, hp] at nD; cases nD
    refine lc_list (K := K) (a := p) (xs := ws.map V.str) (fun i H' => H' = upd H1 D (.lst (((ws.take i).map cap).map V.str))) rfl (fun i H' hi e => ?_) (fun i x H' hx e => ?_) (fun H' e => ?_)
    · subst e
      refine SqL.of ?_
      rw [upd_ne nDp.symm]
      exact hp
    · subst e
      rw [List.getElem?_map] at hx
      cases hwx : ws[i]? with
      | none => rw [hwx] at hx; cases hx
      | some w0 =>
        rw [hwx] at hx
        have ex : x = .str w0 := (Option.some.inj hx).symm
        subst ex
        obtain ⟨l, el, lL, l1, l8⟩ := hW.one w0 (List.mem_of_getElem? hwx)
        subst el
        cases l with
        | nil => simp at l1
        | cons a r =>
          have ha := lL a List.mem_cons_self
          refine ⟨rfl, yes_if ?_⟩
          refine ⟨_, rfl, _, rfl, rfl, .str (tx (a :: r)), rfl, tx (a :: r), 0, a, rfl, rfl, ?_, ?_, _, _, a - 97, [], rfl, rfl, abc_find ha, _, ((a - 97 : Nat) : Int), 65 + (a - 97), rfl, rfl, sz (by decide +kernel), ABC_at (by omega), .str (tx (a :: r)), rfl, 1, rfl, tx (a :: r), rfl, ?_, _, _, rfl, rfl, ?_, ?_⟩
          · rw [tx_len]
            exact sz (by omega)
          · rw [tx_cps]
            exact atI_nat (j := 0) rfl
          · rw [tx_len]
            exact sz (by omega)
          · rw [show (1 : Int) = ((1 : Nat) : Int) from rfl, cutS_from, tx_len]
            show 1 + _ ≤ sizeLine
            exact sz (by simp at l8 ⊢; omega)
          · refine ⟨_, upd_same, ?_, ?_⟩
            · rw [List.length_map, List.length_map, List.length_take]
              exact szl (by omega)
            · rw [upd_upd, show (1 : Int) = ((1 : Nat) : Int) from rfl, cutS_from, tx_one, tx_app]
              congr 2
              rw [List.take_add_one, hwx, List.map_append, List.map_append]
              show _ = _ ++ [V.str (cap (tx (a :: r)))]
              congr 3
              unfold cap
              rw [tx_cps]
              show tx _ = tx _
              rw [show 65 + (a - 97) = a - 32 by omega]
              rfl
    · subst e
      have nMD := D1.out nD
      have hD2 : (upd H1 D (.lst ((ws.map cap).map V.str))) D = some (.lst ((ws.map cap).map V.str)) := upd_same
      rw [List.length_map, show ws.take ws.length = ws from List.take_length]
      have f2 : Fr (MD d c) H (upd H1 D (.lst ((ws.map cap).map V.str))) := f1.trans (Fr.new nD)
      have D2 : Dk d c (upd H1 D (.lst ((ws.map cap).map V.str))) := D1.new nD
      have nDH : H D = none := f1.free nD
      show tSeq _ _ _ _ (upd H1 D (.lst ((ws.map cap).map V.str)))
      generalize (upd H1 D (.lst ((ws.map cap).map V.str))) = H2 at hD2 f2 D2 ⊢
      -- kinds and doings
      refine ⟨.ref d, rfl, .int n1, rfl, .int n2, rfl, _, _, rfl, rfl, Nat.zero_le _, fun e2 ne2 => ?_⟩
      refine ⟨d, c, e2, n1 + n2, 2, ?_, D2.new ne2, by decide, by decide, by omega, upd_same, D2.out ne2, fun vs p2 H3 hvs hV np2 hp2 f3 D3 => ?_⟩
      · show [V.ref d, V.int ((n1 : Int) + (n2 : Int)), V.int 2, V.ref e2] = _
        rw [Int.natCast_add]
        rfl
      have f3 : Fr (MD d c) H2 H3 := (Fr.new ne2).trans f3
      have hD3 := f3.at hD2 nMD
      have f3 := f2.trans f3
      -- the three tuples
      refine ⟨.ref D, rfl, D, ws.map cap, rfl, SqL.of hD3, by rw [List.length_map]; omega, fun ns q1 pn sn nq1 => ?_⟩
      refine ⟨q1, _, rfl, .inl ⟨SqL.of upd_same, fun t1 nt1 => ?_⟩⟩
      have g1 : Same H3 (upd (upd H3 q1 (.lst (ns.map V.str))) t1 (.tup (ns.map V.str))) := (same_new nq1).trans (same_new nt1)
      have ht1 : (upd (upd H3 q1 (.lst (ns.map V.str))) t1 (.tup (ns.map V.str))) t1 = some (.tup (ns.map V.str)) := upd_same
      have D4 : Dk d c (upd (upd H3 q1 (.lst (ns.map V.str))) t1 (.tup (ns.map V.str))) := (D3.new nq1).new nt1
      generalize (upd (upd H3 q1 (.lst (ns.map V.str))) t1 (.tup (ns.map V.str))) = H4 at g1 ht1 D4 ⊢
      refine ⟨.ref p2, rfl, .int n1, rfl, _, rfl, p2, _, rfl, SqL.of (g1 _ _ hp2), fun s2 ns2 => ?_⟩
      rw [cut_to, ← List.map_take]
      refine ⟨s2, vs.take n1, rfl, SqL.of upd_same, by rw [List.length_take]; omega, fun ks q2 pk sk nq2 => ?_⟩
      refine ⟨q2, _, rfl, .inl ⟨SqL.of upd_same, fun t2 nt2 => ?_⟩⟩
      have g2 : Same H4 (upd (upd (upd H4 s2 (.lst ((vs.take n1).map V.str))) q2 (.lst (ks.map V.str))) t2 (.tup (ks.map V.str))) := (same_new ns2).trans ((same_new nq2).trans (same_new nt2))
      have ht2 : (upd (upd (upd H4 s2 (.lst ((vs.take n1).map V.str))) q2 (.lst (ks.map V.str))) t2 (.tup (ks.map V.str))) t2 = some (.tup (ks.map V.str)) := upd_same
      have D5 : Dk d c (upd (upd (upd H4 s2 (.lst ((vs.take n1).map V.str))) q2 (.lst (ks.map V.str))) t2 (.tup (ks.map V.str))) := ((D4.new ns2).new nq2).new nt2
      generalize (upd (upd (upd H4 s2 (.lst ((vs.take n1).map V.str))) q2 (.lst (ks.map V.str))) t2 (.tup (ks.map V.str))) = H5 at g2 ht2 D5 ⊢
      refine ⟨.ref p2, rfl, .int n1, rfl, _, rfl, p2, _, rfl, SqL.of (g2 _ _ (g1 _ _ hp2)), fun s3 ns3 => ?_⟩
      rw [cut_from, ← List.map_drop]
      refine ⟨s3, vs.drop n1, rfl, SqL.of upd_same, by rw [List.length_drop]; omega, fun ds q3 pd sd nq3 => ?_⟩
      refine ⟨q3, _, rfl, .inl ⟨SqL.of upd_same, fun t3 nt3 => ?_⟩⟩
      have g3 : Same H5 (upd (upd (upd H5 s3 (.lst ((vs.drop n1).map V.str))) q3 (.lst (ds.map V.str))) t3 (.tup (ds.map V.str))) := (same_new ns3).trans ((same_new nq3).trans (same_new nt3))
      have ht3 : (upd (upd (upd H5 s3 (.lst ((vs.drop n1).map V.str))) q3 (.lst (ds.map V.str))) t3 (.tup (ds.map V.str))) t3 = some (.tup (ds.map V.str)) := upd_same
      have D6 : Dk d c (upd (upd (upd H5 s3 (.lst ((vs.drop n1).map V.str))) q3 (.lst (ds.map V.str))) t3 (.tup (ds.map V.str))) := ((D5.new ns3).new nq3).new nt3
      generalize (upd (upd (upd H5 s3 (.lst ((vs.drop n1).map V.str))) q3 (.lst (ds.map V.str))) t3 (.tup (ds.map V.str))) = H6 at g3 ht3 D6 ⊢
      refine ⟨sz (by show 3 ≤ 100000; decide), fun v nv => ?_⟩
      have g4 := same_new (o := .tup [.ref t1, .ref t2, .ref t3]) nv
      have gg : Same H3 H6 := g1.trans (g2.trans g3)
      have f6 : Fr (MD d c) H H6 := f3.trans (Fr.of gg)
      refine q ns ks ds v _ ⟨⟨ws, hW, hws, pn⟩, ⟨vs, hV, hvs, pk, pd⟩, sn, sk, sd⟩ (f6.free nv) ⟨t1, t2, t3, upd_same, g4 _ _ (g3 _ _ (g2 _ _ ht1)), g4 _ _ (g3 _ _ ht2), g4 _ _ ht3⟩ (f6.trans (Fr.new nv)) (D6.new nv)
end
end K10
set_option Elab.async false
set_option linter.all false
set_option maxRecDepth 100000
set_option maxHeartbeats 4000000
namespace K10
open PySem PySem.Spec PyProof.Rows L2 Lc
theorem VocD.voc {K : PySem.W.Frag} {H : Hp} {v : Addr} {ns ks ds : List Str} {n0 n1 n2 : Nat} (h : VocD H v ns ks ds) (o : VocOk n0 n1 n2 ns ks ds) : Voc K H v n0 n1 n2 := by
  obtain ⟨a, b, c, hv, ha, hb, hc⟩ := h.at_
  obtain ⟨ws, _, hl, pn⟩ := o.ns_
  obtain ⟨us, _, hl2, pk, pd⟩ := o.ks_
  have e1 := pn.length_eq
  have e2 := pk.length_eq
  have e3 := pd.length_eq
  rw [List.length_map] at e1
  rw [List.length_take] at e2
  rw [List.length_drop] at e3
  exact ⟨a, b, c, _, _, _, hv, ha, hb, hc, by rw [List.length_map]; omega, by rw [List.length_map]; omega, by rw [List.length_map]; omega⟩
theorem nat_of {r m : Int} (h : 0 ≤ r) (h2 : r < m) : ∃ n : Nat, r = (n : Int) ∧ (n : Int) < m := ⟨r.toNat, by omega, by omega⟩
section
variable {P : Program} {w : World} {K : PySem.W.Frag} {mg : Str → Option Value} {base : Heap} {f : Addr} {fd : FuncData}
abbrev s_law : Stmt := topS 11
theorem sc_law : FnScope ["_law_script", "_law_deck_here", "_law_sizes", "_law_vocabulary_here", "_law_size", "_law_due", "_law_name", "_law_k", "_law_j", "_law_found"] ["_law_script"] (defScope s_law) := ⟨rfl, rfl, rfl, by decide +kernel, rfl, by decide +kernel, by decide +kernel⟩
def spLaw (K : PySem.W.Frag) : Sp := fun vs H Q _ => ∃ (a : Addr) (ns : List Int), vs = [.ref a] ∧ SqL K H a (ns.map V.int) ∧ ∀ H', Q (.bl true) H'
theorem ok_law (F : Fun K "law" "law" s_law f fd) (m_range : mg "range" = none) (m_int : mg "int" = none) (m_bool : mg "bool" = none) (m_isinstance : mg "isinstance" = none)
    (C_w_deck : Dn P w K mg base "_law_deck" ["_law_script"] 1 (spDeck K)) (C_w_draw : Dn P w K mg base "_law_draw" ["_law_deck_here", "_law_most"] 1 spDraw)
    (C_w_vocabulary : Dn P w K mg base "_law_vocabulary" ["_law_deck_here", "_law_names", "_law_kinds", "_law_doings"] 4 spVoc) (C_how_many : Dn P w K mg base "how_many" ["vocabulary", "size"] 2 (spHowMany K)) :
    FnOk P w K mg base CX0 5 f fd ["_law_script"] (spLaw K) := by
  refine F.ok sc_law (fun vs H Q E h => ?_) (fun cdv A outer s H vs Q E hr h => ?_)
  · obtain ⟨a, ns, rfl, _⟩ := h
    rfl
  · obtain ⟨a, ns, rfl, hS, q⟩ := h
    refine ⟨_, (pss_cons (ps_set (i := 1) sc_law.nd rfl (.inl rfl) (Lc.pe_dn C_w_deck (hr.mono (by decide)) (by rfl) (pa_cons (pv 0) pa_nil)))
      (pss_cons (ps_set (i := 2) sc_law.nd rfl (.inl rfl) (pe_lst (pa_cons (Lc.pe_dn C_w_draw (hr.mono (by decide)) (by rfl) (pa_cons (pv 1) (pa_cons pe_int pa_nil))) (pa_cons (Lc.pe_dn C_w_draw (hr.mono (by decide)) (by rfl) (pa_cons (pv 1) (pa_cons pe_int pa_nil))) (pa_cons (Lc.pe_dn C_w_draw (hr.mono (by decide)) (by rfl) (pa_cons (pv 1) (pa_cons pe_int pa_nil))) pa_nil)))))
      (pss_cons (ps_set (i := 3) sc_law.nd rfl (.inl rfl) (Lc.pe_dn C_w_vocabulary (hr.mono (by decide)) (by rfl) (pa_cons (pv 1) (pa_cons (pe_ix ix_list (pv 2) pe_int (fun _ _ => rfl)) (pa_cons (pe_ix ix_list (pv 2) pe_int (fun _ _ => rfl)) (pa_cons (pe_ix ix_list (pv 2) pe_int (fun _ _ => rfl)) pa_nil))))))
      (pss_cons (ps_for PassesOwn.never rfl (pi_list (pe_lst (pa_cons pe_int (pa_cons pe_int (pa_cons pe_int (pa_cons pe_int (pa_cons pe_int (pa_cons pe_int (pa_cons (pe_op op_add pe_int (Lc.pe_dn C_w_draw (hr.mono (by decide)) (by rfl) (pa_cons (pv 1) (pa_cons (pe_ix ix_list (pe_lst (pa_cons pe_int (pa_cons pe_int pa_nil))) (pe_callTy call_int1 (by rfl) m_int (by decide +kernel) (pa_cons (pe_cmpR op_eq (Lc.pe_dn C_w_draw (hr.mono (by decide)) (by rfl) (pa_cons (pv 1) (pa_cons pe_int pa_nil))) pe_int (nomark _)) pa_nil)) (fun _ _ => rfl)) pa_nil)))) pa_nil))))))))) (pg_name (i := 4) sc_law.nd rfl (.inl rfl))
      (pss_cons (ps_set (i := 5) sc_law.nd rfl (.inl rfl) pe_int)
        (pss_cons (ps_for PassesOwn.never rfl (pi_tup (pe_ix ix_tup (pv 3) pe_int (fun _ _ => rfl))) (pg_name (i := 6) sc_law.nd rfl (.inl rfl))
        (pss_one (ps_set (i := 5) sc_law.nd rfl (.inl rfl) (pe_op op_mul (pv 5) (pv 4)))))
        (pss_cons (ps_for PassesOwn.never rfl (pi_range1 (by rfl) m_range (pa_cons (pe_op op_mul (pv 4) (pe_ix ix_list (pv 2) pe_int (fun _ _ => rfl))) pa_nil)) (pg_name (i := 7) sc_law.nd rfl (.inl rfl))
        (pss_one (ps_set (i := 5) sc_law.nd rfl (.inl rfl) (pe_op op_add (pv 5) (pv 5)))))
        (pss_cons (ps_for PassesOwn.never rfl (pi_range1 (by rfl) m_range (pa_cons (pe_op op_mul (pv 4) (pe_ix ix_list (pv 2) pe_int (fun _ _ => rfl))) pa_nil)) (pg_name (i := 7) sc_law.nd rfl (.inl rfl))
        (pss_one (ps_for PassesOwn.never rfl (pi_range1 (by rfl) m_range (pa_cons (pv 4) pa_nil)) (pg_name (i := 8) sc_law.nd rfl (.inl rfl))
          (pss_one (ps_set (i := 5) sc_law.nd rfl (.inl rfl) (pe_op op_add (pv 5) (pv 5)))))))
        (pss_cons (ps_set (i := 9) sc_law.nd rfl (.inl rfl) (Lc.pe_dn C_how_many (hr.mono (by decide)) (by rfl) (pa_cons (pv 3) (pa_cons (pv 4) pa_nil))))
        (pss_one (ps_if (PW.pt (pw_or (pt_not (pt_val (pe_callB call_isi (by rfl) m_isinstance (by decide +kernel) (pa_cons (pv 9) (pa_cons (pe_bltn (v := .ty "int") (by rfl) m_int (by decide +kernel) rfl) pa_nil))))) (pw_or (pt_val (pe_callB call_isi (by rfl) m_isinstance (by decide +kernel) (pa_cons (pv 9) (pa_cons (pe_bltn (v := .ty "bool") (by rfl) m_bool (by decide +kernel) rfl) pa_nil)))) (pw_or1 (pt_cmpR op_ne (pv 9) (pv 5) (nomark _))))))
        (pss_one (ps_ret pe_bl))
        pss_nil))))))))
      (pss_one (ps_ret pe_bl)))))), ?_⟩
    -- the deck, three draws
    refine ⟨.ref a, rfl, a, ns, rfl, hS, fun d c H1 s1 D1 => ?_⟩
    refine ⟨.ref d, rfl, d, c, _, rfl, D1, by decide, by decide, fun r0 H2 ra rb f2 D2 => ?_⟩
    obtain ⟨n0, rfl, hn0⟩ := nat_of ra rb
    refine ⟨.ref d, rfl, d, c, _, rfl, D2, by decide, by decide, fun r1 H3 ra rb f3 D3 => ?_⟩
    obtain ⟨n1, rfl, hn1⟩ := nat_of ra rb
    refine ⟨.ref d, rfl, d, c, _, rfl, D3, by decide, by decide, fun r2 H4 ra rb f4 D4 => ?_⟩
    obtain ⟨n2, rfl, hn2⟩ := nat_of ra rb
    refine ⟨sz (by show 3 ≤ 100000; decide), fun sa nsa => ?_⟩
    have nMsa := D4.out nsa
    have hsa : (upd H4 sa (.lst [.int n0, .int n1, .int n2])) sa = some (.lst [.int n0, .int n1, .int n2]) := upd_same
    have D5 : Dk d c (upd H4 sa (.lst [.int n0, .int n1, .int n2])) := D4.new nsa
    show tSeq _ _ _ _ (upd H4 sa (.lst [.int n0, .int n1, .int n2]))
    generalize (upd H4 sa (.lst [.int n0, .int n1, .int n2])) = H5 at hsa D5 ⊢
    -- the vocabulary
    refine ⟨.ref d, rfl, .ref sa, rfl, sa, _, 0, .int n0, rfl, rfl, SqL.of hsa, rfl, .ref sa, rfl, sa, _, 1, .int n1, rfl, rfl, SqL.of hsa, rfl, .ref sa, rfl, sa, _, 2, .int n2, rfl, rfl, SqL.of hsa, rfl,
      d, c, n0, n1, n2, rfl, D5, by omega, by omega, by omega, fun nms kns dns v H6 vok nv vd f6 D6 => ?_⟩
    have hsa6 := f6.at hsa nMsa
    have hvoc6 : Voc K H6 v n0 n1 n2 := vd.voc vok
    obtain ⟨va, vb, vc, xs0, xs1, xs2, hv6, hva6, hvb6, hvc6, el0, el1, el2⟩ := id hvoc6
    -- the sizes
    refine ⟨.ref d, rfl, sz (by show 2 ≤ 100000; decide), fun mo nmo => ?_⟩
    have D7 : Dk d c (upd H6 mo (.lst [.int 9, .int 100])) := D6.new nmo
    have g7 : Same H6 (upd H6 mo (.lst [.int 9, .int 100])) := same_new nmo
    have hmo : (upd H6 mo (.lst [.int 9, .int 100])) mo = some (.lst [.int 9, .int 100]) := upd_same
    have nMmo := D6.out nmo
    generalize (upd H6 mo (.lst [.int 9, .int 100])) = H7 at D7 g7 hmo ⊢
    refine ⟨.ref d, rfl, d, c, _, rfl, D7, by decide, by decide, fun r4 H8 ra4 rb4 f8 D8 => ?_⟩
    have hmo8 := f8.at hmo nMmo
    refine ⟨rfl, .inr ⟨_, rfl, ?_⟩⟩
    obtain ⟨most, hmost, hm1, hm2⟩ : ∃ most : Int, atI ([V.int 9, V.int 100] : List V) (if decide (V.int r4 = V.int 1) = true then 1 else 0) = some (.int most) ∧ 0 < most ∧ most ≤ 100 := by
      by_cases z : decide (V.int r4 = V.int 1) = true
      · rw [if_pos z]
        exact ⟨100, rfl, by decide, by decide⟩
      · rw [if_neg z]
        exact ⟨9, rfl, by decide, by decide⟩
    refine ⟨mo, _, _, .int most, rfl, rfl, SqL.of hmo8, hmost, ?_⟩
    refine ⟨d, c, most, rfl, D8, hm1, by omega, fun r5 H9 ra5 rb5 f9 D9 => ?_⟩
    obtain ⟨n5, rfl, hn5⟩ := nat_of ra5 rb5
    refine ⟨1, (n5 : Int), rfl, rfl, sz (by show 7 ≤ 100000; decide), fun la nla => ?_⟩
    have k9 : ∀ {b : Addr} {o : HO}, H6 b = some o → ¬ MD d c b → H9 b = some o := fun h n => f9.at (f8.at (g7 _ _ h) n) n
    have k10 : ∀ {b : Addr} {o : HO}, H6 b = some o → ¬ MD d c b → (upd H9 la (.lst [.int 1, .int 2, .int 3, .int 4, .int 5, .int 6, .int (1 + n5)])) b = some o := fun h n => by rw [upd_ne (ne_of_none (k9 h n) nla)]; exact k9 h n
    have hvoc : Voc K (upd H9 la (.lst [.int 1, .int 2, .int 3, .int 4, .int 5, .int 6, .int (1 + n5)])) v n0 n1 n2 := ⟨va, vb, vc, xs0, xs1, xs2, k10 hv6 (D6.tup hv6), k10 hva6 (D6.tup hva6), k10 hvb6 (D6.tup hvb6), k10 hvc6 (D6.tup hvc6), el0, el1, el2⟩
    have hsaT := k10 hsa6 nMsa
    have hvT := k10 hv6 (D6.tup hv6)
    have hvaT := k10 hva6 (D6.tup hva6)
    have hla : (upd H9 la (.lst [.int 1, .int 2, .int 3, .int 4, .int 5, .int 6, .int (1 + n5)])) la = some (.lst [.int 1, .int 2, .int 3, .int 4, .int 5, .int 6, .int (1 + n5)]) := upd_same
    show ∃ a, V.ref la = V.ref a ∧ _
    generalize (upd H9 la (.lst [.int 1, .int 2, .int 3, .int 4, .int 5, .int 6, .int (1 + n5)])) = HT at hvoc hsaT hvT hvaT hla ⊢
    refine ⟨la, rfl, ⟨_, SqL.of hla⟩, ?_⟩
    refine for_list (K := K) (a := la) (xs := [.int 1, .int 2, .int 3, .int 4, .int 5, .int 6, .int (1 + n5)]) (fun i σ H' => ∃ y4 y5 y6 y7 y8 y9 : Option V, σ = [some (.ref a), some (.ref d), some (.ref sa), some (.ref v), y4, y5, y6, y7, y8, y9] ∧ H' = HT)
      ⟨none, none, none, none, none, none, rfl, rfl⟩ (fun i σ H' hi ⟨_, _, _, _, _, _, _, e⟩ => by rw [e]; exact SqL.of hla) (fun i x σ H' hx ⟨y4, y5, y6, y7, y8, y9, e1, e2⟩ => ?_) (fun σ H' ⟨y4, y5, y6, y7, y8, y9, e1, e2⟩ => ?_)
    · subst e1 e2
      obtain ⟨n, rfl, hn1', hn2'⟩ : ∃ n : Nat, x = .int n ∧ 1 ≤ n ∧ n ≤ 100 := by
        have hm := List.mem_of_getElem? hx
        simp only [List.mem_cons, List.not_mem_nil, or_false] at hm
        rcases hm with h | h | h | h | h | h | h
        · exact ⟨1, h, by decide, by decide⟩
        · exact ⟨2, h, by decide, by decide⟩
        · exact ⟨3, h, by decide, by decide⟩
        · exact ⟨4, h, by decide, by decide⟩
        · exact ⟨5, h, by decide, by decide⟩
        · exact ⟨6, h, by decide, by decide⟩
        · exact ⟨1 + n5, by rw [h, Int.natCast_add]; rfl, by omega, by omega⟩
      -- for name in the names
      refine ⟨.ref v, rfl, v, _, 0, .ref va, rfl, rfl, SqT.of hvT, rfl, va, rfl, ⟨_, SqT.of hvaT⟩, ?_⟩
      refine for_tup (K := K) (a := va) (xs := xs0) (fun j σ H'' => ∃ y6 : Option V, σ = [some (.ref a), some (.ref d), some (.ref sa), some (.ref v), some (.int n), some (.int ((n ^ j : Nat) : Int)), y6, y7, y8, y9] ∧ H'' = H')
        ⟨y6, rfl, rfl⟩ (fun j σ H'' hj ⟨_, _, e⟩ => by rw [e]; exact SqT.of hvaT) (fun j x σ H'' hx ⟨y6, e1, e2⟩ => ?_) (fun σ H'' ⟨y6, e1, e2⟩ => ?_)
      · subst e1 e2
        refine ⟨_, rfl, _, rfl, _, _, rfl, rfl, .inr ⟨by omega, by omega⟩, some x, ?_, rfl⟩
        rw [Nat.pow_succ, Int.natCast_mul]
        rfl
      · subst e1 e2
        rw [el0]
        -- the first doubling
        have p1 : n * n1 ≤ 100 * 6 := Nat.mul_le_mul hn2' (by omega)
        have c1 : (n : Int) * (n1 : Int) = ((n * n1 : Nat) : Int) := by rw [Int.natCast_mul]
        refine ⟨.int n, rfl, .ref sa, rfl, sa, _, 1, .int n1, rfl, rfl, SqL.of hsaT, rfl, _, _, rfl, rfl, .inl ⟨by omega, by omega⟩, ((n * n1 : Nat) : Int), ?_, by omega, by omega, ?_⟩
        · show [V.int ((n : Int) * (n1 : Int))] = _
          rw [c1]
        refine for_range (lo := 0) (n := ((n * n1 : Nat) : Int).toNat) (fun j σ H''' => ∃ y7 : Option V, σ = [some (.ref a), some (.ref d), some (.ref sa), some (.ref v), some (.int n), some (.int ((n ^ n0 * 2 ^ j : Nat) : Int)), y6, y7, y8, y9] ∧ H''' = H'')
          ⟨y7, by rw [Nat.pow_zero, Nat.mul_one], rfl⟩ (fun j σ H''' hj ⟨y7, e1, e2⟩ => ?_) (fun σ H''' ⟨y7, e1, e2⟩ => ?_)
        · subst e1 e2
          refine ⟨_, rfl, _, rfl, _, _, rfl, rfl, some (.int (0 + (j : Int))), ?_, rfl⟩
          have e : n ^ n0 * 2 ^ (j + 1) = n ^ n0 * 2 ^ j + n ^ n0 * 2 ^ j := by rw [Nat.pow_succ, ← Nat.mul_assoc]; omega
          rw [e, Int.natCast_add]
          rfl
        · subst e1 e2
          rw [Int.toNat_natCast]
          -- the second doubling
          have p2 : n * n2 ≤ 100 * 3 := Nat.mul_le_mul hn2' (by omega)
          have c2 : (n : Int) * (n2 : Int) = ((n * n2 : Nat) : Int) := by rw [Int.natCast_mul]
          refine ⟨.int n, rfl, .ref sa, rfl, sa, _, 2, .int n2, rfl, rfl, SqL.of hsaT, rfl, _, _, rfl, rfl, .inl ⟨by omega, by omega⟩, ((n * n2 : Nat) : Int), ?_, by omega, by omega, ?_⟩
          · show [V.int ((n : Int) * (n2 : Int))] = _
            rw [c2]
          refine for_range (lo := 0) (n := ((n * n2 : Nat) : Int).toNat) (fun j σ H4' => ∃ y7 y8 : Option V, σ = [some (.ref a), some (.ref d), some (.ref sa), some (.ref v), some (.int n), some (.int ((n ^ n0 * 2 ^ (n * n1) * 2 ^ (n * j) : Nat) : Int)), y6, y7, y8, y9] ∧ H4' = H''')
            ⟨y7, y8, by rw [Nat.mul_zero, Nat.pow_zero, Nat.mul_one], rfl⟩ (fun j σ H4' hj ⟨y7, y8, e1, e2⟩ => ?_) (fun σ H4' ⟨y7, y8, e1, e2⟩ => ?_)
          · subst e1 e2
            refine ⟨.int n, rfl, _, rfl, by omega, by omega, ?_⟩
            refine for_range (lo := 0) (n := (n : Int).toNat) (fun jj σ H5' => ∃ y8 : Option V, σ = [some (.ref a), some (.ref d), some (.ref sa), some (.ref v), some (.int n), some (.int ((n ^ n0 * 2 ^ (n * n1) * 2 ^ (n * j + jj) : Nat) : Int)), y6, some (.int (0 + (j : Int))), y8, y9] ∧ H5' = H4')
              ⟨y8, rfl, rfl⟩ (fun jj σ H5' hjj ⟨y8, e1, e2⟩ => ?_) (fun σ H5' ⟨y8, e1, e2⟩ => ?_)
            · subst e1 e2
              refine ⟨_, rfl, _, rfl, _, _, rfl, rfl, some (.int (0 + (jj : Int))), ?_, rfl⟩
              have e : n ^ n0 * 2 ^ (n * n1) * 2 ^ (n * j + (jj + 1)) = n ^ n0 * 2 ^ (n * n1) * 2 ^ (n * j + jj) + n ^ n0 * 2 ^ (n * n1) * 2 ^ (n * j + jj) := by rw [← Nat.add_assoc, Nat.pow_succ, ← Nat.mul_assoc]; omega
              rw [e, Int.natCast_add]
              rfl
            · subst e1 e2
              rw [Int.toNat_natCast]
              refine ⟨some (.int (0 + (j : Int))), y8, ?_, rfl⟩
              rw [Nat.mul_add n j 1, Nat.mul_one]
          · subst e1 e2
            rw [Int.toNat_natCast]
            -- how many
            refine ⟨.ref v, rfl, .int n, rfl, v, n0, n1, n2, n, rfl, hvoc, hn1', hn2', by omega, by omega, by omega, ?_⟩
            have e : n ^ n0 * 2 ^ (n * n1 + n * n * n2) = n ^ n0 * 2 ^ (n * n1) * 2 ^ (n * (n * n2)) := by rw [Nat.pow_add, Nat.mul_assoc, Nat.mul_assoc]
            rw [e]
            generalize n ^ n0 * 2 ^ (n * n1) * 2 ^ (n * (n * n2)) = due
            refine ⟨.int (due : Int), rfl, _, _, .type "int", .type "int", true, rfl, .ty "int", .base (.int _), kit_ty (by decide +kernel), _, rfl, iteF ?_⟩
            refine ⟨.int (due : Int), rfl, _, _, .type "int", .type "bool", false, rfl, .ty "bool", .base (.int _), kit_ty (by decide +kernel), _, rfl, iteF ?_⟩
            refine ⟨.int (due : Int), rfl, .int (due : Int), rfl, rfl, _, rfl, ?_⟩
            rw [decide_eq_true rfl]
            refine iteF ?_
            exact ⟨_, _, _, _, _, _, rfl, rfl⟩
    · subst e1 e2
      exact q _
end
/-! ### what the top has written -/
theorem mk_dn {P : Program} {w : World} {K : PySem.W.Frag} {mg : Str → Option Value} {base : Heap} {x : Str} {ps : List Str} {k : Nat} {sp : Sp} {st : Stmt} {f : Addr} {fd : FuncData} (F : Fun K x x st f fd) (g : mg x = some (.ref f)) (b : Binds K fd ps []) (G : FnOk P w K mg base CX0 k f fd ps sp) : Nonempty (Dn P w K mg base x ps k sp) := ⟨⟨f, fd, F.kp, g, b, G⟩⟩
end K10
set_option Elab.async false
set_option linter.all false
set_option maxRecDepth 100000
set_option maxHeartbeats 4000000
namespace K10
open PySem PySem.Spec PyProof.Rows L2 Lc
/-! ### what the top has written -/
/-- a def as the top has written it -/
structure Td (K : PySem.W.Frag) (x : Str) (st : Stmt) (f : Addr) (fd : FuncData) : Prop where
  F : Fun K x x st f fd
  a : PySem.W.nsIn K mainGlobals x = some (some (.ref f))
theorem all_mk {l : PySem.W.OpenLaw} {w : World} {K : PySem.W.Frag} {h : Heap} {mg : Str → Option Value} {fa : Addr} (X : K.In h) (G : h.Ns mainGlobals mg) (hfa : mg "law" = some (.ref fa))
    {f0 : Addr} {od0 an0 : Option Addr} {sl0 : Array (Option Value)} {oc0 kV0 dc0 pm0 cd0 ct0 : Value}
    {f1 : Addr} {od1 an1 : Option Addr} {sl1 : Array (Option Value)} {oc1 kV1 dc1 pm1 cd1 ct1 : Value}
    {f2 : Addr} {od2 an2 : Option Addr} {sl2 : Array (Option Value)} {oc2 kV2 dc2 pm2 cd2 ct2 : Value}
    {f3 : Addr} {od3 an3 : Option Addr} {sl3 : Array (Option Value)} {oc3 kV3 dc3 pm3 cd3 ct3 : Value}
    {f4 : Addr} {od4 an4 : Option Addr} {sl4 : Array (Option Value)} {oc4 kV4 dc4 pm4 cd4 ct4 : Value}
    {f5 : Addr} {od5 an5 : Option Addr} {sl5 : Array (Option Value)} {oc5 kV5 dc5 pm5 cd5 ct5 : Value}
    {f6 : Addr} {od6 an6 : Option Addr} {sl6 : Array (Option Value)} {oc6 kV6 dc6 pm6 cd6 ct6 : Value}
    {f7 : Addr} {od7 an7 : Option Addr} {sl7 : Array (Option Value)} {oc7 kV7 dc7 pm7 cd7 ct7 : Value}
    {f8 : Addr} {od8 an8 : Option Addr} {sl8 : Array (Option Value)} {oc8 kV8 dc8 pm8 cd8 ct8 : Value}
    (a0 : PySem.W.nsIn K mainGlobals "power" = some (some (.ref f0))) (l0 : K.lookup f0 = some ⟨oc0, od0, .func (PySem.W.fnOf "power" "power" (defArgs s_power) (defBody s_power) (defScope s_power) .none kV0 dc0 pm0 an0 cd0 ct0), sl0⟩) (c0 : PySem.W.codeIn K cd0 "power" = true) (k0 : PySem.W.keepIn K (.ref f0) = true)
    (a1 : PySem.W.nsIn K mainGlobals "doublings" = some (some (.ref f1))) (l1 : K.lookup f1 = some ⟨oc1, od1, .func (PySem.W.fnOf "doublings" "doublings" (defArgs s_doublings) (defBody s_doublings) (defScope s_doublings) .none kV1 dc1 pm1 an1 cd1 ct1), sl1⟩) (c1 : PySem.W.codeIn K cd1 "doublings" = true) (k1 : PySem.W.keepIn K (.ref f1) = true)
    (a2 : PySem.W.nsIn K mainGlobals "how_many" = some (some (.ref f2))) (l2 : K.lookup f2 = some ⟨oc2, od2, .func (PySem.W.fnOf "how_many" "how_many" (defArgs s_how_many) (defBody s_how_many) (defScope s_how_many) .none kV2 dc2 pm2 an2 cd2 ct2), sl2⟩) (c2 : PySem.W.codeIn K cd2 "how_many" = true) (k2 : PySem.W.keepIn K (.ref f2) = true)
    (a3 : PySem.W.nsIn K mainGlobals "_law_deck" = some (some (.ref f3))) (l3 : K.lookup f3 = some ⟨oc3, od3, .func (PySem.W.fnOf "_law_deck" "_law_deck" (defArgs s_w_deck) (defBody s_w_deck) (defScope s_w_deck) .none kV3 dc3 pm3 an3 cd3 ct3), sl3⟩) (c3 : PySem.W.codeIn K cd3 "_law_deck" = true) (k3 : PySem.W.keepIn K (.ref f3) = true)
    (a4 : PySem.W.nsIn K mainGlobals "_law_draw" = some (some (.ref f4))) (l4 : K.lookup f4 = some ⟨oc4, od4, .func (PySem.W.fnOf "_law_draw" "_law_draw" (defArgs s_w_draw) (defBody s_w_draw) (defScope s_w_draw) .none kV4 dc4 pm4 an4 cd4 ct4), sl4⟩) (c4 : PySem.W.codeIn K cd4 "_law_draw" = true) (k4 : PySem.W.keepIn K (.ref f4) = true)
    (a5 : PySem.W.nsIn K mainGlobals "_law_word" = some (some (.ref f5))) (l5 : K.lookup f5 = some ⟨oc5, od5, .func (PySem.W.fnOf "_law_word" "_law_word" (defArgs s_w_word) (defBody s_w_word) (defScope s_w_word) .none kV5 dc5 pm5 an5 cd5 ct5), sl5⟩) (c5 : PySem.W.codeIn K cd5 "_law_word" = true) (k5 : PySem.W.keepIn K (.ref f5) = true)
    (a6 : PySem.W.nsIn K mainGlobals "_law_words" = some (some (.ref f6))) (l6 : K.lookup f6 = some ⟨oc6, od6, .func (PySem.W.fnOf "_law_words" "_law_words" (defArgs s_w_words) (defBody s_w_words) (defScope s_w_words) .none kV6 dc6 pm6 an6 cd6 ct6), sl6⟩) (c6 : PySem.W.codeIn K cd6 "_law_words" = true) (k6 : PySem.W.keepIn K (.ref f6) = true)
    (a7 : PySem.W.nsIn K mainGlobals "_law_vocabulary" = some (some (.ref f7))) (l7 : K.lookup f7 = some ⟨oc7, od7, .func (PySem.W.fnOf "_law_vocabulary" "_law_vocabulary" (defArgs s_w_vocabulary) (defBody s_w_vocabulary) (defScope s_w_vocabulary) .none kV7 dc7 pm7 an7 cd7 ct7), sl7⟩) (c7 : PySem.W.codeIn K cd7 "_law_vocabulary" = true) (k7 : PySem.W.keepIn K (.ref f7) = true)
    (a8 : PySem.W.nsIn K mainGlobals "law" = some (some (.ref f8))) (l8 : K.lookup f8 = some ⟨oc8, od8, .func (PySem.W.fnOf "law" "law" (defArgs s_law) (defBody s_law) (defScope s_law) .none kV8 dc8 pm8 an8 cd8 ct8), sl8⟩) (c8 : PySem.W.codeIn K cd8 "law" = true) (k8 : PySem.W.keepIn K (.ref f8) = true)
    (z_len : PySem.W.nsIn K mainGlobals "len" = some none)
    (z_list : PySem.W.nsIn K mainGlobals "list" = some none)
    (z_sum : PySem.W.nsIn K mainGlobals "sum" = some none)
    (z_range : PySem.W.nsIn K mainGlobals "range" = some none)
    (z_tuple : PySem.W.nsIn K mainGlobals "tuple" = some none)
    (z_sorted : PySem.W.nsIn K mainGlobals "sorted" = some none)
    (z_int : PySem.W.nsIn K mainGlobals "int" = some none)
    (z_bool : PySem.W.nsIn K mainGlobals "bool" = some none)
    (z_isinstance : PySem.W.nsIn K mainGlobals "isinstance" = some none) :
    ∃ fd : FuncData, (∀ (s : Shared) (v : Value), BindsTo s fd ⟨[v], []⟩ [("_law_script", v)]) ∧ ∀ base : Heap, K.In base → base.Ns mainGlobals mg → FnOk l.prog w K mg base CX0 5 fa fd ["_law_script"] (spLaw K) := by
  have e := hfa.symm.trans (PySem.W.mg_of X G a8)
  cases e
  have F_power := fun_mk (st := s_power) l0 c0 k0
  have b_power := F_power.binds (ps := ["base", "times"]) fun _ _ _ _ _ _ us hl => match us, hl with | [_, _], _ => rfl
  have F_doublings := fun_mk (st := s_doublings) l1 c1 k1
  have b_doublings := F_doublings.binds (ps := ["vocabulary", "size"]) fun _ _ _ _ _ _ us hl => match us, hl with | [_, _], _ => rfl
  have F_how_many := fun_mk (st := s_how_many) l2 c2 k2
  have b_how_many := F_how_many.binds (ps := ["vocabulary", "size"]) fun _ _ _ _ _ _ us hl => match us, hl with | [_, _], _ => rfl
  have F_w_deck := fun_mk (st := s_w_deck) l3 c3 k3
  have b_w_deck := F_w_deck.binds (ps := ["_law_script"]) fun _ _ _ _ _ _ us hl => match us, hl with | [_], _ => rfl
  have F_w_draw := fun_mk (st := s_w_draw) l4 c4 k4
  have b_w_draw := F_w_draw.binds (ps := ["_law_deck_here", "_law_most"]) fun _ _ _ _ _ _ us hl => match us, hl with | [_, _], _ => rfl
  have F_w_word := fun_mk (st := s_w_word) l5 c5 k5
  have b_w_word := F_w_word.binds (ps := ["_law_deck_here", "_law_least", "_law_known"]) fun _ _ _ _ _ _ us hl => match us, hl with | [_, _, _], _ => rfl
  have F_w_words := fun_mk (st := s_w_words) l6 c6 k6
  have b_w_words := F_w_words.binds (ps := ["_law_deck_here", "_law_many", "_law_least", "_law_known"]) fun _ _ _ _ _ _ us hl => match us, hl with | [_, _, _, _], _ => rfl
  have F_w_vocabulary := fun_mk (st := s_w_vocabulary) l7 c7 k7
  have b_w_vocabulary := F_w_vocabulary.binds (ps := ["_law_deck_here", "_law_names", "_law_kinds", "_law_doings"]) fun _ _ _ _ _ _ us hl => match us, hl with | [_, _, _, _], _ => rfl
  have F_law := fun_mk (st := s_law) l8 c8 k8
  have m_len := PySem.W.mg_none_of X G z_len
  have m_list := PySem.W.mg_none_of X G z_list
  have m_sum := PySem.W.mg_none_of X G z_sum
  have m_range := PySem.W.mg_none_of X G z_range
  have m_tuple := PySem.W.mg_none_of X G z_tuple
  have m_sorted := PySem.W.mg_none_of X G z_sorted
  have m_int := PySem.W.mg_none_of X G z_int
  have m_bool := PySem.W.mg_none_of X G z_bool
  have m_isinstance := PySem.W.mg_none_of X G z_isinstance
  refine ⟨PySem.W.fnOf "law" "law" (defArgs s_law) (defBody s_law) (defScope s_law) .none kV8 dc8 pm8 an8 cd8 ct8, fun s v => .of_eq rfl, fun base hb hg => ?_⟩
  have C_power : Dn l.prog w K mg base "power" ["base", "times"] 1 spPower := ⟨f0, _, F_power.kp, PySem.W.mg_of X G a0, b_power, ok_power F_power⟩
  have C_doublings : Dn l.prog w K mg base "doublings" ["vocabulary", "size"] 1 (spDoublings K) := ⟨f1, _, F_doublings.kp, PySem.W.mg_of X G a1, b_doublings, ok_doublings F_doublings m_len⟩
  have C_how_many : Dn l.prog w K mg base "how_many" ["vocabulary", "size"] 2 (spHowMany K) := ⟨f2, _, F_how_many.kp, PySem.W.mg_of X G a2, b_how_many, ok_how_many F_how_many m_len C_power C_doublings⟩
  have C_w_deck : Dn l.prog w K mg base "_law_deck" ["_law_script"] 1 (spDeck K) := ⟨f3, _, F_w_deck.kp, PySem.W.mg_of X G a3, b_w_deck, ok_w_deck F_w_deck m_len m_list m_sum⟩
  have C_w_draw : Dn l.prog w K mg base "_law_draw" ["_law_deck_here", "_law_most"] 1 spDraw := ⟨f4, _, F_w_draw.kp, PySem.W.mg_of X G a4, b_w_draw, ok_w_draw F_w_draw⟩
  have C_w_word : Dn l.prog w K mg base "_law_word" ["_law_deck_here", "_law_least", "_law_known"] 2 spWord := ⟨f5, _, F_w_word.kp, PySem.W.mg_of X G a5, b_w_word, ok_w_word F_w_word m_range C_w_draw⟩
  have C_w_words : Dn l.prog w K mg base "_law_words" ["_law_deck_here", "_law_many", "_law_least", "_law_known"] 3 spWords := ⟨f6, _, F_w_words.kp, PySem.W.mg_of X G a6, b_w_words, ok_w_words F_w_words m_range C_w_word⟩
  have C_w_vocabulary : Dn l.prog w K mg base "_law_vocabulary" ["_law_deck_here", "_law_names", "_law_kinds", "_law_doings"] 4 spVoc := ⟨f7, _, F_w_vocabulary.kp, PySem.W.mg_of X G a7, b_w_vocabulary, ok_w_vocabulary F_w_vocabulary m_tuple m_sorted C_w_words⟩
  exact ok_law F_law m_range m_int m_bool m_isinstance C_w_deck C_w_draw C_w_vocabulary C_how_many
end K10
open PySem PySem.W PyProof.Rows
set_option maxHeartbeats 0 in
theorem PySem.Challenge.cw_linecourt_k10_how_many_worlds_holds : PySem.Challenge.rw_linecourt_k10_how_many_worlds.Holds := by
  w_on; o_law; k_head; (case hw => w_witness2)
  k_fill
  refine L2.walk_of (l := PySem.Challenge.rw_linecourt_k10_how_many_worlds) (n := 63) (k := 5) (x := "_law_script") (CX := fun _ => L2.CX0) (sp := fun w => K10.spLaw _) rfl (by decide) rfl ⟨rfl, by decide, by decide⟩ (fun w h Y => PySem.W.kIn_of Y) ?F (fun _ _ a ns hl _ hS => ⟨a, ns, rfl, hS, fun _ => rfl⟩) (fun _ _ _ _ _ h => h)
  case F =>
    intro w mg fa h KX G hmg
    refine' K10.all_mk KX G hmg ?a0 ?l0 ?c0 ?k0 ?a1 ?l1 ?c1 ?k1 ?a2 ?l2 ?c2 ?k2 ?a3 ?l3 ?c3 ?k3 ?a4 ?l4 ?c4 ?k4 ?a5 ?l5 ?c5 ?k5 ?a6 ?l6 ?c6 ?k6 ?a7 ?l7 ?c7 ?k7 ?a8 ?l8 ?c8 ?k8 ?z_len ?z_list ?z_sum ?z_range ?z_tuple ?z_sorted ?z_int ?z_bool ?z_isinstance
    (case a0 => k_is); (case l0 => k_is); (case c0 => k_is); (case k0 => k_is); (case a1 => k_is); (case l1 => k_is); (case c1 => k_is); (case k1 => k_is); (case a2 => k_is); (case l2 => k_is); (case c2 => k_is); (case k2 => k_is); (case a3 => k_is); (case l3 => k_is); (case c3 => k_is); (case k3 => k_is); (case a4 => k_is); (case l4 => k_is); (case c4 => k_is); (case k4 => k_is); (case a5 => k_is); (case l5 => k_is); (case c5 => k_is); (case k5 => k_is); (case a6 => k_is); (case l6 => k_is); (case c6 => k_is); (case k6 => k_is); (case a7 => k_is); (case l7 => k_is); (case c7 => k_is); (case k7 => k_is); (case a8 => k_is); (case l8 => k_is); (case c8 => k_is); (case k8 => k_is); (case z_len => k_is); (case z_list => k_is); (case z_sum => k_is); (case z_range => k_is); (case z_tuple => k_is); (case z_sorted => k_is); (case z_int => k_is); (case z_bool => k_is); (case z_isinstance => k_is)
