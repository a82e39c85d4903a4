import PyProof.Rows.All
import Wide.All
import OpenK.AllK
import Wide.FinOn
import HandS.ForMost
import HandS.More
import HandS.Wide
import HandS.IsInst
import HandS.Flow
import HandS.Replace
import HandS.Evl
import PyProof.NeData
import HandS.TupAny
import HandS.FStr
import PyProof.Rows.StrJoinMade
import PySem.Challenge.RW_linecourt_k15_forms_written
set_option Elab.async false
set_option linter.all false
set_option maxRecDepth 100000
set_option maxHeartbeats 4000000
namespace Lc
open PySem PySem.Spec PyProof.Rows L2
/-! ### a def that is called -/
structure Dn (P : Program) (w : World) (K : PySem.W.Frag) (mg : Str → Option Value) (base : Heap) (x : Str) (ps : List Str) (k : Nat) (sp : Sp) where
  f : Addr
  fd : FuncData
  kp : PySem.W.keepIn K (.ref f) = true
  g : mg x = some (.ref f)
  b : Binds K fd ps []
  G : FnOk P w K mg base CX0 k f fd ps sp
section
variable {X : Cx} {x : Str} {ps : List Str} {k : Nat} {sp : Sp} {e : Expr} {es : List Expr} {t : TA} {p pos : Pos}
theorem pe_dn (C : Dn X.prog X.w X.K X.mg X.base x ps k sp) (hr : Room k X.A) (hg : Gl X x) (ha : PA X (e :: es) t) (hdb : (x == ("__debug__" : Str)) = false := by decide)
    (he : starEach (e :: es) X.env = (false, eval e X.env) :: starEach es X.env := by rfl) (hpl : (backTo pos (starEach es X.env)).any (·.1) = false := by rfl) :
    PE X (.Call (.Name x p) (e :: es) [] pos) (tCall sp [] E0 t) := pe_call C.G hr hg C.g C.kp C.b .nil pass0 ha hdb he hpl
theorem pe_dn0 (C : Dn X.prog X.w X.K X.mg X.base x ps k sp) (hr : Room k X.A) (hg : Gl X x) (hdb : (x == ("__debug__" : Str)) = false := by decide) :
    PE X (.Call (.Name x p) [] [] pos) (tCall sp [] E0 tNil) := pe_call0 C.G hr hg C.g C.kp C.b .nil pass0 hdb
end
/-! ### frames: what is not in M stays as it is -/
def Fr (M : Addr → Prop) (H H' : Hp) : Prop := ∀ b o, H b = some o → ∃ o', H' b = some o' ∧ (¬ M b → o' = o)
theorem Fr.refl {M : Addr → Prop} (H : Hp) : Fr M H H := fun _ o h => ⟨o, h, fun _ => rfl⟩
theorem Fr.trans {M : Addr → Prop} {H H1 H2 : Hp} (a : Fr M H H1) (b : Fr M H1 H2) : Fr M H H2 := fun c o h => by
  obtain ⟨o1, h1, e1⟩ := a c o h
  obtain ⟨o2, h2, e2⟩ := b c o1 h1
  exact ⟨o2, h2, fun n => (e2 n).trans (e1 n)⟩
theorem Fr.new {M : Addr → Prop} {H : Hp} {p : Addr} {o : HO} (h : H p = none) : Fr M H (upd H p o) := fun b u e => ⟨u, by rw [upd_ne (ne_of_none e h)]; exact e, fun _ => rfl⟩
theorem Fr.mut {M : Addr → Prop} {H : Hp} {p : Addr} {o : HO} (h : M p) : Fr M H (upd H p o) := fun b u e => by
  by_cases q : b = p
  · subst q
    exact ⟨o, upd_same, fun n => absurd h n⟩
  · exact ⟨u, by rw [upd_ne q]; exact e, fun _ => rfl⟩
/-- what H does not know may change -/
theorem Fr.own {M : Addr → Prop} {H H' : Hp} {p : Addr} {o : HO} (e : Fr M H H') (h : H p = none) : Fr M H (upd H' p o) := fun b u q => by
  obtain ⟨o', h1, h2⟩ := e b u q
  exact ⟨o', by rw [upd_ne (ne_of_none q h)]; exact h1, h2⟩
theorem Fr.free {M : Addr → Prop} {H H' : Hp} {p : Addr} (e : Fr M H H') (h : H' p = none) : H p = none := by
  cases q : H p with
  | none => rfl
  | some o =>
    obtain ⟨o', h1, _⟩ := e p o q
    rw [h1] at h
    cases h
theorem Fr.at {M : Addr → Prop} {H H' : Hp} {b : Addr} {o : HO} (e : Fr M H H') (h : H b = some o) (n : ¬ M b) : H' b = some o := by
  obtain ⟨o', h1, h2⟩ := e b o h
  rw [h2 n] at h1
  exact h1
theorem Fr.of {M : Addr → Prop} {H H' : Hp} (e : Same H H') : Fr M H H' := fun b o h => ⟨o, e b o h, fun _ => rfl⟩
theorem Fr.seq {M : Addr → Prop} {K : PySem.W.Frag} {H H' : Hp} {a : Addr} {xs : List V} (e : Fr M H H') (n : ¬ M a) (h : SqL K H a xs) : SqL K H' a xs := by
  rcases h with (h | ⟨o, h⟩) | h
  · exact .inl (.inl (e.at h n))
  · exact .inl (.inr ⟨o, e.at h n⟩)
  · exact .inr h
theorem same_new {H : Hp} {p : Addr} {o : HO} (h : H p = none) : Same H (upd H p o) := fun b x e => by
  rw [upd_ne (ne_of_none e h)]
  exact e
theorem sz {n : Nat} (h : n ≤ 100000) : n ≤ sizeLine := Nat.le_trans h (by decide)
theorem szl {n : Nat} (h : n < 100000) : n < sizeLine := Nat.lt_of_lt_of_le h (by decide)
/-! ### powers by squares -/
theorem pow_odd (t s : Nat) (l : Nat) (h : l % 2 = 1) : t * s ^ l = (t * s) * (s * s) ^ (l / 2) := by
  have e : l = 2 * (l / 2) + 1 := by omega
  have e2 : (s * s) ^ (l / 2) = s ^ (2 * (l / 2)) := by rw [Nat.pow_mul]; congr 1; exact (Nat.pow_two s).symm
  rw [e2]
  conv => lhs; rw [e]
  rw [Nat.pow_succ, Nat.mul_assoc, Nat.mul_comm s]
theorem pow_even (t s : Nat) (l : Nat) (h : l % 2 = 0) : t * s ^ l = t * (s * s) ^ (l / 2) := by
  have e : l = 2 * (l / 2) := by omega
  have e2 : (s * s) ^ (l / 2) = s ^ (2 * (l / 2)) := by rw [Nat.pow_mul]; congr 1; exact (Nat.pow_two s).symm
  rw [e2, ← e]
/-! ### pigeons -/
theorem nodup_le {α : Type} [DecidableEq α] : ∀ (l m : List α), l.Nodup → (∀ x ∈ l, x ∈ m) → l.length ≤ m.length
  | [], m, _, _ => Nat.zero_le _
  | a :: l, m, hn, hs => by
    have ha : a ∈ m := hs a List.mem_cons_self
    have hn' := List.nodup_cons.mp hn
    have ih := nodup_le l (m.erase a) hn'.2 fun x hx => (List.mem_erase_of_ne (fun e => by subst e; exact hn'.1 hx)).mpr (hs x (List.mem_cons_of_mem _ hx))
    rw [List.length_erase_of_mem ha] at ih
    have : 0 < m.length := List.length_pos_of_mem ha
    simp only [List.length_cons]
    omega
/-- the words with one more sign -/
def alts (p : List Nat) : List (List Nat) := (List.range 26).map fun i => p ++ [97 + i]
theorem alts_nodup (p : List Nat) : (alts p).Nodup := by
  unfold alts
  have h := @List.nodup_range 26
  unfold List.Nodup at h ⊢
  rw [List.pairwise_map]
  refine h.imp fun {i j} ne e => ne ?_
  have := List.append_cancel_left e
  simp at this
  exact this
theorem own_few (own : List (List Nat)) (n : Nat) (h : ∀ o ∈ own, (own.filter fun q => decide (q.dropLast = o.dropLast)).length ≤ n) (p : List Nat) : (own.filter fun q => decide (q.dropLast = p)).length ≤ n := by
  by_cases hp : ∃ o ∈ own, o.dropLast = p
  · obtain ⟨o, ho, e⟩ := hp
    rw [← e]
    exact h o ho
  · have : (own.filter fun q => decide (q.dropLast = p)) = [] := by
      rw [List.filter_eq_nil_iff]
      intro q hq
      simp
      exact fun e => hp ⟨q, hq, e⟩
    rw [this]
    exact Nat.zero_le _
theorem free_sign (known own : List (List Nat)) (n : Nat) (h : ∀ o ∈ own, (own.filter fun q => decide (q.dropLast = o.dropLast)).length ≤ n) (hk : known.length + n < 26) (p : List Nat) :
    ∃ i, i < 26 ∧ (p ++ [97 + i]) ∉ known ∧ (p ++ [97 + i]) ∉ own := by
  apply Classical.byContradiction
  intro hc
  have hs : ∀ x ∈ alts p, x ∈ known ++ own.filter fun q => decide (q.dropLast = p) := by
    intro x hx
    obtain ⟨i, hi, rfl⟩ := List.mem_map.mp hx
    have hi := List.mem_range.mp hi
    by_cases h1 : (p ++ [97 + i]) ∈ known
    · exact List.mem_append_left _ h1
    · by_cases h2 : (p ++ [97 + i]) ∈ own
      · refine List.mem_append_right _ (List.mem_filter.mpr ⟨h2, ?_⟩)
        simp
      · exact absurd ⟨i, hi, h1, h2⟩ hc
  have := nodup_le _ _ (alts_nodup p) hs
  rw [List.length_append] at this
  have h2 := own_few own n h p
  have h3 : (alts p).length = 26 := by simp [alts]
  omega
end Lc
namespace Lc
open PySem PySem.Spec PyProof.Rows L2
/-! ### data -/
theorem dpI {K : PySem.W.Frag} {H : Hp} : ∀ ns : List Int, DpAll K H (ns.map V.int) (ns.map PyData.int)
  | [] => .nil
  | n :: r => .cons (.int n) (dpI r)
theorem dpS {K : PySem.W.Frag} {H : Hp} : ∀ ns : List Str, DpAll K H (ns.map V.str) (ns.map PyData.str)
  | [] => .nil
  | n :: r => .cons (.str n) (dpS r)
theorem lay_ints : ∀ ns : List Int, PyData.canLayAll0 (ns.map PyData.int) = true
  | [] => rfl
  | n :: r => by
    show (PyData.canLay0 (.int n) && PyData.canLayAll0 (r.map PyData.int)) = true
    rw [lay_ints r]
    rfl
theorem dep_ints : ∀ ns : List Int, PyData.depthAll (ns.map PyData.int) = 0
  | [] => rfl
  | n :: r => by
    show max (PyData.depth (.int n)) (PyData.depthAll (r.map PyData.int)) = 0
    rw [dep_ints r]
    rfl
theorem shInts (ns : List Int) : SeqAt.shaped (.list (ns.map PyData.int)) = true := by
  unfold SeqAt.shaped
  rw [show PyData.canLay0 (.list (ns.map PyData.int)) = true from lay_ints ns, show PyData.depth (.list (ns.map PyData.int)) = 1 by show PyData.depthAll _ + 1 = 1; rw [dep_ints]]
  rfl
theorem lay_strs : ∀ ns : List Str, (∀ x ∈ ns, PyData.canLay0 (.str x) = true) → PyData.canLayAll0 (ns.map PyData.str) = true
  | [], _ => rfl
  | n :: r, h => by
    show (PyData.canLay0 (.str n) && PyData.canLayAll0 (r.map PyData.str)) = true
    rw [lay_strs r fun x hx => h x (List.mem_cons_of_mem _ hx), h n List.mem_cons_self]
    rfl
theorem dep_strs : ∀ ns : List Str, PyData.depthAll (ns.map PyData.str) = 0
  | [] => rfl
  | n :: r => by
    show max (PyData.depth (.str n)) (PyData.depthAll (r.map PyData.str)) = 0
    rw [dep_strs r]
    rfl
theorem shStrs (ns : List Str) (h : ∀ x ∈ ns, PyData.canLay0 (.str x) = true) : SeqAt.shaped (.list (ns.map PyData.str)) = true := by
  unfold SeqAt.shaped
  rw [show PyData.canLay0 (.list (ns.map PyData.str)) = true from lay_strs ns h, show PyData.depth (.list (ns.map PyData.str)) = 1 by show PyData.depthAll _ + 1 = 1; rw [dep_strs]]
  rfl
theorem eqv_nil {α : Type} (f : α → PyData) : ∀ ns : List α, PyData.eqv (.list (ns.map f)) (.list []) = ns.isEmpty
  | [] => rfl
  | _ :: _ => rfl
theorem cut_to (xs : List V) (k : Nat) : cutV xs none (some (k : Int)) = xs.take k := by
  unfold cutV
  rw [HT.sIx_none, HT.sIx_nat, List.drop_zero, Nat.sub_zero]
  by_cases h : k ≤ xs.length
  · rw [Nat.min_eq_left h]
  · rw [Nat.min_eq_right (by omega), List.take_length, List.take_of_length_le (by omega)]
theorem cut_from (xs : List V) (k : Nat) : cutV xs (some (k : Int)) none = xs.drop k := by
  unfold cutV
  rw [HT.sIx_none, HT.sIx_nat]
  by_cases h : k ≤ xs.length
  · rw [Nat.min_eq_left h, List.take_of_length_le]
    rw [List.length_drop]
    exact Nat.le_refl _
  · rw [Nat.min_eq_right (by omega), Nat.sub_self, List.take_zero, List.drop_of_length_le (by omega)]
end Lc
namespace Lc
open PySem PySem.Spec PyProof.Rows L2
/-! ### texts by their codes -/
def tx (l : List Nat) : Str := ⟨l.toArray⟩
theorem tx_cps (l : List Nat) : (tx l).cps.toList = l := by simp [tx]
theorem tx_len (l : List Nat) : (tx l).length = l.length := by simp [tx, Str.length]
theorem tx_app (a b : List Nat) : tx a ++ tx b = tx (a ++ b) := by
  have h : (tx a ++ tx b).cps = (tx (a ++ b)).cps := by rw [Str.cps_append]; simp [tx]
  generalize tx a ++ tx b = x at h
  cases x
  cases h
  rfl
theorem tx_of (s : Str) : s = tx s.cps.toList := by
  cases s
  simp [tx]
theorem tx_inj {a b : List Nat} : tx a = tx b ↔ a = b := ⟨fun h => by rw [← tx_cps a, h, tx_cps], fun h => by rw [h]⟩
theorem tx_one (c : Nat) : (⟨#[c]⟩ : Str) = tx [c] := rfl
theorem cutS_to (l : List Nat) (k : Nat) : cutS (tx l) none (some (k : Int)) = tx (l.take k) := by
  unfold cutS
  rw [HT.sIx_none, HT.sIx_nat, tx_cps, tx_len, List.drop_zero, Nat.sub_zero]
  unfold tx
  by_cases h : k ≤ l.length
  · rw [Nat.min_eq_left h]
  · rw [Nat.min_eq_right (by omega), List.take_length, List.take_of_length_le (by omega)]
theorem cutS_from (l : List Nat) (k : Nat) : cutS (tx l) (some (k : Int)) none = tx (l.drop k) := by
  unfold cutS
  rw [HT.sIx_none, HT.sIx_nat, tx_cps, tx_len]
  unfold tx
  by_cases h : k ≤ l.length
  · rw [Nat.min_eq_left h, List.take_of_length_le]
    rw [List.length_drop]
    exact Nat.le_refl _
  · rw [Nat.min_eq_right (by omega), Nat.sub_self, List.take_zero, List.drop_of_length_le (by omega)]
theorem cutS_last (p : List Nat) (x : Nat) : cutS (tx (p ++ [x])) none (some (-1)) = tx p := by
  unfold cutS
  rw [HT.sIx_none, tx_cps, tx_len, List.drop_zero, Nat.sub_zero]
  have e : HT.sIx (p ++ [x]).length (p ++ [x]).length (some (-1)) = p.length := by
    rw [List.length_append]
    show HT.sIx (p.length + 1) (p.length + 1) (some (-1)) = p.length
    unfold HT.sIx
    simp
    omega
  rw [e, List.take_left]
  rfl
theorem in_strs {x : Str} : ∀ {xs : List Str}, inV (.str x) (xs.map V.str) = decide (x ∈ xs)
  | [] => by simp [inV]
  | y :: r => by
    have ih := in_strs (x := x) (xs := r)
    unfold inV at ih ⊢
    rw [List.map_cons, List.any_cons, ih]
    show ((y == x) || decide (x ∈ r)) = decide (x ∈ y :: r)
    by_cases h : y = x
    · subst h
      simp
    · have h2 : ¬ x = y := fun e => h e.symm
      simp [h, h2]
theorem flat_strs : ∀ xs : List Str, (xs.map V.str).all flatV = true
  | [] => rfl
  | y :: r => by
    rw [List.map_cons, List.all_cons, flat_strs r]
    rfl
/-- small signs alone -/
def Low (l : List Nat) : Prop := ∀ c ∈ l, 97 ≤ c ∧ c ≤ 122
theorem Low.app {a b : List Nat} (h : Low a) (g : Low b) : Low (a ++ b) := fun c hc => (List.mem_append.mp hc).elim (h c) (g c)
theorem Low.take {a : List Nat} (h : Low a) (k : Nat) : Low (a.take k) := fun c hc => h c (List.mem_of_mem_take hc)
theorem Low.drop {a : List Nat} (h : Low a) (k : Nat) : Low (a.drop k) := fun c hc => h c (List.mem_of_mem_drop hc)
theorem Low.lay {a : List Nat} (h : Low a) : PyData.canLay0 (.str (tx a)) = true := by
  show PySem.PyData.strOk (tx a) = true
  unfold PyData.strOk tx
  rw [List.all_toArray]
  rw [List.all_eq_true]
  intro c hc
  have := h c hc
  simp
  omega
end Lc
namespace Lc
open PySem PySem.Spec PyProof.Rows L2
/-! ### the rules with the written part told, for use inside a comprehension -/
section
variable {X : Cx} (K : PySem.W.Frag)
theorem ix_listK (h : X.K = K := by rfl) : IxR X (rIxL K) := h ▸ ix_list
theorem ix_tupK (h : X.K = K := by rfl) : IxR X (rIxT K) := h ▸ ix_tup
theorem ix_seqK (h : X.K = K := by rfl) : IxR X (rIx K) := h ▸ ix_seq
theorem sl_listK (h : X.K = K := by rfl) : SlR X (rSlL K) := h ▸ sl_list
theorem sl_tupK (h : X.K = K := by rfl) : SlR X (rSlT K) := h ▸ sl_tup
theorem op_in_seqK (h : X.K = K := by rfl) : OpR X (compareOp .In) (rIn K false) := h ▸ op_in_seq
theorem op_notIn_seqK (h : X.K = K := by rfl) : OpR X (compareOp .NotIn) (rIn K true) := h ▸ op_notIn_seq
theorem op_eqDK (hu : X.A.units + 64 < cLine) (h : X.K = K := by rfl) : OpR X (compareOp .Eq) (rEqD K) := h ▸ op_eqD hu
theorem op_neDK (hu : X.A.units + 64 < cLine) (h : X.K = K := by rfl) : OpR X (compareOp .NotEq) (rNeD K) := h ▸ op_neD hu
theorem op_catTK (h : X.K = K := by rfl) : OpR X (binaryOp .Add) (rCatT K) := h ▸ op_catT
def rLenQ (K : PySem.W.Frag) : List V → Hp → VK → Prop := fun xs H Q => ∃ p ys, xs = [.ref p] ∧ (SqL K H p ys ∨ SqT K H p ys) ∧ Q (.int ys.length) H
theorem call_len_seqK (h : X.K = K := by rfl) : CallR X (.builtin "len") (rLenQ K) := h ▸ call_len_seq
theorem call_isiK' (h : X.K = K := by rfl) : CallR X (.builtin "isinstance") (rIsi K) := h ▸ call_isi
variable {o e : Expr} {es : List Expr} {to : TE} {t : TA} {name : Str} {apos cpos : Pos} {T id : String} {r : V → List V → Hp → VK → Prop}
theorem pe_bmK (pa : PlainAttrs T) (slot : Slot T name id) (hty : typeOf (.builtin id) = pure (.type "method_descriptor")) (hm : MtR X id r) (ho : PE X o to) (ha : PA X (e :: es) t) (h : X.K = K := by rfl)
    (hbase : attributeBase o name X.env (eval o X.env) = eval o X.env := by rfl)
    (hfew : ((backTo cpos (starEach (e :: es) X.env)).all (fun x => !x.1) && (backToKw cpos (keywordEach [] X.env)).all (fun x => x.1.isSome)
      && decide ((e :: es).length + ([] : List Keyword).length + (if ([] : List Keyword).isEmpty then 0 else 1) < 30)) = true := by rfl)
    (hline : (apos.endLine == cpos.line) = true := by rfl) (hs : starEach (e :: es) X.env = (false, eval e X.env) :: starEach es X.env := by rfl) (hplain : (backTo cpos (starEach es X.env)).any (·.1) = false := by rfl) :
    PE X (.Call (.Attribute o name apos) (e :: es) [] cpos) (tBM K T r to t) := h ▸ pe_bm pa slot hty hm ho ha hbase hfew hline hs hplain
theorem pe_bm0K (pa : PlainAttrs T) (slot : Slot T name id) (hty : typeOf (.builtin id) = pure (.type "method_descriptor")) (hm : MtR X id r) (ho : PE X o to) (h : X.K = K := by rfl)
    (hbase : attributeBase o name X.env (eval o X.env) = eval o X.env := by rfl) (hline : (apos.endLine == cpos.line) = true := by rfl) : PE X (.Call (.Attribute o name apos) [] [] cpos) (tBM0 K T r to) := h ▸ pe_bm0 pa slot hty hm ho hbase hline
theorem pg_tupK {es : List Expr} {k : Nat} {t : TGs} {n : Nat} {pos : Pos} (hc : X.calm = true) (hg : PGs X es t) (h : X.K = K := by rfl)
    (hn : (assignEach es X.env).length = n := by rfl) (hst : (assignEach es X.env).findIdx? (·.1) = none := by rfl) : PG X (.Tuple es k pos) (gTup K n t) := h ▸ pg_tup hc hg hn hst
theorem pi_listK {tg l : Expr} {tl : TE} (hl : PE X l tl) (h : X.K = K := by rfl) : PI X tg l (iList K tl) := h ▸ pi_list hl
theorem pi_tupK {tg l : Expr} {tl : TE} (hl : PE X l tl) (h : X.K = K := by rfl) : PI X tg l (iTup K tl) := h ▸ pi_tup hl
end
end Lc
namespace Lc
open PySem PySem.Spec PyProof.Rows L2
theorem yes_if {σ : L2.St} {H : Hp} {A B : Hp → Prop} (h : A H) : tYes σ H (fun b H3 => if b = true then A H3 else B H3) := by
  show if true = true then A H else B H
  rw [if_pos rfl]
  exact h
end Lc
set_option Elab.async false
set_option linter.all false
set_option maxRecDepth 100000
set_option maxHeartbeats 4000000
namespace Lc
open PySem PySem.Spec PyProof.Rows L2
/-! ### x == [], x != [], t == (), t != (), whatever the items are -/
section
variable {X : Cx}
theorem size_ne {xs : List V} {its : List Value} (r : Vals xs its) (h : xs ≠ []) : (its.toArray.size != (#[] : Array Value).size) = true := by
  have e := r.length
  have : xs.length ≠ 0 := fun z => h (List.length_eq_zero_iff.mp z)
  simp
  intro z
  rw [z] at e
  simp at e
  exact h e
def rEqNil (K : PySem.W.Frag) (neg : Bool) : R2 := fun x y H Q => ∃ a b xs, x = .ref a ∧ y = .ref b ∧ SqL K H a xs ∧ SqL K H b [] ∧ Q (.bl (xs.isEmpty != neg)) H
def rEqNilT (K : PySem.W.Frag) (neg : Bool) : R2 := fun x y H Q => ∃ a b xs, x = .ref a ∧ y = .ref b ∧ SqT K H a xs ∧ SqT K H b [] ∧ Q (.bl (xs.isEmpty != neg)) H
theorem op_eqNil (hu : X.A.units < cLine) : OpR X (compareOp .Eq) (rEqNil X.K false) := by
  intro pins s σ H x y v u Q I rx ry h
  obtain ⟨a, b, xs, rfl, rfl, ha, hb, q⟩ := h
  cases rx
  cases ry
  obtain ⟨its, r1, p1, _⟩ := I.list ha
  obtain ⟨its2, r2, p2, _⟩ := I.list hb
  cases r2
  by_cases hx : xs = []
  · subst hx
    cases r1
    exact SeqAt.eq_listAt (e := fun _ => true) p1.isList p2.isList rfl hu (fun j h1 _ => absurd h1 (by simp)) ⟨.bl true, H, I, rfl, q⟩
  · refine SeqAt.eq_list_lengthsAt p1.isList p2.isList (size_ne r1 hx) hu ⟨.bl false, H, I, rfl, ?_⟩
    cases xs with
    | nil => exact absurd rfl hx
    | cons _ _ => exact q
theorem op_neNil (hu : X.A.units < cLine) : OpR X (compareOp .NotEq) (rEqNil X.K true) := by
  intro pins s σ H x y v u Q I rx ry h
  obtain ⟨a, b, xs, rfl, rfl, ha, hb, q⟩ := h
  cases rx
  cases ry
  obtain ⟨its, r1, p1, _⟩ := I.list ha
  obtain ⟨its2, r2, p2, _⟩ := I.list hb
  cases r2
  by_cases hx : xs = []
  · subst hx
    cases r1
    exact SeqAt.RcNeAt.lists (e := fun _ => true) p1.isList p2.isList rfl hu (fun j h1 _ => absurd h1 (by simp)) _ _ _ _ ⟨.bl false, H, I, rfl, q⟩
  · refine SeqAt.RcNeAt.lists_lengths p1.isList p2.isList (size_ne r1 hx) hu _ _ _ _ ⟨.bl true, H, I, rfl, ?_⟩
    cases xs with
    | nil => exact absurd rfl hx
    | cons _ _ => exact q
theorem tup_empty {xs : List V} {its : List Value} (r : Vals xs its) : ((List.range (min its.toArray.size (#[] : Array Value).size)).all (fun _ => true) && its.toArray.size == (#[] : Array Value).size) = xs.isEmpty := by
  have e := r.length
  cases xs with
  | nil =>
    cases r
    rfl
  | cons a l =>
    cases r
    simp
theorem op_eqNilT (hu : X.A.units < cLine) : OpR X (compareOp .Eq) (rEqNilT X.K false) := by
  intro pins s σ H x y v u Q I rx ry h
  obtain ⟨a, b, xs, rfl, rfl, ha, hb, q⟩ := h
  cases rx
  cases ry
  obtain ⟨its, r1, p1, _⟩ := I.tuple ha
  obtain ⟨its2, r2, p2, _⟩ := I.tuple hb
  cases r2
  refine SeqAt.eq_tupleAt (e := fun _ => true) p1 p2 hu (fun j _ h2 => absurd h2 (by simp)) ?_
  rw [tup_empty r1]
  refine ⟨.bl xs.isEmpty, H, I, rfl, ?_⟩
  cases xs <;> exact q
theorem op_neNilT (hu : X.A.units < cLine) : OpR X (compareOp .NotEq) (rEqNilT X.K true) := by
  intro pins s σ H x y v u Q I rx ry h
  obtain ⟨a, b, xs, rfl, rfl, ha, hb, q⟩ := h
  cases rx
  cases ry
  obtain ⟨its, r1, p1, _⟩ := I.tuple ha
  obtain ⟨its2, r2, p2, _⟩ := I.tuple hb
  cases r2
  refine SeqAt.RcNeAt.tuples (e := fun _ => true) p1 p2 hu (fun j _ h2 => absurd h2 (by simp)) _ _ _ _ ?_
  rw [tup_empty r1]
  refine ⟨.bl (!xs.isEmpty), H, I, rfl, ?_⟩
  cases xs <;> exact q
end
end Lc
set_option Elab.async false
set_option linter.all false
set_option maxRecDepth 100000
set_option maxHeartbeats 4000000
namespace K15
open PySem PySem.Spec PyProof.Rows L2 Lc
def topS (i : Nat) : Stmt := PySem.Challenge.pw_linecourt_k15_forms_written.main.body.getD i (.Pass ⟨0, 0, 0, 0⟩)
/-! ### forms as data -/
structure Sm where
  ps : List (Str × Nat)
  n : Nat
inductive Fm where
  | fls
  | is (t k : Str)
  | same (t u : Str)
  | does (d t u : Str)
  | least (a b : Sm)
  | neg (f : Fm)
  | con (f g : Fm)
  | dis (f g : Fm)
  | imp (f g : Fm)
  | ev (x : Str) (f : Fm)
  | so (x : Str) (f : Fm)
/-- a row of parts of a sum, as it stands -/
inductive PsAt (H : Hp) : List V → List (Str × Nat) → Prop where
  | nil : PsAt H [] []
  | cons {p : Addr} {k : Str} {m : Nat} {vs : List V} {r : List (Str × Nat)} (h : H p = some (.tup [.str k, .int m])) (t : PsAt H vs r) : PsAt H (.ref p :: vs) ((k, m) :: r)
def SmAt (H : Hp) (v : V) (s : Sm) : Prop := ∃ p q vs, v = .ref p ∧ H p = some (.tup [.ref q, .int s.n]) ∧ H q = some (.tup vs) ∧ PsAt H vs s.ps
inductive FmAt (H : Hp) : V → Fm → Prop where
  | fls {p : Addr} (h : H p = some (.tup [.str "false"])) : FmAt H (.ref p) .fls
  | is {p : Addr} {t k : Str} (h : H p = some (.tup [.str "is", .str t, .str k])) : FmAt H (.ref p) (.is t k)
  | same {p : Addr} {t u : Str} (h : H p = some (.tup [.str "same", .str t, .str u])) : FmAt H (.ref p) (.same t u)
  | does {p : Addr} {d t u : Str} (h : H p = some (.tup [.str "does", .str d, .str t, .str u])) : FmAt H (.ref p) (.does d t u)
  | least {p : Addr} {x y : V} {a b : Sm} (h : H p = some (.tup [.str "least", x, y])) (ha : SmAt H x a) (hb : SmAt H y b) : FmAt H (.ref p) (.least a b)
  | neg {p : Addr} {x : V} {f : Fm} (h : H p = some (.tup [.str "not", x])) (hf : FmAt H x f) : FmAt H (.ref p) (.neg f)
  | con {p : Addr} {x y : V} {f g : Fm} (h : H p = some (.tup [.str "and", x, y])) (hf : FmAt H x f) (hg : FmAt H y g) : FmAt H (.ref p) (.con f g)
  | dis {p : Addr} {x y : V} {f g : Fm} (h : H p = some (.tup [.str "or", x, y])) (hf : FmAt H x f) (hg : FmAt H y g) : FmAt H (.ref p) (.dis f g)
  | imp {p : Addr} {x y : V} {f g : Fm} (h : H p = some (.tup [.str "if", x, y])) (hf : FmAt H x f) (hg : FmAt H y g) : FmAt H (.ref p) (.imp f g)
  | ev {p : Addr} {x : Str} {y : V} {f : Fm} (h : H p = some (.tup [.str "every", .str x, y])) (hf : FmAt H y f) : FmAt H (.ref p) (.ev x f)
  | so {p : Addr} {x : Str} {y : V} {f : Fm} (h : H p = some (.tup [.str "some", .str x, y])) (hf : FmAt H y f) : FmAt H (.ref p) (.so x f)
/-- tuples stay -/
def TLe (H H' : Hp) : Prop := ∀ p xs, H p = some (.tup xs) → H' p = some (.tup xs)
theorem TLe.refl (H : Hp) : TLe H H := fun _ _ h => h
theorem TLe.trans {H H1 H2 : Hp} (a : TLe H H1) (b : TLe H1 H2) : TLe H H2 := fun p xs h => b p xs (a p xs h)
theorem TLe.of {H H' : Hp} (s : Same H H') : TLe H H' := fun p xs h => s p _ h
theorem PsAt.mono {H H' : Hp} (l : TLe H H') : ∀ {vs : List V} {r : List (Str × Nat)}, PsAt H vs r → PsAt H' vs r
  | _, _, .nil => .nil
  | _, _, .cons h t => .cons (l _ _ h) (PsAt.mono l t)
theorem SmAt.mono {H H' : Hp} (l : TLe H H') {v : V} {s : Sm} (h : SmAt H v s) : SmAt H' v s := by
  obtain ⟨p, q, vs, e, h1, h2, h3⟩ := h
  exact ⟨p, q, vs, e, l _ _ h1, l _ _ h2, h3.mono l⟩
theorem FmAt.mono {H H' : Hp} (l : TLe H H') {v : V} {f : Fm} (h : FmAt H v f) : FmAt H' v f := by
  induction h with
  | fls h => exact .fls (l _ _ h)
  | is h => exact .is (l _ _ h)
  | same h => exact .same (l _ _ h)
  | does h => exact .does (l _ _ h)
  | least h a b => exact .least (l _ _ h) (a.mono l) (b.mono l)
  | neg h _ ih => exact .neg (l _ _ h) ih
  | con h _ _ i j => exact .con (l _ _ h) i j
  | dis h _ _ i j => exact .dis (l _ _ h) i j
  | imp h _ _ i j => exact .imp (l _ _ h) i j
  | ev h _ i => exact .ev (l _ _ h) i
  | so h _ i => exact .so (l _ _ h) i
/-! ### their texts -/
def numS (n : Nat) : Str := Str.ofString (toString (n : Int))
def shareS (p : Str × Nat) : Str := if 1 < p.2 then numS p.2 ++ " " ++ p.1 else p.1
def sumParts (s : Sm) : List Str := s.ps.map shareS ++ (if s.n ≠ 0 ∨ s.ps = [] then [numS s.n] else [])
def sumS (s : Sm) : Str := Txt.join " + " (sumParts s)
def fmS : Fm → Str
  | .fls => "absurd"
  | .is t k => t ++ " is a " ++ k
  | .same t u => t ++ " is " ++ u
  | .does d t u => t ++ " " ++ d ++ " " ++ u
  | .least a b => sumS a ++ " >= " ++ sumS b
  | .neg f => "not ( " ++ fmS f ++ " )"
  | .con f g => "( " ++ fmS f ++ " ) " ++ "and" ++ " ( " ++ fmS g ++ " )"
  | .dis f g => "( " ++ fmS f ++ " ) " ++ "or" ++ " ( " ++ fmS g ++ " )"
  | .imp f g => "if ( " ++ fmS f ++ " ) then ( " ++ fmS g ++ " )"
  | .ev x f => "every" ++ " " ++ x ++ " ( " ++ fmS f ++ " )"
  | .so x f => "some" ++ " " ++ x ++ " ( " ++ fmS f ++ " )"
/-! ### bounds -/
abbrev big : Nat := 1000000000000
def PsOk (r : List (Str × Nat)) : Prop := r.length ≤ 6 ∧ ∀ p ∈ r, p.1.length ≤ 8 ∧ p.2 < big
def SmOk (s : Sm) : Prop := PsOk s.ps ∧ s.n < big
def FOk : Nat → Fm → Prop
  | _, .fls => True
  | _, .is t k => t.length ≤ 8 ∧ k.length ≤ 8
  | _, .same t u => t.length ≤ 8 ∧ u.length ≤ 8
  | _, .does d t u => d.length ≤ 8 ∧ t.length ≤ 8 ∧ u.length ≤ 8
  | _, .least a b => SmOk a ∧ SmOk b
  | 0, _ => False
  | n + 1, .neg f => FOk n f
  | n + 1, .con f g => FOk n f ∧ FOk n g
  | n + 1, .dis f g => FOk n f ∧ FOk n g
  | n + 1, .imp f g => FOk n f ∧ FOk n g
  | n + 1, .ev x f => x.length ≤ 8 ∧ FOk n f
  | n + 1, .so x f => x.length ≤ 8 ∧ FOk n f
theorem numS_len {n : Nat} (h : n < big) : (numS n).length ≤ 12 := by
  have h1 : n < 1000000000000 := h
  have h2 : (10 : Int) ^ 12 = 1000000000000 := by decide
  exact toString_length_le (by omega) (by decide) (by omega)
theorem num_log {n : Nat} (h : n < big) : (n : Int).natAbs.log2 < 1920 := by
  have h1 : (n : Int).natAbs < 2 ^ 40 := by
    have : (2 : Nat) ^ 40 = 1099511627776 := by decide
    have h1 : n < 1000000000000 := h
    omega
  exact Nat.lt_of_lt_of_le (PySem.Flt.log2_lt_of (by decide) h1) (by decide)
theorem share_len {p : Str × Nat} (h1 : p.1.length ≤ 8) (h2 : p.2 < big) : (shareS p).length ≤ 21 := by
  unfold shareS
  split
  · rw [Str.length_append, Str.length_append]
    have := numS_len h2
    show _ + 1 + _ ≤ 21
    omega
  · omega
theorem join_len (y : Str) (b : Nat) : ∀ ys : List Str, (∀ x ∈ ys, x.length ≤ b) → (Str.join y ys).length ≤ ys.length * (b + y.length)
  | [], _ => by simp [Str.join, Str.empty, Str.length]
  | [x], h => by
    have := h x (by simp)
    show x.length ≤ 1 * (b + y.length)
    omega
  | x :: z :: r, h => by
    have ih := join_len y b (z :: r) fun w hw => h w (List.mem_cons_of_mem _ hw)
    have hx := h x (by simp)
    show (x ++ y ++ Str.join y (z :: r)).length ≤ _
    rw [Str.length_append, Str.length_append, List.length_cons, Nat.succ_mul]
    omega
theorem parts_ok {s : Sm} (h : SmOk s) : (sumParts s).length ≤ 7 ∧ ∀ x ∈ sumParts s, x.length ≤ 21 := by
  obtain ⟨⟨h1, h2⟩, h3⟩ := h
  unfold sumParts
  refine ⟨?_, fun x hx => ?_⟩
  · rw [List.length_append, List.length_map]
    split
    · simp
      omega
    · simp
      omega
  · rcases List.mem_append.mp hx with hx | hx
    · obtain ⟨p, hp, rfl⟩ := List.mem_map.mp hx
      exact share_len (h2 p hp).1 (h2 p hp).2
    · split at hx
      · have e : x = numS s.n := by simpa using hx
        rw [e]
        have := numS_len h3
        omega
      · simp at hx
theorem sum_len {s : Sm} (h : SmOk s) : (sumS s).length ≤ 168 := by
  obtain ⟨h1, h2⟩ := parts_ok h
  unfold sumS
  rw [TL.join_eq]
  refine Nat.le_trans (join_len _ 21 _ h2) ?_
  show (sumParts s).length * (21 + 3) ≤ 168
  omega
def bnd (n : Nat) : Nat := 600 * 2 ^ n - 60
theorem bnd_pos (n : Nat) : 540 ≤ bnd n := by
  unfold bnd
  have : 1 ≤ 2 ^ n := Nat.one_le_two_pow
  omega
theorem bnd_succ (n : Nat) : bnd (n + 1) = 2 * bnd n + 60 := by
  unfold bnd
  have : 1 ≤ 2 ^ n := Nat.one_le_two_pow
  rw [Nat.pow_succ]
  omega
theorem fm_len : ∀ (n : Nat) (f : Fm), FOk n f → (fmS f).length ≤ bnd n := by
  intro n
  induction n with
  | zero =>
    intro f h
    have hb := bnd_pos 0
    cases f with
    | fls =>
      show 6 ≤ _
      omega
    | is t k =>
      obtain ⟨a, b⟩ := h
      simp only [fmS, Str.length_append]
      show _ + 6 + _ ≤ _
      omega
    | same t k =>
      obtain ⟨a, b⟩ := h
      simp only [fmS, Str.length_append]
      show _ + 4 + _ ≤ _
      omega
    | does d t u =>
      obtain ⟨a, b, c⟩ := h
      simp only [fmS, Str.length_append]
      show _ + 1 + _ + 1 + _ ≤ _
      omega
    | least a b =>
      obtain ⟨ha, hb⟩ := h
      have := sum_len ha
      have := sum_len hb
      simp only [fmS, Str.length_append]
      show _ + 4 + _ ≤ _
      omega
    | _ => exact h.elim
  | succ n ih =>
    intro f h
    have hb := bnd_pos n
    have hs := bnd_succ n
    cases f with
    | fls =>
      show 6 ≤ _
      omega
    | is t k =>
      obtain ⟨a, b⟩ := h
      simp only [fmS, Str.length_append]
      show _ + 6 + _ ≤ _
      omega
    | same t k =>
      obtain ⟨a, b⟩ := h
      simp only [fmS, Str.length_append]
      show _ + 4 + _ ≤ _
      omega
    | does d t u =>
      obtain ⟨a, b, c⟩ := h
      simp only [fmS, Str.length_append]
      show _ + 1 + _ + 1 + _ ≤ _
      omega
    | least a b =>
      obtain ⟨ha, hb⟩ := h
      have := sum_len ha
      have := sum_len hb
      simp only [fmS, Str.length_append]
      show _ + 4 + _ ≤ _
      omega
    | neg f =>
      have := ih f h
      simp only [fmS, Str.length_append]
      show 6 + _ + 2 ≤ _
      omega
    | con f g =>
      have := ih f h.1
      have := ih g h.2
      simp only [fmS, Str.length_append]
      show 2 + _ + 3 + 3 + 3 + _ + 2 ≤ _
      omega
    | dis f g =>
      have := ih f h.1
      have := ih g h.2
      simp only [fmS, Str.length_append]
      show 2 + _ + 3 + 2 + 3 + _ + 2 ≤ _
      omega
    | imp f g =>
      have := ih f h.1
      have := ih g h.2
      simp only [fmS, Str.length_append]
      show 5 + _ + 10 + _ + 2 ≤ _
      omega
    | ev x f =>
      have := ih f h.2
      have := h.1
      simp only [fmS, Str.length_append]
      show 5 + 1 + _ + 3 + _ + 2 ≤ _
      omega
    | so x f =>
      have := ih f h.2
      have := h.1
      simp only [fmS, Str.length_append]
      show 4 + 1 + _ + 3 + _ + 2 ≤ _
      omega
theorem bnd4 {n : Nat} (h : n ≤ 6) : bnd n ≤ 40000 := by
  unfold bnd
  have : 2 ^ n ≤ 2 ^ 6 := Nat.pow_le_pow_right (by decide) h
  omega
theorem if_no {c : Bool} {A B : Prop} (h : c = false) (hb : B) : if c = true then A else B := by
  rw [h]
  exact iteF hb
theorem if_yes {c : Bool} {A B : Prop} (h : c = true) (ha : A) : if c = true then A else B := by
  rw [h]
  exact iteT ha
end K15
set_option Elab.async false
set_option linter.all false
set_option maxRecDepth 100000
set_option maxHeartbeats 4000000
namespace K15
open PySem PySem.Spec PyProof.Rows L2 Lc
theorem PsAt.get {H : Hp} : ∀ {vs : List V} {r : List (Str × Nat)} {i : Nat} {x : V}, PsAt H vs r → vs[i]? = some x → ∃ p k m, x = .ref p ∧ H p = some (.tup [.str k, .int (m : Nat)]) ∧ r[i]? = some (k, m)
  | _, _, _, _, .nil, h => by simp at h
  | _, _, 0, _, .cons (p := p) (k := k) (m := m) h _, e => by
    have e : V.ref p = _ := Option.some.inj e
    exact ⟨p, k, m, e.symm, h, rfl⟩
  | _, _, i + 1, _, .cons _ t, e => PsAt.get (i := i) t e
theorem PsAt.len {H : Hp} : ∀ {vs : List V} {r : List (Str × Nat)}, PsAt H vs r → vs.length = r.length
  | _, _, .nil => rfl
  | _, _, .cons _ t => by
    rw [List.length_cons, List.length_cons, t.len]
theorem sum_le_of : ∀ (l : List Nat) (b : Nat), (∀ x ∈ l, x ≤ b) → l.sum ≤ l.length * b
  | [], _, _ => by simp
  | x :: r, b, h => by
    have := sum_le_of r b fun y hy => h y (List.mem_cons_of_mem _ hy)
    have := h x (by simp)
    rw [List.sum_cons, List.length_cons, Nat.succ_mul]
    omega
theorem join_ok {y : Str} {ys : List Str} {b : Nat} (h : ∀ x ∈ ys, x.length ≤ b) (hl : ys.length * b + ys.length * y.length ≤ 16777216) : (ys.map (·.length)).sum + ys.length * y.length ≤ 16777216 := by
  have := sum_le_of (ys.map (·.length)) b fun x hx => by
    obtain ⟨z, hz, rfl⟩ := List.mem_map.mp hx
    exact h z hz
  rw [List.length_map] at this
  omega
section
variable {P : Program} {w : World} {K : PySem.W.Frag} {mg : Str → Option Value} {base : Heap} {f : Addr} {fd : FuncData}
abbrev s_show_share : Stmt := topS 1
abbrev N_show_share : List Str := ["kind", "times"]
theorem sc_show_share : FnScope N_show_share ["kind", "times"] (defScope s_show_share) := ⟨rfl, rfl, rfl, by decide +kernel, rfl, by decide +kernel, by decide +kernel⟩
def spShare : Sp := fun vs H Q _ => ∃ (k : Str) (m : Nat), vs = [.str k, .int m] ∧ k.length ≤ 8 ∧ m < big ∧ Q (.str (shareS (k, m))) H
theorem ok_show_share {k : Nat} (F : Fun K "show_share" "show_share" s_show_share f fd) : FnOk P w K mg base CX0 (k + 1) f fd ["kind", "times"] spShare := by
  refine F.ok sc_show_share (fun vs H Q E h => ?_) (fun cdv A outer s H vs Q E hr h => ?_)
  · obtain ⟨k, m, rfl, _⟩ := h
    rfl
  · obtain ⟨k, m, rfl, hk, hm, q⟩ := h
    refine ⟨_, (pss_one (ps_ret (pe_ifExp (pt_cmpR op_gt (pv 1) pe_int (nomark _)) (pe_joined (.cons (pe_fmt (pv 1)) (.cons pe_str (.cons (pe_fmt (pv 0)) .nil)))) (pv 0)))), ?_⟩
    have hn := numS_len hm
    refine ⟨_, rfl, _, _, rfl, rfl, _, rfl, ite2 (fun e => ?_) (fun e => ?_)⟩
    · have h1 : (1 : Int) < m := of_decide_eq_true e
      have e2 : shareS (k, m) = Str.empty ++ numS m ++ " " ++ k := by
        unfold shareS
        rw [if_pos (show 1 < m by omega), Str.empty_append]
      rw [e2] at q
      refine ⟨.int m, rfl, .inr ⟨m, rfl, num_log hm, _, rfl, ?_, _, rfl, ?_, .str k, rfl, .inl ⟨k, rfl, sz (by omega), _, rfl, ?_, q⟩⟩⟩
      · rw [Str.length_append]
        show 0 + (numS m).length ≤ _
        exact sz (by omega)
      · rw [Str.length_append, Str.length_append]
        show 0 + (numS m).length + 1 ≤ _
        exact sz (by omega)
      · rw [Str.length_append, Str.length_append, Str.length_append]
        show 0 + (numS m).length + 1 + _ ≤ _
        exact sz (by omega)
    · have h1 : ¬ (1 : Int) < m := fun z => e (decide_eq_true z)
      have e2 : shareS (k, m) = k := by
        unfold shareS
        rw [if_neg (show ¬ 1 < m by omega)]
      rw [e2] at q
      exact ⟨_, rfl, q⟩
abbrev s_show_sum : Stmt := topS 2
abbrev N_show_sum : List Str := ["total", "parts", "number", "told", "kind", "times"]
theorem sc_show_sum : FnScope N_show_sum ["total"] (defScope s_show_sum) := ⟨rfl, rfl, rfl, by decide +kernel, rfl, by decide +kernel, by decide +kernel⟩
def spSum : Sp := fun vs H Q _ => ∃ (v : V) (s : Sm), vs = [v] ∧ SmAt H v s ∧ SmOk s ∧ ∀ H', Same H H' → Q (.str (sumS s)) H'
theorem ok_show_sum {k : Nat} (F : Fun K "show_sum" "show_sum" s_show_sum f fd) (m_str : mg "str" = none) (C_show_share : Dn P w K mg base "show_share" ["kind", "times"] 1 spShare) : FnOk P w K mg base CX0 (k + 2) f fd ["total"] spSum := by
  refine F.ok sc_show_sum (fun vs H Q E h => ?_) (fun cdv A outer s H vs Q E hr h => ?_)
  · obtain ⟨v, s, rfl, _⟩ := h
    rfl
  · obtain ⟨v, sm, rfl, ⟨p, qa, ws, rfl, hp, hq, hps⟩, hok, q⟩ := h
    refine ⟨_, (pss_cons (ps_asg (pv 0) (pg_tup rfl (pgs_cons (pg_name (i := 1) sc_show_sum.nd rfl (.inl rfl)) (pgs_cons (pg_name (i := 2) sc_show_sum.nd rfl (.inl rfl)) pgs_nil))))
      (pss_cons (ps_setLc (i := 3) (own := [("kind", 4), ("times", 5)])  (tt := tYes) rfl sc_show_sum.nd rfl rfl (sw_true rfl rfl rfl (by decide +kernel)) (pi_tup (pv 1)) (blkOk_by (N := N_show_sum) (sc := defScope s_show_sum) (by decide +kernel)) (fun _ _ _ _ _ => (pg_tupK K (n := 2) rfl (pgs_cons (pg_name (i := 4) sc_show_sum.nd rfl (.inl rfl)) (pgs_cons (pg_name (i := 5) sc_show_sum.nd rfl (.inl rfl)) pgs_nil)))) (fun _ _ _ _ _ => pts_nil) (fun _ _ _ _ _ => (Lc.pe_dn C_show_share (hr.mono (by omega)) (by rfl) (pa_cons (pv 4) (pa_cons (pv 5) pa_nil)))))
      (pss_cons (ps_if (PW.pt (pw_or (pt_cmpR op_gt (pv 2) pe_int (nomark _)) (pw_or1 (pt_not (pt_truth (pv 3) (by intro _; rfl))))))
      (pss_one (ps_expr (pe_bm PySem.F.plainAttrs_list PySem.F.slot_list_append PySem.F.type_list_append mt_append (pv 3) (pa_cons (pe_callTy call_str_int (by rfl) m_str (by decide +kernel) (pa_cons (pv 2) pa_nil)) pa_nil))))
      pss_nil)
      (pss_one (ps_ret (pe_join pe_str (pv 3))))))), ?_⟩
    obtain ⟨⟨hl6, hpo⟩, hn⟩ := id hok
    refine ⟨.ref p, rfl, p, _, rfl, SqT.of hp, rfl, _, _, rfl, _, _, rfl, rfl, .ref qa, rfl, qa, rfl, ⟨_, SqT.of hq⟩, fun D nD => ?_⟩
    have nDq : D ≠ qa := fun e => by rw [e, hq] at nD; cases nD
    have sD : ∀ o, Same H (upd H D o) := fun o => same_new nD
    refine lc_tup (K := K) (a := qa) (xs := ws) (fun i H' => H' = upd H D (.lst (((sm.ps.take i).map shareS).map V.str))) rfl (fun i H' hi e => ?_) (fun i x H' hx e => ?_) (fun H' e => ?_)
    · subst e
      exact SqT.of (sD _ _ _ hq)
    · subst e
      obtain ⟨pp, kk, mm, rfl, hpp, hr2⟩ := hps.get hx
      obtain ⟨hk8, hmb⟩ := hpo _ (List.mem_of_getElem? hr2)
      refine ⟨pp, _, rfl, SqT.of (sD _ _ _ hpp), rfl, _, _, rfl, _, _, rfl, rfl, rfl, yes_if ?_⟩
      refine ⟨.str kk, rfl, .int mm, rfl, kk, mm, rfl, hk8, hmb, _, upd_same, ?_, ?_⟩
      · rw [List.length_map, List.length_map, List.length_take]
        exact szl (by omega)
      · rw [upd_upd, List.take_add_one, hr2, List.map_append, List.map_append]
        rfl
    · subst e
      rw [hps.len, List.take_length]
      -- behind the if
      have fin : ∀ H2 : Hp, Same H H2 → H2 D = some (.lst ((sumParts sm).map V.str)) → tRet (tM1 (fun x xs H Q => ∃ a p, ∃ ys : List Str, x = .str a ∧ xs = [.ref p] ∧ (SqL K H p (ys.map V.str) ∨ SqT K H p (ys.map V.str)) ∧
          (ys.map (·.length)).sum + ys.length * a.length ≤ 16777216 ∧ Q (.str (Txt.join a ys)) H) (tC (.str " + ")) (tVar 3)) { nx := fun _ H' => Q .non H', rt := Q } [some (.ref p), some (.ref qa), some (.int sm.n), some (.ref D), none, none] H2 := by
        intro H2 s2 hD
        obtain ⟨h7, h21⟩ := parts_ok hok
        refine ⟨⟨_, rfl⟩, .ref D, rfl, _, D, sumParts sm, rfl, rfl, .inl (SqL.of hD), join_ok (b := 21) h21 ?_, q H2 s2⟩
        show (sumParts sm).length * 21 + (sumParts sm).length * 3 ≤ 16777216
        omega
      have addN : (sm.n ≠ 0 ∨ sm.ps = []) → tDrop (tBM K "list" rAppend (tVar 3) (tCons (tCB (fun xs H Q => ∃ i, xs = [.int i] ∧ i.natAbs.log2 < 1920 ∧ Q (.str (toString i)) H) (tCons (tVar 2) tNil)) tNil))
          { nx := fun σ H2 => tRet (tM1 (fun x xs H Q => ∃ a p, ∃ ys : List Str, x = .str a ∧ xs = [.ref p] ∧ (SqL K H p (ys.map V.str) ∨ SqT K H p (ys.map V.str)) ∧
          (ys.map (·.length)).sum + ys.length * a.length ≤ 16777216 ∧ Q (.str (Txt.join a ys)) H) (tC (.str " + ")) (tVar 3)) { nx := fun _ H' => Q .non H', rt := Q } σ H2, rt := Q } [some (.ref p), some (.ref qa), some (.int sm.n), some (.ref D), none, none] (upd H D (.lst ((sm.ps.map shareS).map V.str))) := by
        intro hc
        refine ⟨.ref D, rfl, .inl ⟨rfl, _, SqL.of upd_same⟩, .int sm.n, rfl, sm.n, rfl, num_log hn, D, _, _, rfl, rfl, upd_same, ?_, ?_⟩
        · rw [List.length_map, List.length_map]
          exact szl (by omega)
        · refine fin _ ?_ ?_
          · rw [upd_upd]
            exact sD _
          · rw [upd_same]
            unfold sumParts
            rw [if_pos hc, List.map_append]
            rfl
      refine ⟨.int sm.n, rfl, _, _, rfl, rfl, _, rfl, ite2 (fun e => ?_) (fun e => ?_)⟩
      · have h0 : (0 : Int) < sm.n := of_decide_eq_true e
        exact iteT (addN (.inl (by omega)))
      · have h0 : ¬ (0 : Int) < sm.n := fun z => e (decide_eq_true z)
        have h0 : sm.n = 0 := by omega
        refine ⟨.ref D, rfl, _, .inl ⟨_, SqL.of upd_same, rfl⟩, ?_⟩
        cases hc : sm.ps with
        | nil => exact if_yes rfl (by have := addN (.inr hc); rw [hc] at this; exact this)
        | cons z r =>
          refine if_no rfl ?_
          refine fin _ (sD _) ?_
          rw [upd_same]
          unfold sumParts
          rw [if_neg (by intro z; rcases z with z | z; exact z h0; rw [hc] at z; cases z), List.append_nil, hc]
abbrev s_show_simple : Stmt := topS 3
abbrev N_show_simple : List Str := ["form", "word"]
theorem sc_show_simple : FnScope N_show_simple ["form"] (defScope s_show_simple) := ⟨rfl, rfl, rfl, by decide +kernel, rfl, by decide +kernel, by decide +kernel⟩
/-- forms without forms in them -/
def Fm.plain : Fm → Bool
  | .fls => true
  | .is _ _ => true
  | .same _ _ => true
  | .does _ _ _ => true
  | .least _ _ => true
  | _ => false
def spSimple : Sp := fun vs H Q _ => ∃ (v : V) (f : Fm), vs = [v] ∧ FmAt H v f ∧ FOk 0 f ∧ ∀ H', Same H H' → Q (.str (fmS f)) H'
theorem lenlit {n : Nat} (h : n ≤ 100000) : n ≤ sizeLine := sz h
theorem ok_show_simple {k : Nat} (F : Fun K "show_simple" "show_simple" s_show_simple f fd) (C_show_sum : Dn P w K mg base "show_sum" ["total"] 2 spSum) : FnOk P w K mg base CX0 (k + 3) f fd ["form"] spSimple := by
  refine F.ok sc_show_simple (fun vs H Q E h => ?_) (fun cdv A outer s H vs Q E hr h => ?_)
  · obtain ⟨v, f, rfl, _⟩ := h
    rfl
  · obtain ⟨v, f, rfl, hf, hok, q⟩ := h
    refine ⟨_, (pss_cons (ps_set (i := 1) sc_show_simple.nd rfl (.inl rfl) (pe_ix ix_tup (pv 0) pe_int (fun _ _ => rfl)))
      (pss_cons (ps_if (pt_cmpR op_eq (pv 1) pe_str (nomark _))
      (pss_one (ps_ret pe_str))
      pss_nil)
      (pss_cons (ps_if (pt_cmpR op_eq (pv 1) pe_str (nomark _))
      (pss_one (ps_ret (pe_joined (.cons (pe_fmt (pe_ix ix_tup (pv 0) pe_int (fun _ _ => rfl))) (.cons pe_str (.cons (pe_fmt (pe_ix ix_tup (pv 0) pe_int (fun _ _ => rfl))) .nil))))))
      pss_nil)
      (pss_cons (ps_if (pt_cmpR op_eq (pv 1) pe_str (nomark _))
      (pss_one (ps_ret (pe_joined (.cons (pe_fmt (pe_ix ix_tup (pv 0) pe_int (fun _ _ => rfl))) (.cons pe_str (.cons (pe_fmt (pe_ix ix_tup (pv 0) pe_int (fun _ _ => rfl))) .nil))))))
      pss_nil)
      (pss_cons (ps_if (pt_cmpR op_eq (pv 1) pe_str (nomark _))
      (pss_one (ps_ret (pe_joined (.cons (pe_fmt (pe_ix ix_tup (pv 0) pe_int (fun _ _ => rfl))) (.cons pe_str (.cons (pe_fmt (pe_ix ix_tup (pv 0) pe_int (fun _ _ => rfl))) (.cons pe_str (.cons (pe_fmt (pe_ix ix_tup (pv 0) pe_int (fun _ _ => rfl))) .nil))))))))
      pss_nil)
      (pss_one (ps_ret (pe_joined (.cons (pe_fmt (Lc.pe_dn C_show_sum (hr.mono (by omega)) (by rfl) (pa_cons (pe_ix ix_tup (pv 0) pe_int (fun _ _ => rfl)) pa_nil))) (.cons pe_str (.cons (pe_fmt (Lc.pe_dn C_show_sum (hr.mono (by omega)) (by rfl) (pa_cons (pe_ix ix_tup (pv 0) pe_int (fun _ _ => rfl)) pa_nil))) .nil))))))))))), ?_⟩
    have q0 := q H (Same.refl H)
    have y : ∀ {a b : Str}, (a == b) = true → decide (V.str a = V.str b) = true := fun {a b} h => decide_eq_true (by rw [eq_of_beq h])
    have n : ∀ {a b : Str}, (a == b) = false → decide (V.str a = V.str b) = false := fun {a b} h => decide_eq_false (fun z => by
      have := V.str.inj z
      rw [this] at h
      simp at h)
    cases hf with
    | fls h =>
      refine ⟨_, rfl, _, _, 0, .str "false", rfl, rfl, SqT.of h, rfl, .str "false", rfl, rfl, _, rfl, if_yes (y (by decide +kernel)) ?_⟩
      exact q0
    | @is p t k h =>
      obtain ⟨h1, h2⟩ := hok
      refine ⟨.ref p, rfl, p, _, 0, .str "is", rfl, rfl, SqT.of h, rfl, .str "is", rfl, rfl, _, rfl, if_no (n (by decide +kernel)) ?_⟩
      refine ⟨.str "is", rfl, rfl, _, rfl, if_yes (y (by decide +kernel)) ?_⟩
      have e : fmS (.is t k) = Str.empty ++ t ++ " is a " ++ k := by rw [Str.empty_append]; rfl
      rw [e] at q0
      refine ⟨.ref p, rfl, p, _, 1, .str t, rfl, rfl, SqT.of h, rfl, .inl ⟨t, rfl, sz (by omega), _, rfl, ?_, _, rfl, ?_, .ref p, rfl, p, _, 2, .str k, rfl, rfl, SqT.of h, rfl, .inl ⟨k, rfl, sz (by omega), _, rfl, ?_, q0⟩⟩⟩
      · rw [Str.length_append]
        exact sz (by show 0 + _ ≤ _; omega)
      · rw [Str.length_append, Str.length_append]
        exact sz (by show 0 + _ + 6 ≤ _; omega)
      · rw [Str.length_append, Str.length_append, Str.length_append]
        exact sz (by show 0 + _ + 6 + _ ≤ _; omega)
    | @same p t k h =>
      obtain ⟨h1, h2⟩ := hok
      refine ⟨.ref p, rfl, p, _, 0, .str "same", rfl, rfl, SqT.of h, rfl, .str "same", rfl, rfl, _, rfl, if_no (n (by decide +kernel)) ?_⟩
      refine ⟨.str "same", rfl, rfl, _, rfl, if_no (n (by decide +kernel)) ?_⟩
      refine ⟨.str "same", rfl, rfl, _, rfl, if_yes (y (by decide +kernel)) ?_⟩
      have e : fmS (.same t k) = Str.empty ++ t ++ " is " ++ k := by rw [Str.empty_append]; rfl
      rw [e] at q0
      refine ⟨.ref p, rfl, p, _, 1, .str t, rfl, rfl, SqT.of h, rfl, .inl ⟨t, rfl, sz (by omega), _, rfl, ?_, _, rfl, ?_, .ref p, rfl, p, _, 2, .str k, rfl, rfl, SqT.of h, rfl, .inl ⟨k, rfl, sz (by omega), _, rfl, ?_, q0⟩⟩⟩
      · rw [Str.length_append]
        exact sz (by show 0 + _ ≤ _; omega)
      · rw [Str.length_append, Str.length_append]
        exact sz (by show 0 + _ + 4 ≤ _; omega)
      · rw [Str.length_append, Str.length_append, Str.length_append]
        exact sz (by show 0 + _ + 4 + _ ≤ _; omega)
    | @does p d t u h =>
      obtain ⟨h1, h2, h3⟩ := hok
      refine ⟨.ref p, rfl, p, _, 0, .str "does", rfl, rfl, SqT.of h, rfl, .str "does", rfl, rfl, _, rfl, if_no (n (by decide +kernel)) ?_⟩
      refine ⟨.str "does", rfl, rfl, _, rfl, if_no (n (by decide +kernel)) ?_⟩
      refine ⟨.str "does", rfl, rfl, _, rfl, if_no (n (by decide +kernel)) ?_⟩
      refine ⟨.str "does", rfl, rfl, _, rfl, if_yes (y (by decide +kernel)) ?_⟩
      have e : fmS (.does d t u) = Str.empty ++ t ++ " " ++ d ++ " " ++ u := by rw [Str.empty_append]; rfl
      rw [e] at q0
      refine ⟨.ref p, rfl, p, _, 2, .str t, rfl, rfl, SqT.of h, rfl, .inl ⟨t, rfl, sz (by omega), _, rfl, ?_, _, rfl, ?_, .ref p, rfl, p, _, 1, .str d, rfl, rfl, SqT.of h, rfl, .inl ⟨d, rfl, sz (by omega), _, rfl, ?_, _, rfl, ?_, .ref p, rfl, p, _, 3, .str u, rfl, rfl, SqT.of h, rfl, .inl ⟨u, rfl, sz (by omega), _, rfl, ?_, q0⟩⟩⟩⟩
      · rw [Str.length_append]
        exact sz (by show 0 + _ ≤ _; omega)
      · rw [Str.length_append, Str.length_append]
        exact sz (by show 0 + _ + 1 ≤ _; omega)
      · rw [Str.length_append, Str.length_append, Str.length_append]
        exact sz (by show 0 + _ + 1 + _ ≤ _; omega)
      · rw [Str.length_append, Str.length_append, Str.length_append, Str.length_append]
        exact sz (by show 0 + _ + 1 + _ + 1 ≤ _; omega)
      · rw [Str.length_append, Str.length_append, Str.length_append, Str.length_append, Str.length_append]
        exact sz (by show 0 + _ + 1 + _ + 1 + _ ≤ _; omega)
    | @least p x z a b h ha hb =>
      obtain ⟨h1, h2⟩ := hok
      have l1 := sum_len h1
      have l2 := sum_len h2
      refine ⟨.ref p, rfl, p, _, 0, .str "least", rfl, rfl, SqT.of h, rfl, .str "least", rfl, rfl, _, rfl, if_no (n (by decide +kernel)) ?_⟩
      refine ⟨.str "least", rfl, rfl, _, rfl, if_no (n (by decide +kernel)) ?_⟩
      refine ⟨.str "least", rfl, rfl, _, rfl, if_no (n (by decide +kernel)) ?_⟩
      refine ⟨.str "least", rfl, rfl, _, rfl, if_no (n (by decide +kernel)) ?_⟩
      refine ⟨.ref p, rfl, p, _, 1, x, rfl, rfl, SqT.of h, rfl, x, a, rfl, ha, h1, fun H1 s1 => ?_⟩
      refine .inl ⟨sumS a, rfl, sz (by omega), _, rfl, ?_, _, rfl, ?_, .ref p, rfl, p, _, 2, z, rfl, rfl, SqT.of (s1 _ _ h), rfl, z, b, rfl, hb.mono (.of s1), h2, fun H2 s2 => ?_⟩
      · rw [Str.length_append]
        exact sz (by show 0 + _ ≤ _; omega)
      · rw [Str.length_append, Str.length_append]
        exact sz (by show 0 + _ + 4 ≤ _; omega)
      · refine .inl ⟨sumS b, rfl, sz (by omega), _, rfl, ?_, ?_⟩
        · rw [Str.length_append, Str.length_append, Str.length_append]
          exact sz (by show 0 + _ + 4 + _ ≤ _; omega)
        · have q2 := q H2 (s1.trans s2)
          have e : fmS (.least a b) = Str.empty ++ sumS a ++ " >= " ++ sumS b := by rw [Str.empty_append]; rfl
          rw [e] at q2
          exact q2
    | neg _ _ => exact hok.elim
    | con _ _ _ => exact hok.elim
    | dis _ _ _ => exact hok.elim
    | imp _ _ _ => exact hok.elim
    | ev _ _ => exact hok.elim
    | so _ _ => exact hok.elim
end
end K15
set_option Elab.async false
set_option linter.all false
set_option maxRecDepth 100000
set_option maxHeartbeats 4000000
namespace K15
open PySem PySem.Spec PyProof.Rows L2 Lc
theorem FOk.leaf {m : Nat} {f : Fm} (h : FOk m f) (p : f.plain = true) : FOk 0 f := by
  cases m with
  | zero => exact h
  | succ m => cases f <;> first | exact h | cases p
theorem str_y {a b : Str} (h : (a == b) = true) : decide (V.str a = V.str b) = true := decide_eq_true (by rw [eq_of_beq h])
theorem str_n {a b : Str} (h : (a == b) = false) : decide (V.str a = V.str b) = false := decide_eq_false (fun z => by
  have := V.str.inj z
  rw [this] at h
  simp at h)
/-- a piece more -/
theorem more {a b : Str} {n m : Nat} (ha : a.length ≤ n) (hb : b.length ≤ m) : (a ++ b).length ≤ n + m := by
  rw [Str.length_append]
  omega
theorem fit {a : Str} {n : Nat} (ha : a.length ≤ n) (h : n ≤ 100000) : a.length ≤ sizeLine := sz (by omega)
section
variable {P : Program} {w : World} {K : PySem.W.Frag} {mg : Str → Option Value} {base : Heap} {f : Addr} {fd : FuncData}
abbrev s_show_form : Stmt := topS 4
abbrev N_show_form : List Str := ["form", "word"]
theorem sc_show_form : FnScope N_show_form ["form"] (defScope s_show_form) := ⟨rfl, rfl, rfl, by decide +kernel, rfl, by decide +kernel, by decide +kernel⟩
/-- forms nested below m -/
def spForm : Nat → Sp
  | 0 => fun _ _ _ _ => False
  | m + 1 => fun vs H Q _ => ∃ (v : V) (f : Fm), vs = [v] ∧ FmAt H v f ∧ FOk m f ∧ m ≤ 5 ∧ ∀ H', Same H H' → Q (.str (fmS f)) H'
theorem ok_show_form (F : Fun K "show_form" "show_form" s_show_form f fd) (g : mg "show_form" = some (.ref f)) (b : Binds K fd ["form"] []) (C_show_simple : Dn P w K mg base "show_simple" ["form"] 3 spSimple) :
    ∀ m, FnOk P w K mg base CX0 (m + 3) f fd ["form"] (spForm m) := by
  intro m
  induction m with
  | zero => exact ⟨fun _ _ _ _ h => h.elim, fun _ _ _ _ _ _ _ _ _ _ _ _ _ h => h.elim⟩
  | succ m ih =>
  have C_show_form : Dn P w K mg base "show_form" ["form"] (m + 3) (spForm m) := ⟨f, fd, F.kp, g, b, ih⟩
  refine F.ok sc_show_form (fun vs H Q E h => ?_) (fun cdv A outer s H vs Q E hr h => ?_)
  · obtain ⟨v, f, rfl, _⟩ := h
    rfl
  · obtain ⟨v, f, rfl, hf, hok, hm5, q⟩ := h
    refine ⟨_, (pss_cons (ps_set (i := 1) sc_show_form.nd rfl (.inl rfl) (pe_ix ix_tup (pv 0) pe_int (fun _ _ => rfl)))
      (pss_cons (ps_if (pt_cmpR op_eq (pv 1) pe_str (nomark _))
      (pss_one (ps_ret (pe_joined (.cons pe_str (.cons (pe_fmt (Lc.pe_dn C_show_form (hr.mono (by omega)) (by rfl) (pa_cons (pe_ix ix_tup (pv 0) pe_int (fun _ _ => rfl)) pa_nil))) (.cons pe_str .nil))))))
      pss_nil)
      (pss_cons (ps_if (pt_cmpR op_in_seq (pv 1) (pe_tup (pa_cons pe_str (pa_cons pe_str pa_nil))) (by rfl))
      (pss_one (ps_ret (pe_joined (.cons pe_str (.cons (pe_fmt (Lc.pe_dn C_show_form (hr.mono (by omega)) (by rfl) (pa_cons (pe_ix ix_tup (pv 0) pe_int (fun _ _ => rfl)) pa_nil))) (.cons pe_str (.cons (pe_fmt (pv 1)) (.cons pe_str (.cons (pe_fmt (Lc.pe_dn C_show_form (hr.mono (by omega)) (by rfl) (pa_cons (pe_ix ix_tup (pv 0) pe_int (fun _ _ => rfl)) pa_nil))) (.cons pe_str .nil))))))))))
      pss_nil)
      (pss_cons (ps_if (pt_cmpR op_eq (pv 1) pe_str (nomark _))
      (pss_one (ps_ret (pe_joined (.cons pe_str (.cons (pe_fmt (Lc.pe_dn C_show_form (hr.mono (by omega)) (by rfl) (pa_cons (pe_ix ix_tup (pv 0) pe_int (fun _ _ => rfl)) pa_nil))) (.cons pe_str (.cons (pe_fmt (Lc.pe_dn C_show_form (hr.mono (by omega)) (by rfl) (pa_cons (pe_ix ix_tup (pv 0) pe_int (fun _ _ => rfl)) pa_nil))) (.cons pe_str .nil))))))))
      pss_nil)
      (pss_cons (ps_if (pt_cmpR op_in_seq (pv 1) (pe_tup (pa_cons pe_str (pa_cons pe_str pa_nil))) (by rfl))
      (pss_one (ps_ret (pe_joined (.cons (pe_fmt (pv 1)) (.cons pe_str (.cons (pe_fmt (pe_ix ix_tup (pv 0) pe_int (fun _ _ => rfl))) (.cons pe_str (.cons (pe_fmt (Lc.pe_dn C_show_form (hr.mono (by omega)) (by rfl) (pa_cons (pe_ix ix_tup (pv 0) pe_int (fun _ _ => rfl)) pa_nil))) (.cons pe_str .nil)))))))))
      pss_nil)
      (pss_one (ps_ret (Lc.pe_dn C_show_simple (hr.mono (by omega)) (by rfl) (pa_cons (pv 0) pa_nil))))))))), ?_⟩
    have two (b' : Str) (b'' : Str) : ([V.str b', V.str b''] : List V) = [b', b''].map V.str := rfl
    have hfc := hf
    cases hf with
    | @fls p h =>
      refine ⟨.ref p, rfl, p, _, 0, _, rfl, rfl, SqT.of h, rfl, _, rfl, rfl, _, rfl, if_no (str_n (by decide +kernel)) ?_⟩
      refine ⟨_, rfl, sz (by show 2 ≤ 100000; decide), fun t1 nt1 => ⟨t1, _, rfl, .inr (SqT.of upd_same), rfl, rfl, _, rfl, if_no (by decide +kernel) ?_⟩⟩
      refine ⟨_, rfl, rfl, _, rfl, if_no (str_n (by decide +kernel)) ?_⟩
      refine ⟨_, rfl, sz (by show 2 ≤ 100000; decide), fun t2 nt2 => ⟨t2, _, rfl, .inr (SqT.of upd_same), rfl, rfl, _, rfl, if_no (by decide +kernel) ?_⟩⟩
      have s2 := (same_new (o := .tup [.str "and", .str "or"]) nt1).trans (same_new (o := .tup [.str "every", .str "some"]) nt2)
      exact ⟨.ref p, rfl, .ref p, _, rfl, FmAt.mono (.of s2) hfc, hok.leaf rfl, fun H' s' => q H' (s2.trans s')⟩
    | @is p t k h =>
      refine ⟨.ref p, rfl, p, _, 0, _, rfl, rfl, SqT.of h, rfl, _, rfl, rfl, _, rfl, if_no (str_n (by decide +kernel)) ?_⟩
      refine ⟨_, rfl, sz (by show 2 ≤ 100000; decide), fun t1 nt1 => ⟨t1, _, rfl, .inr (SqT.of upd_same), rfl, rfl, _, rfl, if_no (by decide +kernel) ?_⟩⟩
      refine ⟨_, rfl, rfl, _, rfl, if_no (str_n (by decide +kernel)) ?_⟩
      refine ⟨_, rfl, sz (by show 2 ≤ 100000; decide), fun t2 nt2 => ⟨t2, _, rfl, .inr (SqT.of upd_same), rfl, rfl, _, rfl, if_no (by decide +kernel) ?_⟩⟩
      have s2 := (same_new (o := .tup [.str "and", .str "or"]) nt1).trans (same_new (o := .tup [.str "every", .str "some"]) nt2)
      exact ⟨.ref p, rfl, .ref p, _, rfl, FmAt.mono (.of s2) hfc, hok.leaf rfl, fun H' s' => q H' (s2.trans s')⟩
    | @same p t k h =>
      refine ⟨.ref p, rfl, p, _, 0, _, rfl, rfl, SqT.of h, rfl, _, rfl, rfl, _, rfl, if_no (str_n (by decide +kernel)) ?_⟩
      refine ⟨_, rfl, sz (by show 2 ≤ 100000; decide), fun t1 nt1 => ⟨t1, _, rfl, .inr (SqT.of upd_same), rfl, rfl, _, rfl, if_no (by decide +kernel) ?_⟩⟩
      refine ⟨_, rfl, rfl, _, rfl, if_no (str_n (by decide +kernel)) ?_⟩
      refine ⟨_, rfl, sz (by show 2 ≤ 100000; decide), fun t2 nt2 => ⟨t2, _, rfl, .inr (SqT.of upd_same), rfl, rfl, _, rfl, if_no (by decide +kernel) ?_⟩⟩
      have s2 := (same_new (o := .tup [.str "and", .str "or"]) nt1).trans (same_new (o := .tup [.str "every", .str "some"]) nt2)
      exact ⟨.ref p, rfl, .ref p, _, rfl, FmAt.mono (.of s2) hfc, hok.leaf rfl, fun H' s' => q H' (s2.trans s')⟩
    | @does p d t u h =>
      refine ⟨.ref p, rfl, p, _, 0, _, rfl, rfl, SqT.of h, rfl, _, rfl, rfl, _, rfl, if_no (str_n (by decide +kernel)) ?_⟩
      refine ⟨_, rfl, sz (by show 2 ≤ 100000; decide), fun t1 nt1 => ⟨t1, _, rfl, .inr (SqT.of upd_same), rfl, rfl, _, rfl, if_no (by decide +kernel) ?_⟩⟩
      refine ⟨_, rfl, rfl, _, rfl, if_no (str_n (by decide +kernel)) ?_⟩
      refine ⟨_, rfl, sz (by show 2 ≤ 100000; decide), fun t2 nt2 => ⟨t2, _, rfl, .inr (SqT.of upd_same), rfl, rfl, _, rfl, if_no (by decide +kernel) ?_⟩⟩
      have s2 := (same_new (o := .tup [.str "and", .str "or"]) nt1).trans (same_new (o := .tup [.str "every", .str "some"]) nt2)
      exact ⟨.ref p, rfl, .ref p, _, rfl, FmAt.mono (.of s2) hfc, hok.leaf rfl, fun H' s' => q H' (s2.trans s')⟩
    | @least p x z a b' h ha hb =>
      refine ⟨.ref p, rfl, p, _, 0, _, rfl, rfl, SqT.of h, rfl, _, rfl, rfl, _, rfl, if_no (str_n (by decide +kernel)) ?_⟩
      refine ⟨_, rfl, sz (by show 2 ≤ 100000; decide), fun t1 nt1 => ⟨t1, _, rfl, .inr (SqT.of upd_same), rfl, rfl, _, rfl, if_no (by decide +kernel) ?_⟩⟩
      refine ⟨_, rfl, rfl, _, rfl, if_no (str_n (by decide +kernel)) ?_⟩
      refine ⟨_, rfl, sz (by show 2 ≤ 100000; decide), fun t2 nt2 => ⟨t2, _, rfl, .inr (SqT.of upd_same), rfl, rfl, _, rfl, if_no (by decide +kernel) ?_⟩⟩
      have s2 := (same_new (o := .tup [.str "and", .str "or"]) nt1).trans (same_new (o := .tup [.str "every", .str "some"]) nt2)
      exact ⟨.ref p, rfl, .ref p, _, rfl, FmAt.mono (.of s2) hfc, hok.leaf rfl, fun H' s' => q H' (s2.trans s')⟩
    | @neg p x g h hg =>
      cases m with
      | zero => exact hok.elim
      | succ m =>
      have lg := fm_len m g hok
      have b5 := bnd4 (n := m) (by omega)
      refine ⟨.ref p, rfl, p, _, 0, .str "not", rfl, rfl, SqT.of h, rfl, .str "not", rfl, rfl, _, rfl, if_yes (str_y (by decide +kernel)) ?_⟩
      refine ⟨_, rfl, fit (more (n := 0) (m := 6) (Nat.le_refl _) (by decide +kernel)) (by decide), .ref p, rfl, p, _, 1, x, rfl, rfl, SqT.of h, rfl, x, g, rfl, hg, hok, by omega, fun H1 s1 => ?_⟩
      refine .inl ⟨fmS g, rfl, sz (by omega), _, rfl, fit (more (more (n := 0) (m := 6) (Nat.le_refl _) (by decide +kernel)) lg) (by omega), _, rfl, fit (more (more (more (n := 0) (m := 6) (Nat.le_refl _) (by decide +kernel)) lg) (m := 2) (by decide +kernel)) (by omega), ?_⟩
      have q1 := q H1 s1
      rw [show fmS (.neg g) = Str.empty ++ "not ( " ++ fmS g ++ " )" by rw [Str.empty_append]; rfl] at q1
      exact q1
    | @con p x z g g2 h hg hg2 =>
      cases m with
      | zero => exact hok.elim
      | succ m =>
      have lg := fm_len m g hok.1
      have lg2 := fm_len m g2 hok.2
      have b5 := bnd4 (n := m) (by omega)
      refine ⟨.ref p, rfl, p, _, 0, .str "and", rfl, rfl, SqT.of h, rfl, .str "and", rfl, rfl, _, rfl, if_no (str_n (by decide +kernel)) ?_⟩
      refine ⟨.str "and", rfl, sz (by show 2 ≤ 100000; decide), fun t1 nt1 => ⟨t1, _, rfl, .inr (SqT.of upd_same), rfl, rfl, _, rfl, if_yes (by decide +kernel) ?_⟩⟩
      have s0 := same_new (o := .tup [.str "and", .str "or"]) nt1
      have l1 := more (a := Str.empty) (b := "( ") (n := 0) (m := 2) (Nat.le_refl _) (by decide +kernel)
      have l2 := more l1 lg
      have l3 := more l2 (b := " ) ") (m := 3) (by decide +kernel)
      have l4 := more l3 (b := "and") (m := 3) (by decide +kernel)
      have l5 := more l4 (b := " ( ") (m := 3) (by decide +kernel)
      have l6 := more l5 lg2
      have l7 := more l6 (b := " )") (m := 2) (by decide +kernel)
      refine ⟨_, rfl, fit l1 (by omega), .ref p, rfl, p, _, 1, x, rfl, rfl, SqT.of (s0 _ _ h), rfl, x, g, rfl, hg.mono (.of s0), hok.1, by omega, fun H1 s1 => ?_⟩
      refine .inl ⟨fmS g, rfl, sz (by omega), _, rfl, fit l2 (by omega), _, rfl, fit l3 (by omega), .str "and", rfl, .inl ⟨_, rfl, sz (by decide +kernel), _, rfl, fit l4 (by omega), _, rfl, fit l5 (by omega), ?_⟩⟩
      refine ⟨.ref p, rfl, p, _, 2, z, rfl, rfl, SqT.of (s1 _ _ (s0 _ _ h)), rfl, z, g2, rfl, hg2.mono (.of (s0.trans s1)), hok.2, by omega, fun H2 s2 => ?_⟩
      refine .inl ⟨fmS g2, rfl, sz (by omega), _, rfl, fit l6 (by omega), _, rfl, fit l7 (by omega), ?_⟩
      have q1 := q H2 ((s0.trans s1).trans s2)
      rw [show fmS (.con g g2) = Str.empty ++ "( " ++ fmS g ++ " ) " ++ "and" ++ " ( " ++ fmS g2 ++ " )" by rw [Str.empty_append]; rfl] at q1
      exact q1
    | @dis p x z g g2 h hg hg2 =>
      cases m with
      | zero => exact hok.elim
      | succ m =>
      have lg := fm_len m g hok.1
      have lg2 := fm_len m g2 hok.2
      have b5 := bnd4 (n := m) (by omega)
      refine ⟨.ref p, rfl, p, _, 0, .str "or", rfl, rfl, SqT.of h, rfl, .str "or", rfl, rfl, _, rfl, if_no (str_n (by decide +kernel)) ?_⟩
      refine ⟨.str "or", rfl, sz (by show 2 ≤ 100000; decide), fun t1 nt1 => ⟨t1, _, rfl, .inr (SqT.of upd_same), rfl, rfl, _, rfl, if_yes (by decide +kernel) ?_⟩⟩
      have s0 := same_new (o := .tup [.str "and", .str "or"]) nt1
      have l1 := more (a := Str.empty) (b := "( ") (n := 0) (m := 2) (Nat.le_refl _) (by decide +kernel)
      have l2 := more l1 lg
      have l3 := more l2 (b := " ) ") (m := 3) (by decide +kernel)
      have l4 := more l3 (b := "or") (m := 2) (by decide +kernel)
      have l5 := more l4 (b := " ( ") (m := 3) (by decide +kernel)
      have l6 := more l5 lg2
      have l7 := more l6 (b := " )") (m := 2) (by decide +kernel)
      refine ⟨_, rfl, fit l1 (by omega), .ref p, rfl, p, _, 1, x, rfl, rfl, SqT.of (s0 _ _ h), rfl, x, g, rfl, hg.mono (.of s0), hok.1, by omega, fun H1 s1 => ?_⟩
      refine .inl ⟨fmS g, rfl, sz (by omega), _, rfl, fit l2 (by omega), _, rfl, fit l3 (by omega), .str "or", rfl, .inl ⟨_, rfl, sz (by decide +kernel), _, rfl, fit l4 (by omega), _, rfl, fit l5 (by omega), ?_⟩⟩
      refine ⟨.ref p, rfl, p, _, 2, z, rfl, rfl, SqT.of (s1 _ _ (s0 _ _ h)), rfl, z, g2, rfl, hg2.mono (.of (s0.trans s1)), hok.2, by omega, fun H2 s2 => ?_⟩
      refine .inl ⟨fmS g2, rfl, sz (by omega), _, rfl, fit l6 (by omega), _, rfl, fit l7 (by omega), ?_⟩
      have q1 := q H2 ((s0.trans s1).trans s2)
      rw [show fmS (.dis g g2) = Str.empty ++ "( " ++ fmS g ++ " ) " ++ "or" ++ " ( " ++ fmS g2 ++ " )" by rw [Str.empty_append]; rfl] at q1
      exact q1
    | @imp p x z g g2 h hg hg2 =>
      cases m with
      | zero => exact hok.elim
      | succ m =>
      have lg := fm_len m g hok.1
      have lg2 := fm_len m g2 hok.2
      have b5 := bnd4 (n := m) (by omega)
      refine ⟨.ref p, rfl, p, _, 0, .str "if", rfl, rfl, SqT.of h, rfl, .str "if", rfl, rfl, _, rfl, if_no (str_n (by decide +kernel)) ?_⟩
      refine ⟨.str "if", rfl, sz (by show 2 ≤ 100000; decide), fun t1 nt1 => ⟨t1, _, rfl, .inr (SqT.of upd_same), rfl, rfl, _, rfl, if_no (by decide +kernel) ?_⟩⟩
      have s0 := same_new (o := .tup [.str "and", .str "or"]) nt1
      refine ⟨.str "if", rfl, rfl, _, rfl, if_yes (str_y (by decide +kernel)) ?_⟩
      have l1 := more (a := Str.empty) (b := "if ( ") (n := 0) (m := 5) (Nat.le_refl _) (by decide +kernel)
      have l2 := more l1 lg
      have l3 := more l2 (b := " ) then ( ") (m := 10) (by decide +kernel)
      have l6 := more l3 lg2
      have l7 := more l6 (b := " )") (m := 2) (by decide +kernel)
      refine ⟨_, rfl, fit l1 (by omega), .ref p, rfl, p, _, 1, x, rfl, rfl, SqT.of (s0 _ _ h), rfl, x, g, rfl, hg.mono (.of s0), hok.1, by omega, fun H1 s1 => ?_⟩
      refine .inl ⟨fmS g, rfl, sz (by omega), _, rfl, fit l2 (by omega), _, rfl, fit l3 (by omega), ?_⟩
      refine ⟨.ref p, rfl, p, _, 2, z, rfl, rfl, SqT.of (s1 _ _ (s0 _ _ h)), rfl, z, g2, rfl, hg2.mono (.of (s0.trans s1)), hok.2, by omega, fun H2 s2 => ?_⟩
      refine .inl ⟨fmS g2, rfl, sz (by omega), _, rfl, fit l6 (by omega), _, rfl, fit l7 (by omega), ?_⟩
      have q1 := q H2 ((s0.trans s1).trans s2)
      rw [show fmS (.imp g g2) = Str.empty ++ "if ( " ++ fmS g ++ " ) then ( " ++ fmS g2 ++ " )" by rw [Str.empty_append]; rfl] at q1
      exact q1
    | @ev p x z g h hg =>
      cases m with
      | zero => exact hok.elim
      | succ m =>
      have lg := fm_len m g hok.2
      have lx := hok.1
      have b5 := bnd4 (n := m) (by omega)
      refine ⟨.ref p, rfl, p, _, 0, .str "every", rfl, rfl, SqT.of h, rfl, .str "every", rfl, rfl, _, rfl, if_no (str_n (by decide +kernel)) ?_⟩
      refine ⟨.str "every", rfl, sz (by show 2 ≤ 100000; decide), fun t1 nt1 => ⟨t1, _, rfl, .inr (SqT.of upd_same), rfl, rfl, _, rfl, if_no (by decide +kernel) ?_⟩⟩
      refine ⟨.str "every", rfl, rfl, _, rfl, if_no (str_n (by decide +kernel)) ?_⟩
      refine ⟨.str "every", rfl, sz (by show 2 ≤ 100000; decide), fun t2 nt2 => ⟨t2, _, rfl, .inr (SqT.of upd_same), rfl, rfl, _, rfl, if_yes (by decide +kernel) ?_⟩⟩
      have s0 := (same_new (o := .tup [.str "and", .str "or"]) nt1).trans (same_new (o := .tup [.str "every", .str "some"]) nt2)
      have l1 := more (a := Str.empty) (b := "every") (n := 0) (m := 5) (Nat.le_refl _) (by decide +kernel)
      have l2 := more l1 (b := " ") (m := 1) (by decide +kernel)
      have l3 := more l2 lx
      have l4 := more l3 (b := " ( ") (m := 3) (by decide +kernel)
      have l5 := more l4 lg
      have l6 := more l5 (b := " )") (m := 2) (by decide +kernel)
      refine ⟨.str "every", rfl, .inl ⟨_, rfl, sz (by decide +kernel), _, rfl, fit l1 (by omega), _, rfl, fit l2 (by omega), .ref p, rfl, p, _, 1, .str x, rfl, rfl, SqT.of (s0 _ _ h), rfl, .inl ⟨x, rfl, sz (by omega), _, rfl, fit l3 (by omega), _, rfl, fit l4 (by omega), ?_⟩⟩⟩
      refine ⟨.ref p, rfl, p, _, 2, z, rfl, rfl, SqT.of (s0 _ _ h), rfl, z, g, rfl, hg.mono (.of s0), hok.2, by omega, fun H1 s1 => ?_⟩
      refine .inl ⟨fmS g, rfl, sz (by omega), _, rfl, fit l5 (by omega), _, rfl, fit l6 (by omega), ?_⟩
      have q1 := q H1 (s0.trans s1)
      rw [show fmS (.ev x g) = Str.empty ++ "every" ++ " " ++ x ++ " ( " ++ fmS g ++ " )" by rw [Str.empty_append]; rfl] at q1
      exact q1
    | @so p x z g h hg =>
      cases m with
      | zero => exact hok.elim
      | succ m =>
      have lg := fm_len m g hok.2
      have lx := hok.1
      have b5 := bnd4 (n := m) (by omega)
      refine ⟨.ref p, rfl, p, _, 0, .str "some", rfl, rfl, SqT.of h, rfl, .str "some", rfl, rfl, _, rfl, if_no (str_n (by decide +kernel)) ?_⟩
      refine ⟨.str "some", rfl, sz (by show 2 ≤ 100000; decide), fun t1 nt1 => ⟨t1, _, rfl, .inr (SqT.of upd_same), rfl, rfl, _, rfl, if_no (by decide +kernel) ?_⟩⟩
      refine ⟨.str "some", rfl, rfl, _, rfl, if_no (str_n (by decide +kernel)) ?_⟩
      refine ⟨.str "some", rfl, sz (by show 2 ≤ 100000; decide), fun t2 nt2 => ⟨t2, _, rfl, .inr (SqT.of upd_same), rfl, rfl, _, rfl, if_yes (by decide +kernel) ?_⟩⟩
      have s0 := (same_new (o := .tup [.str "and", .str "or"]) nt1).trans (same_new (o := .tup [.str "every", .str "some"]) nt2)
      have l1 := more (a := Str.empty) (b := "some") (n := 0) (m := 4) (Nat.le_refl _) (by decide +kernel)
      have l2 := more l1 (b := " ") (m := 1) (by decide +kernel)
      have l3 := more l2 lx
      have l4 := more l3 (b := " ( ") (m := 3) (by decide +kernel)
      have l5 := more l4 lg
      have l6 := more l5 (b := " )") (m := 2) (by decide +kernel)
      refine ⟨.str "some", rfl, .inl ⟨_, rfl, sz (by decide +kernel), _, rfl, fit l1 (by omega), _, rfl, fit l2 (by omega), .ref p, rfl, p, _, 1, .str x, rfl, rfl, SqT.of (s0 _ _ h), rfl, .inl ⟨x, rfl, sz (by omega), _, rfl, fit l3 (by omega), _, rfl, fit l4 (by omega), ?_⟩⟩⟩
      refine ⟨.ref p, rfl, p, _, 2, z, rfl, rfl, SqT.of (s0 _ _ h), rfl, z, g, rfl, hg.mono (.of s0), hok.2, by omega, fun H1 s1 => ?_⟩
      refine .inl ⟨fmS g, rfl, sz (by omega), _, rfl, fit l5 (by omega), _, rfl, fit l6 (by omega), ?_⟩
      have q1 := q H1 (s0.trans s1)
      rw [show fmS (.so x g) = Str.empty ++ "some" ++ " " ++ x ++ " ( " ++ fmS g ++ " )" by rw [Str.empty_append]; rfl] at q1
      exact q1
end
end K15
set_option Elab.async false
set_option linter.all false
set_option maxRecDepth 100000
set_option maxHeartbeats 4000000
namespace K15
open PySem PySem.Spec PyProof.Rows L2 Lc
section
variable {P : Program} {w : World} {K : PySem.W.Frag} {mg : Str → Option Value} {base : Heap} {f : Addr} {fd : FuncData}
abbrev s_w_sum_text : Stmt := topS 14
abbrev N_w_sum_text : List Str := ["_law_total", "_law_words", "_law_kind", "_law_times"]
theorem sc_w_sum_text : FnScope N_w_sum_text ["_law_total"] (defScope s_w_sum_text) := ⟨rfl, rfl, rfl, by decide +kernel, rfl, by decide +kernel, by decide +kernel⟩
theorem ok_w_sum_text {k : Nat} (F : Fun K "_law_sum_text" "_law_sum_text" s_w_sum_text f fd) (m_str : mg "str" = none) (m_int : mg "int" = none) : FnOk P w K mg base CX0 (k + 1) f fd ["_law_total"] spSum := by
  refine F.ok sc_w_sum_text (fun vs H Q E h => ?_) (fun cdv A outer s H vs Q E hr h => ?_)
  · obtain ⟨v, s, rfl, _⟩ := h
    rfl
  · obtain ⟨v, sm, rfl, ⟨p, qa, ws, rfl, hp, hq, hps⟩, hok, q⟩ := h
    refine ⟨_, (pss_cons (ps_setLc (i := 1) (own := [("_law_kind", 2), ("_law_times", 3)])  (tt := tYes) rfl sc_w_sum_text.nd rfl rfl (sw_true rfl rfl rfl (by decide +kernel)) (pi_tup (pe_ix ix_tup (pv 0) pe_int (fun _ _ => rfl))) (blkOk_by (N := N_w_sum_text) (sc := defScope s_w_sum_text) (by decide +kernel)) (fun _ _ _ _ _ => (pg_tupK K (n := 2) rfl (pgs_cons (pg_name (i := 2) sc_w_sum_text.nd rfl (.inl rfl)) (pgs_cons (pg_name (i := 3) sc_w_sum_text.nd rfl (.inl rfl)) pgs_nil)))) (fun _ _ _ _ _ => pts_nil) (fun _ _ _ _ _ => (pe_ix (ix_listK K) (pe_lst (pa_cons (pv 2) (pa_cons (pe_op op_add_str (pe_op op_add_str (pe_callTy call_str_int (by rfl) m_str (by decide +kernel) (pa_cons (pv 3) pa_nil)) pe_str) (pv 2)) pa_nil))) (pe_callTy call_int1 (by rfl) m_int (by decide +kernel) (pa_cons (pe_cmpR op_gt (pv 3) pe_int (nomark _)) pa_nil)) (fun _ _ => rfl))))
      (pss_cons (ps_if (PW.pt (pw_or (pt_cmpR op_ne (pe_ix ix_tup (pv 0) pe_int (fun _ _ => rfl)) pe_int (nomark _)) (pw_or1 (pt_cmpR (op_eqNil hr.units0) (pv 1) (pe_lst pa_nil) (nomark _)))))
      (pss_one (ps_expr (pe_bm PySem.F.plainAttrs_list PySem.F.slot_list_append PySem.F.type_list_append mt_append (pv 1) (pa_cons (pe_callTy call_str_int (by rfl) m_str (by decide +kernel) (pa_cons (pe_ix ix_tup (pv 0) pe_int (fun _ _ => rfl)) pa_nil)) pa_nil))))
      pss_nil)
      (pss_one (ps_ret (pe_join pe_str (pv 1)))))), ?_⟩
    obtain ⟨⟨hl6, hpo⟩, hn⟩ := id hok
    refine ⟨.ref p, rfl, p, _, 0, .ref qa, rfl, rfl, SqT.of hp, rfl, qa, rfl, ⟨_, SqT.of hq⟩, fun D nD => ?_⟩
    refine lc_tup (K := K) (a := qa) (xs := ws) (fun i H' => Same H H' ∧ H' D = some (.lst (((sm.ps.take i).map shareS).map V.str))) ⟨same_new nD, upd_same⟩ (fun i H' hi e => SqT.of (e.1 _ _ hq)) (fun i x H' hx e => ?_) (fun H' e => ?_)
    · obtain ⟨sH, hD⟩ := e
      obtain ⟨pp, kk, mm, rfl, hpp, hr2⟩ := hps.get hx
      obtain ⟨hk8, hmb⟩ := hpo _ (List.mem_of_getElem? hr2)
      simp only at hk8 hmb
      have hnl := numS_len hmb
      refine ⟨pp, _, rfl, SqT.of (sH _ _ hpp), rfl, _, _, rfl, _, _, rfl, rfl, rfl, yes_if ?_⟩
      refine ⟨.str kk, rfl, .int mm, rfl, mm, rfl, num_log hmb, numS mm, " ", rfl, rfl, ?_, .str kk, rfl, _, kk, rfl, rfl, ?_, sz (by show 2 ≤ 100000; decide), fun l nl => ?_⟩
      · exact sz (by show _ + 1 ≤ _; omega)
      · rw [Str.length_append]
        exact sz (by show _ + 1 + _ ≤ _; omega)
      · have nlD : D ≠ l := ne_of_none hD nl
        refine ⟨.int mm, rfl, mm, 1, rfl, rfl, .inr ⟨_, rfl, l, _, _, .str (shareS (kk, mm)), rfl, rfl, SqL.of upd_same, ?_, ?_⟩⟩
        · unfold shareS
          by_cases h1 : 1 < mm
          · rw [if_pos h1, decide_eq_true (show (1 : Int) < mm by omega)]
            rfl
          · rw [if_neg h1, decide_eq_false (show ¬ (1 : Int) < mm by omega)]
            rfl
        · refine ⟨_, by rw [upd_ne nlD]; exact hD, ?_, fun b o hb => ?_, ?_⟩
          · rw [List.length_map, List.length_map, List.length_take]
            exact szl (by omega)
          · rw [upd_ne (ne_of_none hb nD), upd_ne (ne_of_none (sH _ _ hb) nl)]
            exact sH _ _ hb
          · rw [upd_same, List.take_add_one, hr2, List.map_append, List.map_append]
            rfl
    · obtain ⟨sH, hD⟩ := e
      rw [hps.len, List.take_length] at hD
      have fin : ∀ H2 : Hp, Same H H2 → H2 D = some (.lst ((sumParts sm).map V.str)) → tRet (tM1 (fun x xs H Q => ∃ a p, ∃ ys : List Str, x = .str a ∧ xs = [.ref p] ∧ (SqL K H p (ys.map V.str) ∨ SqT K H p (ys.map V.str)) ∧
          (ys.map (·.length)).sum + ys.length * a.length ≤ 16777216 ∧ Q (.str (Txt.join a ys)) H) (tC (.str " + ")) (tVar 1)) { nx := fun _ H' => Q .non H', rt := Q } [some (.ref p), some (.ref D), none, none] H2 := by
        intro H2 s2 hD
        obtain ⟨h7, h21⟩ := parts_ok hok
        refine ⟨⟨_, rfl⟩, .ref D, rfl, _, D, sumParts sm, rfl, rfl, .inl (SqL.of hD), join_ok (b := 21) h21 ?_, q H2 s2⟩
        show (sumParts sm).length * 21 + (sumParts sm).length * 3 ≤ 16777216
        omega
      have addN : ∀ H2 : Hp, Same H H2 → H2 D = some (.lst ((sm.ps.map shareS).map V.str)) → (sm.n ≠ 0 ∨ sm.ps = []) → tDrop (tBM K "list" rAppend (tVar 1) (tCons (tCB (fun xs H Q => ∃ i, xs = [.int i] ∧ i.natAbs.log2 < 1920 ∧ Q (.str (toString i)) H) (tCons (tOp (rIxT K) (tVar 0) (tC (.int 1))) tNil)) tNil))
          { nx := fun σ H2 => tRet (tM1 (fun x xs H Q => ∃ a p, ∃ ys : List Str, x = .str a ∧ xs = [.ref p] ∧ (SqL K H p (ys.map V.str) ∨ SqT K H p (ys.map V.str)) ∧
          (ys.map (·.length)).sum + ys.length * a.length ≤ 16777216 ∧ Q (.str (Txt.join a ys)) H) (tC (.str " + ")) (tVar 1)) { nx := fun _ H' => Q .non H', rt := Q } σ H2, rt := Q } [some (.ref p), some (.ref D), none, none] H2 := by
        intro H2 s2 hD2 hc
        refine ⟨.ref D, rfl, .inl ⟨rfl, _, SqL.of hD2⟩, .ref p, rfl, p, _, 1, .int sm.n, rfl, rfl, SqT.of (s2 _ _ hp), rfl, sm.n, rfl, num_log hn, D, _, _, rfl, rfl, hD2, ?_, ?_⟩
        · rw [List.length_map, List.length_map]
          exact szl (by omega)
        · refine fin _ (fun b o hb => ?_) ?_
          · rw [upd_ne (ne_of_none hb nD)]
            exact s2 _ _ hb
          · rw [upd_same]
            unfold sumParts
            rw [if_pos hc, List.map_append]
            rfl
      refine ⟨.ref p, rfl, p, _, 1, .int sm.n, rfl, rfl, SqT.of (sH _ _ hp), rfl, rfl, _, rfl, ?_⟩
      by_cases h0 : sm.n = 0
      · refine if_no ?_ ?_
        · rw [h0]
          decide
        · refine ⟨.ref D, rfl, Nat.zero_le _, fun o no => ?_⟩
          have hD2 : (upd H' o (.lst [])) D = some (.lst ((sm.ps.map shareS).map V.str)) := by rw [upd_ne (ne_of_none hD no)]; exact hD
          have sH2 : Same H (upd H' o (.lst [])) := sH.trans (same_new no)
          refine ⟨D, o, _, rfl, rfl, SqL.of hD2, SqL.of upd_same, _, rfl, ?_⟩
          cases hc : sm.ps with
          | nil => exact if_yes rfl (addN _ sH2 hD2 (.inr hc))
          | cons z r =>
            refine if_no rfl ?_
            refine fin _ sH2 ?_
            rw [hD2]
            unfold sumParts
            rw [if_neg (by intro z; rcases z with z | z; exact z h0; rw [hc] at z; cases z), List.append_nil]
      · refine if_yes ?_ (iteT (addN _ sH hD (.inl h0)))
        have : ¬ V.int (sm.n : Int) = V.int 0 := fun z => h0 (by have := V.int.inj z; omega)
        rw [decide_eq_false this]
        rfl
abbrev s_w_text : Stmt := topS 15
abbrev N_w_text : List Str := ["_law_form_here", "_law_word", "_law_last", "_law_first"]
theorem sc_w_text : FnScope N_w_text ["_law_form_here"] (defScope s_w_text) := ⟨rfl, rfl, rfl, by decide +kernel, rfl, by decide +kernel, by decide +kernel⟩
theorem join3 (a b c : Str) : Txt.join " " [a, b, c] = a ++ " " ++ (b ++ " " ++ c) := by
  rw [TL.join_eq]
  rfl
theorem join3_ok {a b c : Str} (h : a.length + b.length + c.length ≤ 90000) : ([a, b, c].map (·.length)).sum + [a, b, c].length * (" " : Str).length ≤ 16777216 := by
  show (a.length + (b.length + (c.length + 0))) + 3 * 1 ≤ 16777216
  omega
theorem ok_w_text (F : Fun K "_law_text" "_law_text" s_w_text f fd) (g : mg "_law_text" = some (.ref f)) (b : Binds K fd ["_law_form_here"] []) (C_w_sum_text : Dn P w K mg base "_law_sum_text" ["_law_total"] 1 spSum) :
    ∀ m, FnOk P w K mg base CX0 (m + 1) f fd ["_law_form_here"] (spForm m) := by
  intro m
  induction m with
  | zero => exact ⟨fun _ _ _ _ h => h.elim, fun _ _ _ _ _ _ _ _ _ _ _ _ _ h => h.elim⟩
  | succ m ih =>
  have C_w_text : Dn P w K mg base "_law_text" ["_law_form_here"] (m + 1) (spForm m) := ⟨f, fd, F.kp, g, b, ih⟩
  refine F.ok sc_w_text (fun vs H Q E h => ?_) (fun cdv A outer s H vs Q E hr h => ?_)
  · obtain ⟨v, f, rfl, _⟩ := h
    rfl
  · obtain ⟨v, f, rfl, hf, hok, hm5, q⟩ := h
    refine ⟨_, (pss_cons (ps_set (i := 1) sc_w_text.nd rfl (.inl rfl) (pe_ix ix_tup (pv 0) pe_int (fun _ _ => rfl)))
      (pss_cons (ps_if (pt_cmpR op_eq (pv 1) pe_str (nomark _))
      (pss_one (ps_ret pe_str))
      pss_nil)
      (pss_cons (ps_if (pt_cmpR op_eq (pv 1) pe_str (nomark _))
      (pss_one (ps_ret (pe_op op_add_str (pe_op op_add_str (pe_ix ix_tup (pv 0) pe_int (fun _ _ => rfl)) pe_str) (pe_ix ix_tup (pv 0) pe_int (fun _ _ => rfl)))))
      pss_nil)
      (pss_cons (ps_if (pt_cmpR op_eq (pv 1) pe_str (nomark _))
      (pss_one (ps_ret (pe_op op_add_str (pe_op op_add_str (pe_ix ix_tup (pv 0) pe_int (fun _ _ => rfl)) pe_str) (pe_ix ix_tup (pv 0) pe_int (fun _ _ => rfl)))))
      pss_nil)
      (pss_cons (ps_if (pt_cmpR op_eq (pv 1) pe_str (nomark _))
      (pss_one (ps_ret (pe_join pe_str (pe_lst (pa_cons (pe_ix ix_tup (pv 0) pe_int (fun _ _ => rfl)) (pa_cons (pe_ix ix_tup (pv 0) pe_int (fun _ _ => rfl)) (pa_cons (pe_ix ix_tup (pv 0) pe_int (fun _ _ => rfl)) pa_nil)))))))
      pss_nil)
      (pss_cons (ps_if (pt_cmpR op_eq (pv 1) pe_str (nomark _))
      (pss_one (ps_ret (pe_op op_add_str (pe_op op_add_str (Lc.pe_dn C_w_sum_text (hr.mono (by omega)) (by rfl) (pa_cons (pe_ix ix_tup (pv 0) pe_int (fun _ _ => rfl)) pa_nil)) pe_str) (Lc.pe_dn C_w_sum_text (hr.mono (by omega)) (by rfl) (pa_cons (pe_ix ix_tup (pv 0) pe_int (fun _ _ => rfl)) pa_nil)))))
      pss_nil)
      (pss_cons (ps_set (i := 2) sc_w_text.nd rfl (.inl rfl) (pe_op op_add_str (pe_op op_add_str pe_str (Lc.pe_dn C_w_text (hr.mono (by omega)) (by rfl) (pa_cons (pe_ix ix_tup (pv 0) (pe_un un_neg pe_int) (fun _ _ => rfl)) pa_nil))) pe_str))
      (pss_cons (ps_if (pt_cmpR op_eq (pv 1) pe_str (nomark _))
      (pss_one (ps_ret (pe_op op_add_str pe_str (pv 2))))
      pss_nil)
      (pss_cons (ps_if (pt_cmpR op_in_seq (pv 1) (pe_tup (pa_cons pe_str (pa_cons pe_str pa_nil))) (by rfl))
      (pss_one (ps_ret (pe_join pe_str (pe_lst (pa_cons (pv 1) (pa_cons (pe_ix ix_tup (pv 0) pe_int (fun _ _ => rfl)) (pa_cons (pv 2) pa_nil)))))))
      pss_nil)
      (pss_cons (ps_set (i := 3) sc_w_text.nd rfl (.inl rfl) (pe_op op_add_str (pe_op op_add_str pe_str (Lc.pe_dn C_w_text (hr.mono (by omega)) (by rfl) (pa_cons (pe_ix ix_tup (pv 0) pe_int (fun _ _ => rfl)) pa_nil))) pe_str))
      (pss_cons (ps_if (pt_cmpR op_eq (pv 1) pe_str (nomark _))
      (pss_one (ps_ret (pe_op op_add_str (pe_op op_add_str (pe_op op_add_str pe_str (pv 3)) pe_str) (pv 2))))
      pss_nil)
      (pss_one (ps_ret (pe_join pe_str (pe_lst (pa_cons (pv 3) (pa_cons (pv 1) (pa_cons (pv 2) pa_nil)))))))))))))))))), ?_⟩
    have q0 := q H (Same.refl H)
    cases hf with
    | @fls p h =>
      refine ⟨.ref p, rfl, p, _, 0, .str "false", rfl, rfl, SqT.of h, rfl, ?_⟩
      refine ⟨.str "false", rfl, rfl, _, rfl, if_yes (str_y (by decide +kernel)) ?_⟩
      exact q0
    | @is p t k h =>
      obtain ⟨h1, h2⟩ := hok.leaf rfl
      refine ⟨.ref p, rfl, p, _, 0, .str "is", rfl, rfl, SqT.of h, rfl, ?_⟩
      refine ⟨.str "is", rfl, rfl, _, rfl, if_no (str_n (by decide +kernel)) ?_⟩
      refine ⟨.str "is", rfl, rfl, _, rfl, if_yes (str_y (by decide +kernel)) ?_⟩
      refine ⟨.ref p, rfl, p, _, 1, .str t, rfl, rfl, SqT.of h, rfl, t, " is a ", rfl, rfl, sz (by show _ + 6 ≤ _; omega), .ref p, rfl, p, _, 2, .str k, rfl, rfl, SqT.of h, rfl, _, k, rfl, rfl, ?_, q0⟩
      rw [Str.length_append]
      exact sz (by show _ + 6 + _ ≤ _; omega)
    | @same p t k h =>
      obtain ⟨h1, h2⟩ := hok.leaf rfl
      refine ⟨.ref p, rfl, p, _, 0, .str "same", rfl, rfl, SqT.of h, rfl, ?_⟩
      refine ⟨.str "same", rfl, rfl, _, rfl, if_no (str_n (by decide +kernel)) ?_⟩
      refine ⟨.str "same", rfl, rfl, _, rfl, if_no (str_n (by decide +kernel)) ?_⟩
      refine ⟨.str "same", rfl, rfl, _, rfl, if_yes (str_y (by decide +kernel)) ?_⟩
      refine ⟨.ref p, rfl, p, _, 1, .str t, rfl, rfl, SqT.of h, rfl, t, " is ", rfl, rfl, sz (by show _ + 4 ≤ _; omega), .ref p, rfl, p, _, 2, .str k, rfl, rfl, SqT.of h, rfl, _, k, rfl, rfl, ?_, q0⟩
      rw [Str.length_append]
      exact sz (by show _ + 4 + _ ≤ _; omega)
    | @does p d t u h =>
      obtain ⟨h1, h2, h3⟩ := hok.leaf rfl
      refine ⟨.ref p, rfl, p, _, 0, .str "does", rfl, rfl, SqT.of h, rfl, ?_⟩
      refine ⟨.str "does", rfl, rfl, _, rfl, if_no (str_n (by decide +kernel)) ?_⟩
      refine ⟨.str "does", rfl, rfl, _, rfl, if_no (str_n (by decide +kernel)) ?_⟩
      refine ⟨.str "does", rfl, rfl, _, rfl, if_no (str_n (by decide +kernel)) ?_⟩
      refine ⟨.str "does", rfl, rfl, _, rfl, if_yes (str_y (by decide +kernel)) ?_⟩
      refine ⟨⟨_, rfl⟩, .ref p, rfl, p, _, 2, .str t, rfl, rfl, SqT.of h, rfl, .ref p, rfl, p, _, 1, .str d, rfl, rfl, SqT.of h, rfl, .ref p, rfl, p, _, 3, .str u, rfl, rfl, SqT.of h, rfl, sz (by show 3 ≤ 100000; decide), fun l nl => ?_⟩
      refine ⟨_, l, [t, d, u], rfl, rfl, .inl (SqL.of upd_same), join3_ok (by omega), ?_⟩
      have q1 := q _ (same_new (o := .lst [.str t, .str d, .str u]) nl)
      rw [show fmS (.does d t u) = t ++ " " ++ (d ++ " " ++ u) by show t ++ " " ++ d ++ " " ++ u = _; simp only [Str.append_assoc]] at q1
      rw [join3]
      exact q1
    | @least p x z a b' h ha hb =>
      obtain ⟨h1, h2⟩ := hok.leaf rfl
      have l1 := sum_len h1
      have l2 := sum_len h2
      refine ⟨.ref p, rfl, p, _, 0, .str "least", rfl, rfl, SqT.of h, rfl, ?_⟩
      refine ⟨.str "least", rfl, rfl, _, rfl, if_no (str_n (by decide +kernel)) ?_⟩
      refine ⟨.str "least", rfl, rfl, _, rfl, if_no (str_n (by decide +kernel)) ?_⟩
      refine ⟨.str "least", rfl, rfl, _, rfl, if_no (str_n (by decide +kernel)) ?_⟩
      refine ⟨.str "least", rfl, rfl, _, rfl, if_no (str_n (by decide +kernel)) ?_⟩
      refine ⟨.str "least", rfl, rfl, _, rfl, if_yes (str_y (by decide +kernel)) ?_⟩
      refine ⟨.ref p, rfl, p, _, 1, x, rfl, rfl, SqT.of h, rfl, x, a, rfl, ha, h1, fun H1 s1 => ?_⟩
      refine ⟨sumS a, " >= ", rfl, rfl, sz (by show _ + 4 ≤ _; omega), .ref p, rfl, p, _, 2, z, rfl, rfl, SqT.of (s1 _ _ h), rfl, z, b', rfl, hb.mono (.of s1), h2, fun H2 s2 => ?_⟩
      refine ⟨_, sumS b', rfl, rfl, ?_, q H2 (s1.trans s2)⟩
      rw [Str.length_append]
      exact sz (by show _ + 4 + _ ≤ _; omega)
    | @neg p x g h hg =>
      cases m with
      | zero => exact hok.elim
      | succ m =>
      have lg := fm_len m g hok
      have b5 := bnd4 (n := m) (by omega)
      refine ⟨.ref p, rfl, p, _, 0, .str "not", rfl, rfl, SqT.of h, rfl, ?_⟩
      refine ⟨.str "not", rfl, rfl, _, rfl, if_no (str_n (by decide +kernel)) ?_⟩
      refine ⟨.str "not", rfl, rfl, _, rfl, if_no (str_n (by decide +kernel)) ?_⟩
      refine ⟨.str "not", rfl, rfl, _, rfl, if_no (str_n (by decide +kernel)) ?_⟩
      refine ⟨.str "not", rfl, rfl, _, rfl, if_no (str_n (by decide +kernel)) ?_⟩
      refine ⟨.str "not", rfl, rfl, _, rfl, if_no (str_n (by decide +kernel)) ?_⟩
      refine ⟨.ref p, rfl, 1, rfl, p, _, -1, x, rfl, rfl, SqT.of h, rfl, x, g, rfl, hg, hok, by omega, fun H1 s1 => ?_⟩
      refine ⟨"( ", fmS g, rfl, rfl, sz (by show 2 + _ ≤ _; omega), _, " )", rfl, rfl, ?_, ?_⟩
      · rw [Str.length_append]
        exact sz (by show 2 + _ + 2 ≤ _; omega)
      refine ⟨.str "not", rfl, rfl, _, rfl, if_yes (str_y (by decide +kernel)) ?_⟩
      refine ⟨_, rfl, "not ", _, rfl, rfl, ?_, ?_⟩
      · rw [Str.length_append, Str.length_append]
        exact sz (by show 4 + (2 + _ + 2) ≤ _; omega)
      have q1 := q H1 s1
      rw [show fmS (.neg g) = "not " ++ ("( " ++ fmS g ++ " )") by show "not ( " ++ fmS g ++ " )" = _; rw [show ("not ( " : Str) = "not " ++ "( " by decide +kernel]; simp only [Str.append_assoc]] at q1
      exact q1
    | @ev p x z g h hg =>
      cases m with
      | zero => exact hok.elim
      | succ m =>
      have lg := fm_len m g hok.2
      have lx := hok.1
      have b5 := bnd4 (n := m) (by omega)
      refine ⟨.ref p, rfl, p, _, 0, .str "every", rfl, rfl, SqT.of h, rfl, ?_⟩
      refine ⟨.str "every", rfl, rfl, _, rfl, if_no (str_n (by decide +kernel)) ?_⟩
      refine ⟨.str "every", rfl, rfl, _, rfl, if_no (str_n (by decide +kernel)) ?_⟩
      refine ⟨.str "every", rfl, rfl, _, rfl, if_no (str_n (by decide +kernel)) ?_⟩
      refine ⟨.str "every", rfl, rfl, _, rfl, if_no (str_n (by decide +kernel)) ?_⟩
      refine ⟨.str "every", rfl, rfl, _, rfl, if_no (str_n (by decide +kernel)) ?_⟩
      refine ⟨.ref p, rfl, 1, rfl, p, _, -1, z, rfl, rfl, SqT.of h, rfl, z, g, rfl, hg, hok.2, by omega, fun H1 s1 => ?_⟩
      refine ⟨"( ", fmS g, rfl, rfl, sz (by show 2 + _ ≤ _; omega), _, " )", rfl, rfl, ?_, ?_⟩
      · rw [Str.length_append]
        exact sz (by show 2 + _ + 2 ≤ _; omega)
      refine ⟨.str "every", rfl, rfl, _, rfl, if_no (str_n (by decide +kernel)) ?_⟩
      refine ⟨.str "every", rfl, sz (by show 2 ≤ 100000; decide), fun t1 nt1 => ⟨t1, _, rfl, .inr (SqT.of upd_same), rfl, rfl, _, rfl, if_yes (by decide +kernel) ?_⟩⟩
      have s0 := s1.trans (same_new (o := .tup [.str "every", .str "some"]) nt1)
      refine ⟨⟨_, rfl⟩, .str "every", rfl, .ref p, rfl, p, _, 1, .str x, rfl, rfl, SqT.of (s0 _ _ h), rfl, _, rfl, sz (by show 3 ≤ 100000; decide), fun l nl => ?_⟩
      refine ⟨_, l, ["every", x, "( " ++ fmS g ++ " )"], rfl, rfl, .inl (SqL.of upd_same), join3_ok ?_, ?_⟩
      · rw [Str.length_append, Str.length_append]
        show 5 + _ + (2 + _ + 2) ≤ _
        omega
      have q1 := q _ (s0.trans (same_new (o := .lst [.str "every", .str x, .str ("( " ++ fmS g ++ " )")]) nl))
      rw [show fmS (.ev x g) = "every" ++ " " ++ (x ++ " " ++ ("( " ++ fmS g ++ " )")) by show "every" ++ " " ++ x ++ " ( " ++ fmS g ++ " )" = _; rw [show (" ( " : Str) = " " ++ "( " by decide +kernel]; simp only [Str.append_assoc]] at q1
      rw [join3]
      exact q1
    | @so p x z g h hg =>
      cases m with
      | zero => exact hok.elim
      | succ m =>
      have lg := fm_len m g hok.2
      have lx := hok.1
      have b5 := bnd4 (n := m) (by omega)
      refine ⟨.ref p, rfl, p, _, 0, .str "some", rfl, rfl, SqT.of h, rfl, ?_⟩
      refine ⟨.str "some", rfl, rfl, _, rfl, if_no (str_n (by decide +kernel)) ?_⟩
      refine ⟨.str "some", rfl, rfl, _, rfl, if_no (str_n (by decide +kernel)) ?_⟩
      refine ⟨.str "some", rfl, rfl, _, rfl, if_no (str_n (by decide +kernel)) ?_⟩
      refine ⟨.str "some", rfl, rfl, _, rfl, if_no (str_n (by decide +kernel)) ?_⟩
      refine ⟨.str "some", rfl, rfl, _, rfl, if_no (str_n (by decide +kernel)) ?_⟩
      refine ⟨.ref p, rfl, 1, rfl, p, _, -1, z, rfl, rfl, SqT.of h, rfl, z, g, rfl, hg, hok.2, by omega, fun H1 s1 => ?_⟩
      refine ⟨"( ", fmS g, rfl, rfl, sz (by show 2 + _ ≤ _; omega), _, " )", rfl, rfl, ?_, ?_⟩
      · rw [Str.length_append]
        exact sz (by show 2 + _ + 2 ≤ _; omega)
      refine ⟨.str "some", rfl, rfl, _, rfl, if_no (str_n (by decide +kernel)) ?_⟩
      refine ⟨.str "some", rfl, sz (by show 2 ≤ 100000; decide), fun t1 nt1 => ⟨t1, _, rfl, .inr (SqT.of upd_same), rfl, rfl, _, rfl, if_yes (by decide +kernel) ?_⟩⟩
      have s0 := s1.trans (same_new (o := .tup [.str "every", .str "some"]) nt1)
      refine ⟨⟨_, rfl⟩, .str "some", rfl, .ref p, rfl, p, _, 1, .str x, rfl, rfl, SqT.of (s0 _ _ h), rfl, _, rfl, sz (by show 3 ≤ 100000; decide), fun l nl => ?_⟩
      refine ⟨_, l, ["some", x, "( " ++ fmS g ++ " )"], rfl, rfl, .inl (SqL.of upd_same), join3_ok ?_, ?_⟩
      · rw [Str.length_append, Str.length_append]
        show 4 + _ + (2 + _ + 2) ≤ _
        omega
      have q1 := q _ (s0.trans (same_new (o := .lst [.str "some", .str x, .str ("( " ++ fmS g ++ " )")]) nl))
      rw [show fmS (.so x g) = "some" ++ " " ++ (x ++ " " ++ ("( " ++ fmS g ++ " )")) by show "some" ++ " " ++ x ++ " ( " ++ fmS g ++ " )" = _; rw [show (" ( " : Str) = " " ++ "( " by decide +kernel]; simp only [Str.append_assoc]] at q1
      rw [join3]
      exact q1
    | @con p x z g g2 h hg hg2 =>
      cases m with
      | zero => exact hok.elim
      | succ m =>
      have lg := fm_len m g hok.1
      have lg2 := fm_len m g2 hok.2
      have b5 := bnd4 (n := m) (by omega)
      refine ⟨.ref p, rfl, p, _, 0, .str "and", rfl, rfl, SqT.of h, rfl, ?_⟩
      refine ⟨.str "and", rfl, rfl, _, rfl, if_no (str_n (by decide +kernel)) ?_⟩
      refine ⟨.str "and", rfl, rfl, _, rfl, if_no (str_n (by decide +kernel)) ?_⟩
      refine ⟨.str "and", rfl, rfl, _, rfl, if_no (str_n (by decide +kernel)) ?_⟩
      refine ⟨.str "and", rfl, rfl, _, rfl, if_no (str_n (by decide +kernel)) ?_⟩
      refine ⟨.str "and", rfl, rfl, _, rfl, if_no (str_n (by decide +kernel)) ?_⟩
      refine ⟨.ref p, rfl, 1, rfl, p, _, -1, z, rfl, rfl, SqT.of h, rfl, z, g2, rfl, hg2, hok.2, by omega, fun H1 s1 => ?_⟩
      refine ⟨"( ", fmS g2, rfl, rfl, sz (by show 2 + _ ≤ _; omega), _, " )", rfl, rfl, ?_, ?_⟩
      · rw [Str.length_append]
        exact sz (by show 2 + _ + 2 ≤ _; omega)
      refine ⟨.str "and", rfl, rfl, _, rfl, if_no (str_n (by decide +kernel)) ?_⟩
      refine ⟨.str "and", rfl, sz (by show 2 ≤ 100000; decide), fun t1 nt1 => ⟨t1, _, rfl, .inr (SqT.of upd_same), rfl, rfl, _, rfl, if_no (by decide +kernel) ?_⟩⟩
      have s0 := s1.trans (same_new (o := .tup [.str "every", .str "some"]) nt1)
      refine ⟨.ref p, rfl, p, _, 1, x, rfl, rfl, SqT.of (s0 _ _ h), rfl, x, g, rfl, hg.mono (.of s0), hok.1, by omega, fun H2 s2 => ?_⟩
      refine ⟨"( ", fmS g, rfl, rfl, sz (by show 2 + _ ≤ _; omega), _, " )", rfl, rfl, ?_, ?_⟩
      · rw [Str.length_append]
        exact sz (by show 2 + _ + 2 ≤ _; omega)
      refine ⟨.str "and", rfl, rfl, _, rfl, if_no (str_n (by decide +kernel)) ?_⟩
      refine ⟨⟨_, rfl⟩, _, rfl, .str "and", rfl, _, rfl, sz (by show 3 ≤ 100000; decide), fun l nl => ?_⟩
      refine ⟨_, l, ["( " ++ fmS g ++ " )", "and", "( " ++ fmS g2 ++ " )"], rfl, rfl, .inl (SqL.of upd_same), join3_ok ?_, ?_⟩
      · rw [Str.length_append, Str.length_append, Str.length_append, Str.length_append]
        show (2 + _ + 2) + 3 + (2 + _ + 2) ≤ _
        omega
      have q1 := q _ ((s0.trans s2).trans (same_new (o := .lst [.str ("( " ++ fmS g ++ " )"), .str "and", .str ("( " ++ fmS g2 ++ " )")]) nl))
      rw [show fmS (.con g g2) = "( " ++ fmS g ++ " )" ++ " " ++ ("and" ++ " " ++ ("( " ++ fmS g2 ++ " )")) by show "( " ++ fmS g ++ " ) " ++ "and" ++ " ( " ++ fmS g2 ++ " )" = _; rw [show (" ( " : Str) = " " ++ "( " by decide +kernel, show (" ) " : Str) = " )" ++ " " by decide +kernel]; simp only [Str.append_assoc]] at q1
      rw [join3]
      exact q1
    | @dis p x z g g2 h hg hg2 =>
      cases m with
      | zero => exact hok.elim
      | succ m =>
      have lg := fm_len m g hok.1
      have lg2 := fm_len m g2 hok.2
      have b5 := bnd4 (n := m) (by omega)
      refine ⟨.ref p, rfl, p, _, 0, .str "or", rfl, rfl, SqT.of h, rfl, ?_⟩
      refine ⟨.str "or", rfl, rfl, _, rfl, if_no (str_n (by decide +kernel)) ?_⟩
      refine ⟨.str "or", rfl, rfl, _, rfl, if_no (str_n (by decide +kernel)) ?_⟩
      refine ⟨.str "or", rfl, rfl, _, rfl, if_no (str_n (by decide +kernel)) ?_⟩
      refine ⟨.str "or", rfl, rfl, _, rfl, if_no (str_n (by decide +kernel)) ?_⟩
      refine ⟨.str "or", rfl, rfl, _, rfl, if_no (str_n (by decide +kernel)) ?_⟩
      refine ⟨.ref p, rfl, 1, rfl, p, _, -1, z, rfl, rfl, SqT.of h, rfl, z, g2, rfl, hg2, hok.2, by omega, fun H1 s1 => ?_⟩
      refine ⟨"( ", fmS g2, rfl, rfl, sz (by show 2 + _ ≤ _; omega), _, " )", rfl, rfl, ?_, ?_⟩
      · rw [Str.length_append]
        exact sz (by show 2 + _ + 2 ≤ _; omega)
      refine ⟨.str "or", rfl, rfl, _, rfl, if_no (str_n (by decide +kernel)) ?_⟩
      refine ⟨.str "or", rfl, sz (by show 2 ≤ 100000; decide), fun t1 nt1 => ⟨t1, _, rfl, .inr (SqT.of upd_same), rfl, rfl, _, rfl, if_no (by decide +kernel) ?_⟩⟩
      have s0 := s1.trans (same_new (o := .tup [.str "every", .str "some"]) nt1)
      refine ⟨.ref p, rfl, p, _, 1, x, rfl, rfl, SqT.of (s0 _ _ h), rfl, x, g, rfl, hg.mono (.of s0), hok.1, by omega, fun H2 s2 => ?_⟩
      refine ⟨"( ", fmS g, rfl, rfl, sz (by show 2 + _ ≤ _; omega), _, " )", rfl, rfl, ?_, ?_⟩
      · rw [Str.length_append]
        exact sz (by show 2 + _ + 2 ≤ _; omega)
      refine ⟨.str "or", rfl, rfl, _, rfl, if_no (str_n (by decide +kernel)) ?_⟩
      refine ⟨⟨_, rfl⟩, _, rfl, .str "or", rfl, _, rfl, sz (by show 3 ≤ 100000; decide), fun l nl => ?_⟩
      refine ⟨_, l, ["( " ++ fmS g ++ " )", "or", "( " ++ fmS g2 ++ " )"], rfl, rfl, .inl (SqL.of upd_same), join3_ok ?_, ?_⟩
      · rw [Str.length_append, Str.length_append, Str.length_append, Str.length_append]
        show (2 + _ + 2) + 2 + (2 + _ + 2) ≤ _
        omega
      have q1 := q _ ((s0.trans s2).trans (same_new (o := .lst [.str ("( " ++ fmS g ++ " )"), .str "or", .str ("( " ++ fmS g2 ++ " )")]) nl))
      rw [show fmS (.dis g g2) = "( " ++ fmS g ++ " )" ++ " " ++ ("or" ++ " " ++ ("( " ++ fmS g2 ++ " )")) by show "( " ++ fmS g ++ " ) " ++ "or" ++ " ( " ++ fmS g2 ++ " )" = _; rw [show (" ( " : Str) = " " ++ "( " by decide +kernel, show (" ) " : Str) = " )" ++ " " by decide +kernel]; simp only [Str.append_assoc]] at q1
      rw [join3]
      exact q1
    | @imp p x z g g2 h hg hg2 =>
      cases m with
      | zero => exact hok.elim
      | succ m =>
      have lg := fm_len m g hok.1
      have lg2 := fm_len m g2 hok.2
      have b5 := bnd4 (n := m) (by omega)
      refine ⟨.ref p, rfl, p, _, 0, .str "if", rfl, rfl, SqT.of h, rfl, ?_⟩
      refine ⟨.str "if", rfl, rfl, _, rfl, if_no (str_n (by decide +kernel)) ?_⟩
      refine ⟨.str "if", rfl, rfl, _, rfl, if_no (str_n (by decide +kernel)) ?_⟩
      refine ⟨.str "if", rfl, rfl, _, rfl, if_no (str_n (by decide +kernel)) ?_⟩
      refine ⟨.str "if", rfl, rfl, _, rfl, if_no (str_n (by decide +kernel)) ?_⟩
      refine ⟨.str "if", rfl, rfl, _, rfl, if_no (str_n (by decide +kernel)) ?_⟩
      refine ⟨.ref p, rfl, 1, rfl, p, _, -1, z, rfl, rfl, SqT.of h, rfl, z, g2, rfl, hg2, hok.2, by omega, fun H1 s1 => ?_⟩
      refine ⟨"( ", fmS g2, rfl, rfl, sz (by show 2 + _ ≤ _; omega), _, " )", rfl, rfl, ?_, ?_⟩
      · rw [Str.length_append]
        exact sz (by show 2 + _ + 2 ≤ _; omega)
      refine ⟨.str "if", rfl, rfl, _, rfl, if_no (str_n (by decide +kernel)) ?_⟩
      refine ⟨.str "if", rfl, sz (by show 2 ≤ 100000; decide), fun t1 nt1 => ⟨t1, _, rfl, .inr (SqT.of upd_same), rfl, rfl, _, rfl, if_no (by decide +kernel) ?_⟩⟩
      have s0 := s1.trans (same_new (o := .tup [.str "every", .str "some"]) nt1)
      refine ⟨.ref p, rfl, p, _, 1, x, rfl, rfl, SqT.of (s0 _ _ h), rfl, x, g, rfl, hg.mono (.of s0), hok.1, by omega, fun H2 s2 => ?_⟩
      refine ⟨"( ", fmS g, rfl, rfl, sz (by show 2 + _ ≤ _; omega), _, " )", rfl, rfl, ?_, ?_⟩
      · rw [Str.length_append]
        exact sz (by show 2 + _ + 2 ≤ _; omega)
      refine ⟨.str "if", rfl, rfl, _, rfl, if_yes (str_y (by decide +kernel)) ?_⟩
      refine ⟨_, rfl, "if ", _, rfl, rfl, ?_, _, " then ", rfl, rfl, ?_, _, rfl, _, _, rfl, rfl, ?_, ?_⟩
      · rw [Str.length_append, Str.length_append]
        exact sz (by show 3 + (2 + _ + 2) ≤ _; omega)
      · rw [Str.length_append, Str.length_append, Str.length_append]
        exact sz (by show 3 + (2 + _ + 2) + 6 ≤ _; omega)
      · rw [Str.length_append, Str.length_append, Str.length_append, Str.length_append, Str.length_append, Str.length_append]
        exact sz (by show 3 + (2 + _ + 2) + 6 + (2 + _ + 2) ≤ _; omega)
      have q1 := q H2 (s0.trans s2)
      rw [show fmS (.imp g g2) = "if " ++ ("( " ++ fmS g ++ " )") ++ " then " ++ ("( " ++ fmS g2 ++ " )") by show "if ( " ++ fmS g ++ " ) then ( " ++ fmS g2 ++ " )" = _; rw [show ("if ( " : Str) = "if " ++ "( " by decide +kernel, show (" ) then ( " : Str) = " )" ++ (" then " ++ "( ") by decide +kernel]; simp only [Str.append_assoc]] at q1
      exact q1
end
end K15
set_option Elab.async false
set_option linter.all false
set_option maxRecDepth 100000
set_option maxHeartbeats 4000000
namespace K15
open PySem PySem.Spec PyProof.Rows L2 Lc
/-! ### the deck: a list of cells, a number, a number -/
def Dk (d c : Addr) (H : Hp) : Prop := ∃ (cells : List Int) (n s : Int), H d = some (.lst [.ref c, .int n, .int s]) ∧ H c = some (.lst (cells.map V.int)) ∧ cells.length ≤ 63
abbrev MD (d c : Addr) : Addr → Prop := fun b => b = d ∨ b = c
theorem lst_ne {c : Addr} {n s : Int} (cells : List Int) : HO.lst [.ref c, .int n, .int s] ≠ HO.lst (cells.map V.int) := by
  intro z
  have z := HO.lst.inj z
  cases cells with
  | nil => cases z
  | cons x r => cases z
theorem Dk.ne {d c : Addr} {H : Hp} (h : Dk d c H) : d ≠ c := by
  obtain ⟨cells, _, _, h1, h2, _⟩ := h
  exact ne_of h1 h2 (lst_ne cells)
theorem Dk.keep {d c : Addr} {H : Hp} {p : Addr} {o : HO} (h : Dk d c H) (hp : ¬ MD d c p) : Dk d c (upd H p o) := by
  obtain ⟨cells, n, s, h1, h2, h3⟩ := h
  exact ⟨cells, n, s, by rw [upd_ne (fun e => hp (.inl e.symm))]; exact h1, by rw [upd_ne (fun e => hp (.inr e.symm))]; exact h2, h3⟩
theorem Dk.out {d c : Addr} {H : Hp} {p : Addr} (h : Dk d c H) (hp : H p = none) : ¬ MD d c p := by
  obtain ⟨cells, n, s, h1, h2, h3⟩ := h
  rintro (rfl | rfl)
  · rw [hp] at h1; cases h1
  · rw [hp] at h2; cases h2
theorem Dk.new {d c : Addr} {H : Hp} {p : Addr} {o : HO} (h : Dk d c H) (hp : H p = none) : Dk d c (upd H p o) := h.keep (h.out hp)
theorem Dk.tup {d c : Addr} {H : Hp} {p : Addr} {xs : List V} (h : Dk d c H) (hp : H p = some (.tup xs)) : ¬ MD d c p := by
  obtain ⟨cells, n, s, h1, h2, h3⟩ := h
  rintro (rfl | rfl)
  · rw [hp] at h1; cases h1
  · rw [hp] at h2; cases h2
theorem Dk.tle {d c : Addr} {H H' : Hp} (h : Dk d c H) (f : Fr (MD d c) H H') : TLe H H' := fun p xs e => f.at e (h.tup e)
section
variable {P : Program} {w : World} {K : PySem.W.Frag} {mg : Str → Option Value} {base : Heap} {f : Addr} {fd : FuncData}
abbrev s_w_deck : Stmt := topS 6
abbrev N_w_deck : List Str := ["_law_script", "_law_cell"]
theorem sc_w_deck : FnScope N_w_deck ["_law_script"] (defScope s_w_deck) := ⟨rfl, rfl, rfl, by decide +kernel, rfl, by decide +kernel, by decide +kernel⟩
def spDeck (K : PySem.W.Frag) : Sp := fun vs H Q _ => ∃ (a : Addr) (ns : List Int), vs = [.ref a] ∧ SqL K H a (ns.map V.int) ∧ ∀ d c H', Same H H' → Dk d c H' → Q (.ref d) H'
theorem ok_w_deck {k : Nat} (F : Fun K "_law_deck" "_law_deck" s_w_deck f fd) (m_list : mg "list" = none) (m_sum : mg "sum" = none) : FnOk P w K mg base CX0 (k + 1) f fd ["_law_script"] (spDeck K) := by
  refine F.ok sc_w_deck (fun vs H Q E h => ?_) (fun cdv A outer s H vs Q E hr h => ?_)
  · obtain ⟨a, ns, rfl, _⟩ := h
    rfl
  · obtain ⟨a, ns, rfl, hS, q⟩ := h
    refine ⟨_, (pss_one (ps_ret (pe_lst (pa_cons (pe_callTy call_list_of (by rfl) m_list (by decide +kernel) (pa_cons (pe_slice sl_list (pv 0) po_none (po_some pe_int)) pa_nil)) (pa_cons pe_int (pa_cons (pe_callB (cr_sum rfl) (by rfl) m_sum (by decide +kernel) (pa_cons (pe_lc (own := [("_law_cell", 1)]) (g := gName 1) (tt := tYes) rfl sc_w_deck.nd (pi_list (pe_slice sl_list (pv 0) po_none (po_some pe_int))) (blkOk_by (N := N_w_deck) (sc := defScope s_w_deck) (by decide +kernel)) (fun _ _ _ _ _ => pg_name (i := 1) sc_w_deck.nd rfl (Or.inl rfl)) (fun _ _ _ _ _ => pts_nil) (fun _ _ _ _ _ => (pe_op op_mod (pv 1) pe_int))) pa_nil)) pa_nil)))))), ?_⟩
    have ec : cutV (ns.map V.int) none (some 63) = (ns.take 63).map V.int := by
      rw [show (63 : Int) = ((63 : Nat) : Int) from rfl, cut_to, List.map_take]
    have l63 : (ns.take 63).length ≤ 63 := by
      rw [List.length_take]
      omega
    generalize ns.take 63 = nt at ec l63
    refine ⟨.ref a, rfl, _, rfl, a, _, rfl, hS, fun p np => ?_⟩
    rw [ec]
    refine ⟨p, _, rfl, .inl (SqL.of upd_same), fun c nc => ?_⟩
    have s2 : Same H (upd (upd H p (.lst (nt.map V.int))) c (.lst (nt.map V.int))) := (same_new np).trans (same_new nc)
    have hc : (upd (upd H p (.lst (nt.map V.int))) c (.lst (nt.map V.int))) c = some (.lst (nt.map V.int)) := upd_same
    generalize (upd (upd H p (.lst (nt.map V.int))) c (.lst (nt.map V.int))) = H2 at s2 hc ⊢
    refine ⟨.ref a, rfl, _, rfl, a, _, rfl, s2.seq hS, fun p2 np2 => ?_⟩
    rw [ec]
    refine ⟨p2, rfl, ⟨_, SqL.of upd_same⟩, fun D nD => ?_⟩
    have hp2 : (upd H2 p2 (.lst (nt.map V.int))) p2 = some (.lst (nt.map V.int)) := upd_same
    have s3 : Same H2 (upd H2 p2 (.lst (nt.map V.int))) := same_new np2
    generalize (upd H2 p2 (.lst (nt.map V.int))) = H3 at nD hp2 s3 ⊢
    refine lc_list (K := K) (a := p2) (xs := nt.map V.int) (fun i H' => H' = upd H3 D (.lst (((nt.take i).map (fun x => x % 1000003)).map V.int))) rfl (fun i H' hi e => ?_) (fun i x H' hx e => ?_) (fun H' e => ?_)
    · subst e
      exact SqL.of (same_new nD _ _ hp2)
    · subst e
      rw [List.getElem?_map] at hx
      cases hw : nt[i]? with
      | none => rw [hw] at hx; cases hx
      | some z =>
        rw [hw] at hx
        have ex : x = .int z := (Option.some.inj hx).symm
        subst ex
        refine ⟨rfl, yes_if ⟨.int z, rfl, z, 1000003, rfl, rfl, (show (0 : Int) < 1000003 by decide), _, upd_same, ?_, ?_⟩⟩
        · rw [List.length_map, List.length_map, List.length_take]
          exact szl (by omega)
        · rw [upd_upd, List.take_add_one, hw, List.map_append, List.map_append]
          rfl
    · subst e
      refine ⟨D, _, rfl, SqL.of upd_same, sz (by show 3 ≤ 100000; decide), fun d nd => ?_⟩
      have s4 : Same H3 (upd H3 D (.lst (((List.take (nt.map V.int).length nt).map (fun x => x % 1000003)).map V.int))) := same_new nD
      have hc4 := s4 _ _ (s3 _ _ hc)
      refine q d c _ ((s2.trans (s3.trans s4)).trans (same_new nd)) ⟨nt, 0, _, upd_same, ?_, l63⟩
      rw [upd_ne (ne_of_none hc4 nd)]
      exact hc4
/-! ### a draw -/
abbrev s_w_draw : Stmt := topS 7
abbrev N_w_draw : List Str := ["_law_deck_here", "_law_most", "_law_cell", "_law_number"]
theorem sc_w_draw : FnScope N_w_draw ["_law_deck_here", "_law_most"] (defScope s_w_draw) := ⟨rfl, rfl, rfl, by decide +kernel, rfl, by decide +kernel, by decide +kernel⟩
def spDraw : Sp := fun vs H Q _ => ∃ (d c : Addr) (m : Int), vs = [.ref d, .int m] ∧ Dk d c H ∧ 0 < m ∧ m < 1073741824 ∧ ∀ r H', 0 ≤ r → r < m → Fr (MD d c) H H' → Dk d c H' → Q (.int r) H'
theorem ok_w_draw {k : Nat} (F : Fun K "_law_draw" "_law_draw" s_w_draw f fd) : FnOk P w K mg base CX0 (k + 1) f fd ["_law_deck_here", "_law_most"] spDraw := by
  refine F.ok sc_w_draw (fun vs H Q E h => ?_) (fun cdv A outer s H vs Q E hr h => ?_)
  · obtain ⟨d, c, m, rfl, _⟩ := h
    rfl
  · obtain ⟨d, c, m, rfl, ⟨cells, n, sm, hd, hc, hl⟩, hm, hm2, q⟩ := h
    refine ⟨_, (pss_cons (ps_asg (pe_op op_add (pe_ix ix_list (pv 0) pe_int (fun _ _ => rfl)) pe_int) (pg_sub (pv 0) pe_int set_list))
      (pss_cons (ps_set (i := 2) sc_w_draw.nd rfl (.inl rfl) (pe_op op_add (pe_ix ix_list (pv 0) pe_int (fun _ _ => rfl)) (pe_op op_mul pe_int (pe_ix ix_list (pv 0) pe_int (fun _ _ => rfl)))))
      (Evl.pss_cut (ps_if (pt_cmpR (op_neNil hr.units0) (pe_ix ix_list (pv 0) pe_int (fun _ _ => rfl)) (pe_lst pa_nil) (nomark _))
      (pss_cons (ps_set (i := 2) sc_w_draw.nd rfl (.inl rfl) (pe_bm PySem.F.plainAttrs_list PySem.F.slot_list_pop PySem.F.type_list_pop mt_popAt (pe_ix ix_list (pv 0) pe_int (fun _ _ => rfl)) (pa_cons pe_int pa_nil)))
        (pss_one (ps_if (pt_cmpR op_ge (pv 2) (pe_op op_pow pe_int pe_int) (nomark _))
        (pss_cons (ps_expr (pe_bm PySem.F.plainAttrs_list PySem.F.slot_list_insert PySem.F.type_list_insert mt_insert (pe_ix ix_list (pv 0) pe_int (fun _ _ => rfl)) (pa_cons pe_int (pa_cons (pe_op op_fdiv (pv 2) (pv 1)) pa_nil))))
          (pss_one (ps_ret (pe_op op_mod (pv 2) (pv 1)))))
        pss_nil)))
      pss_nil)
      (pss_cons (ps_set (i := 3) sc_w_draw.nd rfl (.inl rfl) (pe_op op_mod (pe_op op_mul (pe_op op_add (pe_op op_mod (pv 2) pe_int) (pe_op op_mul pe_int (pe_ix ix_list (pv 0) pe_int (fun _ _ => rfl)))) pe_int) pe_int))
      (pss_cons (ps_set (i := 3) sc_w_draw.nd rfl (.inl rfl) (pe_op op_mod (pe_op op_add (pe_op op_add (pe_op op_mul (pv 3) (pv 3)) (pe_op op_mul pe_int (pv 3))) (pe_ix ix_list (pv 0) pe_int (fun _ _ => rfl))) pe_int))
      (pss_one (ps_ret (pe_op op_mod (pe_op op_fdiv (pv 3) pe_int) (pv 1))))))))), ?_⟩
    have ndc : d ≠ c := ne_of hd hc (lst_ne cells)
    refine ⟨.ref d, rfl, d, _, 1, .int n, rfl, rfl, SqL.of hd, rfl, n, 1, rfl, rfl, .ref d, rfl, d, _, 1, 1, rfl, rfl, hd, rfl, ?_⟩
    have hd1 : (upd H d (.lst [.ref c, .int (n + 1), .int sm])) d = some (.lst [.ref c, .int (n + 1), .int sm]) := upd_same
    have hc1 : (upd H d (.lst [.ref c, .int (n + 1), .int sm])) c = some (.lst (cells.map V.int)) := by rw [upd_ne ndc.symm]; exact hc
    have f1 : Fr (MD d c) H (upd H d (.lst [.ref c, .int (n + 1), .int sm])) := Fr.mut (.inl rfl)
    show tSeq _ _ _ _ (upd H d (.lst [.ref c, .int (n + 1), .int sm]))
    generalize (upd H d (.lst [.ref c, .int (n + 1), .int sm])) = H1 at hd1 hc1 f1 ⊢
    refine ⟨.ref d, rfl, d, _, 2, .int sm, rfl, rfl, SqL.of hd1, rfl, .ref d, rfl, d, _, 1, .int (n + 1), rfl, rfl, SqL.of hd1, rfl, 104729, n + 1, rfl, rfl, .inl ⟨by decide, by decide⟩, sm, _, rfl, rfl, ?_⟩
    refine ⟨fun σ H' => ∃ cell : Int, σ = [some (.ref d), some (.int m), some (.int cell), none] ∧ Fr (MD d c) H H' ∧ Dk d c H' ∧ H' d = some (.lst [.ref c, .int (n + 1), .int sm]), ?_, ?_⟩
    · refine ⟨.ref d, rfl, d, _, 0, .ref c, rfl, rfl, SqL.of hd1, rfl, Nat.zero_le _, fun o no => ?_⟩
      have hd2 : (upd H1 o (.lst [])) d = some (.lst [.ref c, .int (n + 1), .int sm]) := by rw [upd_ne (ne_of_none hd1 no)]; exact hd1
      have hc2 : (upd H1 o (.lst [])) c = some (.lst (cells.map V.int)) := by rw [upd_ne (ne_of_none hc1 no)]; exact hc1
      have f2 : Fr (MD d c) H (upd H1 o (.lst [])) := f1.trans (Fr.new no)
      have ho2 : (upd H1 o (.lst [])) o = some (.lst []) := upd_same
      generalize upd H1 o (.lst []) = H2 at hd2 hc2 f2 ho2 ⊢
      refine ⟨c, o, _, rfl, rfl, SqL.of hc2, SqL.of ho2, _, rfl, ?_⟩
      cases cells with
      | nil => exact if_no rfl ⟨_, rfl, f2, ⟨[], n + 1, sm, hd2, hc2, by simp⟩, hd2⟩
      | cons x r =>
        refine if_yes rfl ?_
        have hl' : r.length + 1 ≤ 63 := hl
        refine ⟨.ref d, rfl, d, _, 0, .ref c, rfl, rfl, SqL.of hd2, rfl, .inl ⟨rfl, _, SqL.of hc2⟩, c, _, 0, 0, .int x, rfl, rfl, hc2, (by decide), (by decide), ?_, rfl, ?_⟩
        · show seqIndex? 0 ((x :: r).map V.int).length = some 0
          rw [List.length_map, List.length_cons]
          simp [seqIndex?]
        · have hd3 : (upd H2 c (.lst (r.map V.int))) d = some (.lst [.ref c, .int (n + 1), .int sm]) := by rw [upd_ne ndc]; exact hd2
          have hc3 : (upd H2 c (.lst (r.map V.int))) c = some (.lst (r.map V.int)) := upd_same
          have f3 : Fr (MD d c) H (upd H2 c (.lst (r.map V.int))) := f2.trans (Fr.mut (.inr rfl))
          rw [show (List.map V.int (x :: r)).eraseIdx 0 = r.map V.int from rfl]
          generalize upd H2 c (.lst (r.map V.int)) = H3 at hd3 hc3 f3 ⊢
          refine ⟨.int x, rfl, 10, 18, rfl, rfl, ⟨by decide, by decide, by decide⟩, _, _, rfl, rfl, _, rfl, ite2 (fun e => ?_) (fun e => ?_)⟩
          · refine ⟨.ref d, rfl, d, _, 0, .ref c, rfl, rfl, SqL.of hd3, rfl, .inl ⟨rfl, _, SqL.of hc3⟩, .int x, rfl, .int m, rfl, x, m, rfl, rfl, ⟨hm, hm2⟩, c, _, 0, _, rfl, rfl, hc3, ?_, (by decide), (by decide), ?_⟩
            · rw [List.length_map]
              exact szl (by omega)
            · have hd4 : (upd H3 c (.lst ((x / m :: r).map V.int))) d = some (.lst [.ref c, .int (n + 1), .int sm]) := by rw [upd_ne ndc]; exact hd3
              have f4 : Fr (MD d c) H (upd H3 c (.lst ((x / m :: r).map V.int))) := f3.trans (Fr.mut (.inr rfl))
              refine ⟨.int x, rfl, .int m, rfl, x, m, rfl, rfl, hm, ?_⟩
              exact q _ (upd H3 c (.lst ((x / m :: r).map V.int))) (Int.emod_nonneg _ (by omega)) (Int.emod_lt_of_pos _ hm) f4 ⟨x / m :: r, n + 1, sm, hd4, upd_same, hl⟩
          · exact ⟨x, rfl, f3, ⟨r, n + 1, sm, hd3, hc3, by omega⟩, hd3⟩
    · rintro σ H2 ⟨cell, rfl, f2, k2, hd2⟩
      refine ⟨.int cell, rfl, cell, _, rfl, rfl, (show (0 : Int) < 2147483629 by decide), .ref d, rfl, d, _, 1, .int (n + 1), rfl, rfl, SqL.of hd2, rfl, 7919, n + 1, rfl, rfl, .inl ⟨by decide, by decide⟩, _, _, rfl, rfl, _, _, rfl, rfl, .inr ⟨by decide, by decide⟩, _, _, rfl, rfl, (show (0 : Int) < 2147483647 by decide), ?_⟩
      generalize hz : ((cell % 2147483629 + 7919 * (n + 1)) * 48271) % 2147483647 = z
      have z0 : 0 ≤ z := by rw [← hz]; exact Int.emod_nonneg _ (by decide)
      have z1 : z < 2147483647 := by rw [← hz]; exact Int.emod_lt_of_pos _ (by decide)
      show tSeq _ _ _ [some (.ref d), some (.int m), some (.int cell), some (.int (((cell % 2147483629 + 7919 * (n + 1)) * 48271) % 2147483647))] H2
      rw [hz]
      refine ⟨.int z, rfl, .int z, rfl, z, z, rfl, rfl, .inl ⟨by omega, by omega⟩, .int z, rfl, 69621, z, rfl, rfl, .inl ⟨by decide, by decide⟩, _, _, rfl, rfl, .ref d, rfl, d, _, 1, .int (n + 1), rfl, rfl, SqL.of hd2, rfl, _, _, rfl, rfl, _, _, rfl, rfl, (show (0 : Int) < 2147483587 by decide), ?_⟩
      refine ⟨_, rfl, _, _, rfl, rfl, ⟨by decide, by decide⟩, .int m, rfl, _, m, rfl, rfl, hm, ?_⟩
      exact q _ H2 (Int.emod_nonneg _ (by omega)) (Int.emod_lt_of_pos _ hm) f2 k2
end
end K15
set_option Elab.async false
set_option linter.all false
set_option maxRecDepth 100000
set_option maxHeartbeats 4000000
namespace K15
open PySem PySem.Spec PyProof.Rows L2 Lc
/-- words of at most eight signs -/
def Tks (ws : List Str) : Prop := ∀ x ∈ ws, x.length ≤ 8
def abcL : List Nat := (List.range 26).map fun i => 97 + i
def ABCL : List Nat := (List.range 26).map fun i => 65 + i
theorem abc_eq : ("abcdefghijklmnopqrstuvwxyz" : Str) = tx abcL := by decide +kernel
theorem ABC_eq : Txt.upper ("abcdefghijklmnopqrstuvwxyz" : Str) = tx ABCL := by decide +kernel
theorem abc_at {i : Int} (h0 : 0 ≤ i) (h : i < 26) : atI ("abcdefghijklmnopqrstuvwxyz" : Str).cps.toList i = some (97 + i.toNat) := by
  rw [show i = ((i.toNat : Nat) : Int) by omega]
  refine atI_nat ?_
  rw [abc_eq, tx_cps]
  unfold abcL
  rw [List.getElem?_map, List.getElem?_range (by omega)]
  rfl
theorem ABC_at {i : Int} (h0 : 0 ≤ i) (h : i < 26) : atI (Txt.upper ("abcdefghijklmnopqrstuvwxyz" : Str)).cps.toList i = some (65 + i.toNat) := by
  rw [show i = ((i.toNat : Nat) : Int) by omega]
  refine atI_nat ?_
  rw [ABC_eq, tx_cps]
  unfold ABCL
  rw [List.getElem?_map, List.getElem?_range (by omega)]
  rfl
theorem abc_len : ("abcdefghijklmnopqrstuvwxyz" : Str).length = 26 := by decide +kernel
theorem up_len : (Txt.upper ("abcdefghijklmnopqrstuvwxyz" : Str)).length = 26 := by decide +kernel
theorem Fr.lst {d c : Addr} {H H' : Hp} {p : Addr} {xs : List V} (f : Lc.Fr (MD d c) H H') (h : H p = some (.lst xs)) (n : ¬ MD d c p) : H' p = some (.lst xs) := f.at h n
/-- an item of a written row of numbers, drawn -/
theorem atI_lt {α : Type} {xs : List α} {r : Int} (h0 : 0 ≤ r) (h : r < xs.length) : ∃ v, v ∈ xs ∧ atI xs r = some v := by
  have hn : r.toNat < xs.length := by omega
  refine ⟨xs[r.toNat], List.getElem_mem hn, ?_⟩
  have := atI_nat (xs := xs) (j := r.toNat) (List.getElem?_eq_getElem hn)
  rw [show ((r.toNat : Nat) : Int) = r by omega] at this
  exact this
section
variable {P : Program} {w : World} {K : PySem.W.Frag} {mg : Str → Option Value} {base : Heap} {f : Addr} {fd : FuncData}
abbrev s_w_row : Stmt := topS 8
abbrev N_w_row : List Str := ["_law_deck_here", "_law_many", "_law_great_here", "_law_small", "_law_own", "_law_first", "_law_step", "_law_found", "_law_k", "_law_word", "_law_j"]
theorem sc_w_row : FnScope N_w_row ["_law_deck_here", "_law_many", "_law_great_here"] (defScope s_w_row) := ⟨rfl, rfl, rfl, by decide +kernel, rfl, by decide +kernel, by decide +kernel⟩
def spRow : Sp := fun vs H Q _ => ∃ (d c : Addr) (many great : Nat), vs = [.ref d, .int many, .int great] ∧ Dk d c H ∧ many ≤ 9 ∧ great ≤ 1 ∧
  ∀ (ws : List Str) (p : Addr) H', ws.length = many → Tks ws → H p = none → H' p = some (.lst (ws.map V.str)) → Lc.Fr (MD d c) H H' → Dk d c H' → Q (.ref p) H'
abbrev rowS (d : Addr) (many great : Nat) (oa : Addr) (fi st : Int) (fo : Addr) (y8 y9 y10 : Option V) : L2.St := [some (.ref d), some (.int many), some (.int great), some (.str "abcdefghijklmnopqrstuvwxyz"), some (.ref oa), some (.int fi), some (.int st), some (.ref fo), y8, y9, y10]
theorem ok_w_row {k : Nat} (F : Fun K "_law_row" "_law_row" s_w_row f fd) (m_range : mg "range" = none) (m_len : mg "len" = none) (C_w_draw : Dn P w K mg base "_law_draw" ["_law_deck_here", "_law_most"] 1 spDraw) :
    FnOk P w K mg base CX0 (k + 2) f fd ["_law_deck_here", "_law_many", "_law_great_here"] spRow := by
  refine F.ok sc_w_row (fun vs H Q E h => ?_) (fun cdv A outer s H vs Q E hr h => ?_)
  · obtain ⟨d, c, many, great, rfl, _⟩ := h
    rfl
  · obtain ⟨d, c, many, great, rfl, hD, hmany, hgr, q⟩ := h
    refine ⟨_, (pss_cons (ps_set (i := 3) sc_w_row.nd rfl (.inl rfl) pe_str)
      (pss_cons (ps_set (i := 4) sc_w_row.nd rfl (.inl rfl) pe_str)
      (pss_cons (ps_set (i := 4) sc_w_row.nd rfl (.inl rfl) (pe_split (pe_op op_add_str (pv 4) pe_str) pe_str))
      (pss_cons (ps_set (i := 5) sc_w_row.nd rfl (.inl rfl) (Lc.pe_dn C_w_draw (hr.mono (by omega)) (by rfl) (pa_cons (pv 0) (pa_cons pe_int pa_nil))))
      (pss_cons (ps_set (i := 6) sc_w_row.nd rfl (.inl rfl) (pe_ix ix_list (pe_lst (pa_cons pe_int (pa_cons pe_int (pa_cons pe_int (pa_cons pe_int pa_nil))))) (Lc.pe_dn C_w_draw (hr.mono (by omega)) (by rfl) (pa_cons (pv 0) (pa_cons pe_int pa_nil))) (fun _ _ => rfl)))
      (pss_cons (ps_set (i := 7) sc_w_row.nd rfl (.inl rfl) (pe_lst pa_nil))
      (pss_cons (ps_for PassesOwn.never rfl (pi_range1 (by rfl) m_range (pa_cons (pv 1) pa_nil)) (pg_name (i := 8) sc_w_row.nd rfl (.inl rfl))
      (pss_cons (ps_set (i := 9) sc_w_row.nd rfl (.inl rfl) (pe_ix ix_str (pe_ix ix_list (pe_lst (pa_cons (pv 3) (pa_cons (pe_upper (pv 3)) pa_nil))) (pv 2) (fun _ _ => rfl)) (pe_op op_mod (pe_op op_add (pv 5) (pe_op op_mul (pv 8) (pv 6))) pe_int) (fun _ _ => rfl)))
        (pss_cons (ps_for PassesOwn.never rfl (pi_range1 (by rfl) m_range (pa_cons (pe_op op_add (pe_op op_sub pe_int (pv 2)) (Lc.pe_dn C_w_draw (hr.mono (by omega)) (by rfl) (pa_cons (pv 0) (pa_cons (pe_ix ix_list (pe_lst (pa_cons pe_int (pa_cons pe_int pa_nil))) (Lc.pe_dn C_w_draw (hr.mono (by omega)) (by rfl) (pa_cons (pv 0) (pa_cons pe_int pa_nil))) (fun _ _ => rfl)) pa_nil)))) pa_nil)) (pg_name (i := 10) sc_w_row.nd rfl (.inl rfl))
        (pss_one (ps_set (i := 9) sc_w_row.nd rfl (.inl rfl) (pe_op op_add_str (pv 9) (pe_ix ix_str (pv 3) (Lc.pe_dn C_w_draw (hr.mono (by omega)) (by rfl) (pa_cons (pv 0) (pa_cons pe_int pa_nil))) (fun _ _ => rfl))))))
        (Evl.pss_cut (ps_if (PW.pt (pw_and (pt_cmpR op_gt (pv 8) pe_int (nomark _)) (pw_and (pt_cmpR op_eq (Lc.pe_dn C_w_draw (hr.mono (by omega)) (by rfl) (pa_cons (pv 0) (pa_cons pe_int pa_nil))) pe_int (nomark _)) (pw_and1 (pt_cmpR op_lt (pe_callB call_len_str (by rfl) m_len (by decide +kernel) (pa_cons (pe_ix ix_list (pv 7) (pe_un un_neg pe_int) (fun _ _ => rfl)) pa_nil)) pe_int (nomark _))))))
        (pss_one (ps_set (i := 9) sc_w_row.nd rfl (.inl rfl) (pe_op op_add_str (pe_ix ix_list (pv 7) (pe_un un_neg pe_int) (fun _ _ => rfl)) (pe_ix ix_str (pv 3) (Lc.pe_dn C_w_draw (hr.mono (by omega)) (by rfl) (pa_cons (pv 0) (pa_cons pe_int pa_nil))) (fun _ _ => rfl)))))
        pss_nil)
        (Evl.pss_cut (ps_if (pt_cmpR op_in_seq (pv 9) (pv 4) (by rfl))
        (pss_one (ps_set (i := 9) sc_w_row.nd rfl (.inl rfl) (pe_op op_add_str (pe_slice sl_str (pv 9) po_none (po_some pe_int)) pe_str)))
        pss_nil)
        (pss_one (ps_expr (pe_bm PySem.F.plainAttrs_list PySem.F.slot_list_append PySem.F.type_list_append mt_append (pv 7) (pa_cons (pv 9) pa_nil)))))))))
      (pss_one (ps_ret (pv 7)))))))))), ?_⟩
    -- own
    refine ⟨_, rfl, _, _, rfl, rfl, sz (by decide +kernel), ⟨_, rfl⟩, _, " ", rfl, rfl, rfl, (show _ + 2 ≤ sizeLine from sz (by decide +kernel)), fun oa noa => ?_⟩
    generalize Txt.split _ _ = ow
    have nMo := hD.out noa
    have h1 : (upd H oa (.lst (ow.map V.str))) oa = some (.lst (ow.map V.str)) := upd_same
    have D1 : Dk d c (upd H oa (.lst (ow.map V.str))) := hD.new noa
    have f1 : Lc.Fr (MD d c) H (upd H oa (.lst (ow.map V.str))) := Fr.new noa
    generalize (upd H oa (.lst (ow.map V.str))) = H1 at h1 D1 f1 ⊢
    -- first, step
    refine ⟨.ref d, rfl, d, c, 26, rfl, D1, by decide, by decide, fun fi H2 _ _ f2 D2 => ?_⟩
    have h2 := f2.at h1 nMo
    have f2 := f1.trans f2
    refine ⟨sz (by show 4 ≤ 100000; decide), fun l nl => ?_⟩
    have nMl := D2.out nl
    have h3 : (upd H2 l (.lst [.int 1, .int 3, .int 5, .int 7])) oa = some (.lst (ow.map V.str)) := by rw [upd_ne (ne_of_none h2 nl)]; exact h2
    have D3 : Dk d c (upd H2 l (.lst [.int 1, .int 3, .int 5, .int 7])) := D2.new nl
    have f3 : Lc.Fr (MD d c) H (upd H2 l (.lst [.int 1, .int 3, .int 5, .int 7])) := f2.trans (Fr.new nl)
    have hl3 : (upd H2 l (.lst [.int 1, .int 3, .int 5, .int 7])) l = some (.lst [.int 1, .int 3, .int 5, .int 7]) := upd_same
    generalize (upd H2 l (.lst [.int 1, .int 3, .int 5, .int 7])) = H3 at h3 D3 f3 hl3 ⊢
    refine ⟨.ref d, rfl, d, c, 4, rfl, D3, by decide, by decide, fun r H4 r0 r1 f4 D4 => ?_⟩
    have h4 := f4.at h3 nMo
    have hl4 := f4.at hl3 nMl
    have f4 := f3.trans f4
    obtain ⟨st, hst⟩ : ∃ st : Int, atI ([.int 1, .int 3, .int 5, .int 7] : List V) r = some (.int st) := by
      obtain ⟨v, hv, e⟩ := atI_lt (xs := ([.int 1, .int 3, .int 5, .int 7] : List V)) r0 (by show r < 4; omega)
      simp only [List.mem_cons, List.not_mem_nil, or_false] at hv
      rcases hv with rfl | rfl | rfl | rfl <;> exact ⟨_, e⟩
    refine ⟨l, _, r, .int st, rfl, rfl, SqL.of hl4, hst, ?_⟩
    -- found
    refine ⟨Nat.zero_le _, fun fo nfo => ?_⟩
    have nMf := D4.out nfo
    have nfH : H fo = none := f4.free nfo
    have neo : oa ≠ fo := ne_of_none h4 nfo
    refine ⟨.int many, rfl, _, rfl, by omega, by omega, ?_⟩
    refine for_range (lo := 0) (n := (many : Int).toNat) (fun i σ H' => ∃ (ws : List Str) (y8 y9 y10 : Option V), σ = rowS d many great oa fi st fo y8 y9 y10 ∧ Lc.Fr (MD d c) H H' ∧ Dk d c H' ∧ H' oa = some (.lst (ow.map V.str)) ∧ H' fo = some (.lst (ws.map V.str)) ∧ ws.length = i ∧ Tks ws)
      ⟨[], none, none, none, rfl, f4.trans (Fr.new nfo), D4.new nfo, by rw [upd_ne neo]; exact h4, upd_same, rfl, (fun _ z => nomatch z)⟩ (fun i σ H' hi ⟨ws, y8, y9, y10, e1, g1, G1, go, gf, hl, hw⟩ => ?_) (fun σ H' ⟨ws, y8, y9, y10, e1, g1, G1, go, gf, hl, hw⟩ => ?_)
    · subst e1
      -- the first sign
      refine ⟨_, rfl, .str "abcdefghijklmnopqrstuvwxyz", rfl, ⟨_, rfl⟩, _, rfl, rfl, (by decide +kernel), sz (by show 2 ≤ 100000; decide), fun l2 nl2 => ?_⟩
      have go2 : (upd H' l2 (.lst [.str "abcdefghijklmnopqrstuvwxyz", .str (Txt.upper "abcdefghijklmnopqrstuvwxyz")])) oa = some (.lst (ow.map V.str)) := by rw [upd_ne (ne_of_none go nl2)]; exact go
      have gf2 : (upd H' l2 (.lst [.str "abcdefghijklmnopqrstuvwxyz", .str (Txt.upper "abcdefghijklmnopqrstuvwxyz")])) fo = some (.lst (ws.map V.str)) := by rw [upd_ne (ne_of_none gf nl2)]; exact gf
      have G2 : Dk d c (upd H' l2 (.lst [.str "abcdefghijklmnopqrstuvwxyz", .str (Txt.upper "abcdefghijklmnopqrstuvwxyz")])) := G1.new nl2
      have g2 : Lc.Fr (MD d c) H (upd H' l2 (.lst [.str "abcdefghijklmnopqrstuvwxyz", .str (Txt.upper "abcdefghijklmnopqrstuvwxyz")])) := g1.trans (Fr.new nl2)
      have hl2 : (upd H' l2 (.lst [.str "abcdefghijklmnopqrstuvwxyz", .str (Txt.upper "abcdefghijklmnopqrstuvwxyz")])) l2 = some (.lst [.str "abcdefghijklmnopqrstuvwxyz", .str (Txt.upper "abcdefghijklmnopqrstuvwxyz")]) := upd_same
      generalize (upd H' l2 (.lst [.str "abcdefghijklmnopqrstuvwxyz", .str (Txt.upper "abcdefghijklmnopqrstuvwxyz")])) = H5 at go2 gf2 G2 g2 hl2 ⊢
      obtain ⟨al, hal, hall, halc⟩ : ∃ al : Str, atI ([.str "abcdefghijklmnopqrstuvwxyz", .str (Txt.upper "abcdefghijklmnopqrstuvwxyz")] : List V) (great : Int) = some (.str al) ∧ al.length = 26 ∧ ∀ j : Int, 0 ≤ j → j < 26 → ∃ cc, atI al.cps.toList j = some cc := by
        rcases (show great = 0 ∨ great = 1 by omega) with rfl | rfl
        · exact ⟨_, rfl, abc_len, fun j a b => ⟨_, abc_at a b⟩⟩
        · exact ⟨_, rfl, up_len, fun j a b => ⟨_, ABC_at a b⟩⟩
      obtain ⟨cc, hcc⟩ := halc ((fi + (0 + (i : Int)) * st) % 26) (Int.emod_nonneg _ (by decide)) (Int.emod_lt_of_pos _ (by decide))
      refine ⟨.int great, rfl, l2, _, _, .str al, rfl, rfl, SqL.of hl2, hal, .int fi, rfl, .int (0 + (i : Int)), rfl, .int st, rfl, _, st, rfl, rfl, .inl ⟨by omega, by omega⟩, fi, _, rfl, rfl, _, 26, rfl, rfl, (show (0 : Int) < 26 by decide), al, _, cc, rfl, rfl, sz (by omega), hcc, ?_⟩
      -- more signs
      refine ⟨.int great, rfl, 1, _, rfl, rfl, .ref d, rfl, sz (by show 2 ≤ 100000; decide), fun l3 nl3 => ?_⟩
      have go3 : (upd H5 l3 (.lst [.int 3, .int 7])) oa = some (.lst (ow.map V.str)) := by rw [upd_ne (ne_of_none go2 nl3)]; exact go2
      have gf3 : (upd H5 l3 (.lst [.int 3, .int 7])) fo = some (.lst (ws.map V.str)) := by rw [upd_ne (ne_of_none gf2 nl3)]; exact gf2
      have G3 : Dk d c (upd H5 l3 (.lst [.int 3, .int 7])) := G2.new nl3
      have g3 : Lc.Fr (MD d c) H (upd H5 l3 (.lst [.int 3, .int 7])) := g2.trans (Fr.new nl3)
      have hl3' : (upd H5 l3 (.lst [.int 3, .int 7])) l3 = some (.lst [.int 3, .int 7]) := upd_same
      have nMl3 := G2.out nl3
      generalize (upd H5 l3 (.lst [.int 3, .int 7])) = H6 at go3 gf3 G3 g3 hl3' ⊢
      refine ⟨.ref d, rfl, d, c, 2, rfl, G3, by decide, by decide, fun r2 H7 r2a r2b g4 G4 => ?_⟩
      have go4 := g4.at go3 nMo
      have gf4 := g4.at gf3 nMf
      have hl4' := g4.at hl3' nMl3
      have g4 := g3.trans g4
      obtain ⟨mo, hmo, hm1, hm2⟩ : ∃ mo : Int, atI ([.int 3, .int 7] : List V) r2 = some (.int mo) ∧ 0 < mo ∧ mo ≤ 7 := by
        obtain ⟨v, hv, e⟩ := atI_lt (xs := ([.int 3, .int 7] : List V)) r2a (by show r2 < 2; omega)
        simp only [List.mem_cons, List.not_mem_nil, or_false] at hv
        rcases hv with rfl | rfl
        · exact ⟨3, e, by decide, by decide⟩
        · exact ⟨7, e, by decide, by decide⟩
      refine ⟨l3, _, r2, .int mo, rfl, rfl, SqL.of hl4', hmo, d, c, mo, rfl, G4, hm1, by omega, fun r3 H8 r3a r3b g5 G5 => ?_⟩
      have go5 := g5.at go4 nMo
      have gf5 := g5.at gf4 nMf
      have g5 := g4.trans g5
      refine ⟨_, r3, rfl, rfl, _, rfl, by omega, by omega, ?_⟩
      refine for_range (lo := 0) (n := (1 - (great : Int) + r3).toNat) (fun j σ H'' => ∃ (wd : Str) (y10 : Option V), σ = rowS d many great oa fi st fo (some (.int (0 + (i : Int)))) (some (.str wd)) y10 ∧ Lc.Fr (MD d c) H H'' ∧ Dk d c H'' ∧ H'' oa = some (.lst (ow.map V.str)) ∧ H'' fo = some (.lst (ws.map V.str)) ∧ wd.length ≤ 1 + j)
        ⟨⟨#[cc]⟩, y10, rfl, g5, G5, go5, gf5, Nat.le_refl _⟩ (fun j σ H'' hj ⟨wd, y10, e1, g6, G6, go6, gf6, hwd⟩ => ?_) (fun σ H'' ⟨wd, y10, e1, g6, G6, go6, gf6, hwd⟩ => ?_)
      · subst e1
        refine ⟨.str wd, rfl, .str "abcdefghijklmnopqrstuvwxyz", rfl, .ref d, rfl, d, c, 26, rfl, G6, by decide, by decide, fun r4 H9 r4a r4b g7 G7 => ?_⟩
        refine ⟨_, r4, _, rfl, rfl, sz (by decide +kernel), abc_at r4a r4b, wd, _, rfl, rfl, (show wd.length + 1 ≤ sizeLine from sz (by omega)), wd ++ ⟨#[97 + r4.toNat]⟩, some (.int (0 + (j : Int))), rfl, g6.trans g7, G7, g7.at go6 nMo, g7.at gf6 nMf, ?_⟩
        rw [Str.length_append]
        show wd.length + 1 ≤ 1 + (j + 1)
        omega
      · subst e1
        have hwd8 : wd.length ≤ 8 := by omega
        -- perhaps the last one and a sign
        refine ⟨fun σ H3' => ∃ (wd : Str), σ = rowS d many great oa fi st fo (some (.int (0 + (i : Int)))) (some (.str wd)) y10 ∧ Lc.Fr (MD d c) H H3' ∧ Dk d c H3' ∧ H3' oa = some (.lst (ow.map V.str)) ∧ H3' fo = some (.lst (ws.map V.str)) ∧ wd.length ≤ 8, ?_, ?_⟩
        · refine ⟨.int (0 + (i : Int)), rfl, _, 0, rfl, rfl, _, rfl, ite2 (fun e => ?_) (fun e => ?_)⟩
          · have hi0 : (0 : Int) < 0 + (i : Int) := of_decide_eq_true e
            refine ⟨.ref d, rfl, d, c, 4, rfl, G6, by decide, by decide, fun r5 H9 r5a r5b g7 G7 => ?_⟩
            have go7 := g7.at go6 nMo
            have gf7 := g7.at gf6 nMf
            have g7 := g6.trans g7
            refine ⟨rfl, _, rfl, ite2 (fun e2 => ?_) (fun e2 => ?_)⟩
            · obtain ⟨ini, x, hx⟩ : ∃ ini x, ws = ini ++ [x] := by
                have : ws ≠ [] := fun z => by rw [z] at hl; simp at hl; omega
                exact ⟨_, _, (List.dropLast_concat_getLast this).symm⟩
              have hx8 : x.length ≤ 8 := hw x (by rw [hx]; simp)
              have hat : atI (ws.map V.str) (-1) = some (.str x) := by
                rw [hx, List.map_append]
                exact atI_last _ _
              refine ⟨.ref fo, rfl, 1, rfl, fo, _, -1, .str x, rfl, rfl, SqL.of gf7, hat, x, rfl, sz (by omega), _, 8, rfl, rfl, _, rfl, ite2 (fun e3 => ?_) (fun e3 => ?_)⟩
              · have hx7 : (x.length : Int) < 8 := of_decide_eq_true e3
                refine ⟨.ref fo, rfl, 1, rfl, fo, _, -1, .str x, rfl, rfl, SqL.of gf7, hat, .str "abcdefghijklmnopqrstuvwxyz", rfl, .ref d, rfl, d, c, 26, rfl, G7, by decide, by decide, fun r6 H10 r6a r6b g8 G8 => ?_⟩
                refine ⟨_, r6, _, rfl, rfl, sz (by decide +kernel), abc_at r6a r6b, x, _, rfl, rfl, (show x.length + 1 ≤ sizeLine from sz (by omega)), x ++ ⟨#[97 + r6.toNat]⟩, rfl, g7.trans g8, G8, g8.at go7 nMo, g8.at gf7 nMf, ?_⟩
                rw [Str.length_append]
                show x.length + 1 ≤ 8
                omega
              · exact ⟨wd, rfl, g7, G7, go7, gf7, hwd8⟩
            · exact ⟨wd, rfl, g7, G7, go7, gf7, hwd8⟩
          · exact ⟨wd, rfl, g6, G6, go6, gf6, hwd8⟩
        · rintro σ H9 ⟨wd, rfl, g7, G7, go7, gf7, hwd8⟩
          refine ⟨fun σ H3' => ∃ (wd : Str), σ = rowS d many great oa fi st fo (some (.int (0 + (i : Int)))) (some (.str wd)) y10 ∧ H3' = H9 ∧ wd.length ≤ 8, ?_, ?_⟩
          · refine ⟨.str wd, rfl, .ref oa, rfl, oa, _, rfl, .inl (SqL.of go7), rfl, flat_strs ow, _, rfl, ite2 (fun e => ?_) (fun e => ?_)⟩
            · have ew : wd = tx wd.cps.toList := tx_of wd
              refine ⟨.str wd, rfl, 7, rfl, wd, rfl, sz (by omega), _, "q", rfl, rfl, ?_, _, rfl, rfl, ?_⟩
              · rw [ew, show (7 : Int) = ((7 : Nat) : Int) from rfl, cutS_to, tx_len, List.length_take]
                show _ + 1 ≤ sizeLine
                exact sz (by omega)
              · rw [Str.length_append]
                rw [ew, show (7 : Int) = ((7 : Nat) : Int) from rfl, cutS_to, tx_len, List.length_take]
                show _ + 1 ≤ 8
                omega
            · exact ⟨wd, rfl, rfl, hwd8⟩
          · rintro σ H10 ⟨wd, rfl, rfl, hwd8⟩
            refine ⟨.ref fo, rfl, .inl ⟨rfl, _, SqL.of gf7⟩, .str wd, rfl, fo, _, _, rfl, rfl, gf7, ?_, ws ++ [wd], _, _, _, rfl, g7.own nfH, G7.keep nMf, ?_, ?_, ?_, ?_⟩
            · rw [List.length_map]
              exact szl (by omega)
            · rw [upd_ne neo]
              exact go7
            · rw [upd_same, List.map_append]
              rfl
            · rw [List.length_append, hl]
              rfl
            · intro x hx
              rcases List.mem_append.mp hx with hx | hx
              · exact hw x hx
              · have e : x = wd := by simpa using hx
                rw [e]
                exact hwd8
    · subst e1
      exact ⟨.ref fo, rfl, q ws fo H' (by omega) hw nfH gf g1 G1⟩
end
end K15
set_option Elab.async false
set_option linter.all false
set_option maxRecDepth 100000
set_option maxHeartbeats 4000000
namespace K15
open PySem PySem.Spec PyProof.Rows L2 Lc
section
variable {P : Program} {w : World} {K : PySem.W.Frag} {mg : Str → Option Value} {base : Heap} {f : Addr} {fd : FuncData}
/-! ### a vocabulary -/
structure VcOk (ns ks ds : List Str) : Prop where
  n : Tks ns
  k : Tks ks
  d : Tks ds
  nl : ns.length ≤ 6
  kl : ks.length ≤ 6
  dl : ds.length ≤ 6
def VcAt (H : Hp) (v : Addr) (ns ks ds : List Str) : Prop := ∃ a b c, H v = some (.tup [.ref a, .ref b, .ref c]) ∧ H a = some (.tup (ns.map V.str)) ∧ H b = some (.tup (ks.map V.str)) ∧ H c = some (.tup (ds.map V.str))
theorem VcAt.mono {H H' : Hp} (l : TLe H H') {v : Addr} {ns ks ds : List Str} (h : VcAt H v ns ks ds) : VcAt H' v ns ks ds := by
  obtain ⟨a, b, c, h1, h2, h3, h4⟩ := h
  exact ⟨a, b, c, l _ _ h1, l _ _ h2, l _ _ h3, l _ _ h4⟩
theorem Tks.sub {xs ys : List Str} (h : Tks xs) (s : ∀ y ∈ ys, y ∈ xs) : Tks ys := fun y hy => h y (s y hy)
abbrev s_w_vocabulary : Stmt := topS 9
abbrev N_w_vocabulary : List Str := ["_law_deck_here", "_law_sizes", "_law_words", "_law_turn", "_law_names"]
theorem sc_w_vocabulary : FnScope N_w_vocabulary ["_law_deck_here"] (defScope s_w_vocabulary) := ⟨rfl, rfl, rfl, by decide +kernel, rfl, by decide +kernel, by decide +kernel⟩
def spVoc : Sp := fun vs H Q _ => ∃ (d c : Addr), vs = [.ref d] ∧ Dk d c H ∧
  ∀ (ns ks ds : List Str) (v : Addr) H', VcOk ns ks ds → VcAt H' v ns ks ds → Lc.Fr (MD d c) H H' → Dk d c H' → Q (.ref v) H'
theorem ok_w_vocabulary {k : Nat} (F : Fun K "_law_vocabulary" "_law_vocabulary" s_w_vocabulary f fd) (m_len : mg "len" = none) (m_tuple : mg "tuple" = none) (m_sorted : mg "sorted" = none) (C_w_draw : Dn P w K mg base "_law_draw" ["_law_deck_here", "_law_most"] 1 spDraw)
    (C_w_row : Dn P w K mg base "_law_row" ["_law_deck_here", "_law_many", "_law_great_here"] 2 spRow) :
    FnOk P w K mg base CX0 (k + 3) f fd ["_law_deck_here"] spVoc := by
  refine F.ok sc_w_vocabulary (fun vs H Q E h => ?_) (fun cdv A outer s H vs Q E hr h => ?_)
  · obtain ⟨d, c, rfl, _⟩ := h
    rfl
  · obtain ⟨d, c, rfl, hD, q⟩ := h
    refine ⟨_, (pss_cons (ps_set (i := 1) sc_w_vocabulary.nd rfl (.inl rfl) (pe_lst (pa_cons (Lc.pe_dn C_w_draw (hr.mono (by omega)) (by rfl) (pa_cons (pv 0) (pa_cons pe_int pa_nil))) (pa_cons (Lc.pe_dn C_w_draw (hr.mono (by omega)) (by rfl) (pa_cons (pv 0) (pa_cons pe_int pa_nil))) (pa_cons (Lc.pe_dn C_w_draw (hr.mono (by omega)) (by rfl) (pa_cons (pv 0) (pa_cons pe_int pa_nil))) pa_nil)))))
      (Evl.pss_cut (ps_if (pt_cmpR op_eq (Lc.pe_dn C_w_draw (hr.mono (by omega)) (by rfl) (pa_cons (pv 0) (pa_cons pe_int pa_nil))) pe_int (nomark _))
      (pss_one (ps_set (i := 1) sc_w_vocabulary.nd rfl (.inl rfl) (pe_lst (pa_cons pe_int (pa_cons pe_int (pa_cons pe_int pa_nil))))))
      pss_nil)
      (pss_cons (ps_set (i := 2) sc_w_vocabulary.nd rfl (.inl rfl) (Lc.pe_dn C_w_row (hr.mono (by omega)) (by rfl) (pa_cons (pv 0) (pa_cons (pe_op op_add (pe_ix ix_list (pv 1) pe_int (fun _ _ => rfl)) (pe_ix ix_list (pv 1) pe_int (fun _ _ => rfl))) (pa_cons pe_int pa_nil)))))
      (pss_cons (ps_set (i := 3) sc_w_vocabulary.nd rfl (.inl rfl) (Lc.pe_dn C_w_draw (hr.mono (by omega)) (by rfl) (pa_cons (pv 0) (pa_cons (pe_op op_add (pe_callB call_len_seq (by rfl) m_len (by decide +kernel) (pa_cons (pv 2) pa_nil)) pe_int) pa_nil))))
      (pss_cons (ps_set (i := 2) sc_w_vocabulary.nd rfl (.inl rfl) (pe_op op_cat (pe_slice sl_list (pv 2) (po_some (pv 3)) po_none) (pe_slice sl_list (pv 2) po_none (po_some (pv 3)))))
      (pss_cons (ps_set (i := 4) sc_w_vocabulary.nd rfl (.inl rfl) (Lc.pe_dn C_w_row (hr.mono (by omega)) (by rfl) (pa_cons (pv 0) (pa_cons (pe_ix ix_list (pv 1) pe_int (fun _ _ => rfl)) (pa_cons pe_int pa_nil)))))
      (pss_one (ps_ret (pe_tup (pa_cons (pe_callTy call_tuple_of (by rfl) m_tuple (by decide +kernel) (pa_cons (pe_callB cr_sortedS (by rfl) m_sorted (by decide +kernel) (pa_cons (pv 4) pa_nil)) pa_nil)) (pa_cons (pe_callTy call_tuple_of (by rfl) m_tuple (by decide +kernel) (pa_cons (pe_callB cr_sortedS (by rfl) m_sorted (by decide +kernel) (pa_cons (pe_slice sl_list (pv 2) po_none (po_some (pe_ix ix_list (pv 1) pe_int (fun _ _ => rfl)))) pa_nil)) pa_nil)) (pa_cons (pe_callTy call_tuple_of (by rfl) m_tuple (by decide +kernel) (pa_cons (pe_callB cr_sortedS (by rfl) m_sorted (by decide +kernel) (pa_cons (pe_slice sl_list (pv 2) (po_some (pe_ix ix_list (pv 1) pe_int (fun _ _ => rfl))) po_none) pa_nil)) pa_nil)) pa_nil)))))))))))), ?_⟩
    refine ⟨.ref d, rfl, d, c, 4, rfl, hD, by decide, by decide, fun r1 H1 a1 b1 f1 D1 => ?_⟩
    refine ⟨.ref d, rfl, d, c, 4, rfl, D1, by decide, by decide, fun r2 H2 a2 b2 f2 D2 => ?_⟩
    have f2 := f1.trans f2
    refine ⟨.ref d, rfl, d, c, 3, rfl, D2, by decide, by decide, fun r3 H3 a3 b3 f3 D3 => ?_⟩
    have f3 := f2.trans f3
    refine ⟨sz (by show 3 ≤ 100000; decide), fun l nl => ?_⟩
    have nMl := D3.out nl
    have D4 := D3.new (o := .lst [.int r1, .int r2, .int r3]) nl
    have f4 := f3.trans (Fr.new (o := .lst [.int r1, .int r2, .int r3]) nl)
    have hl4 : (upd H3 l (.lst [.int r1, .int r2, .int r3])) l = some (.lst [.int r1, .int r2, .int r3]) := upd_same
    generalize upd H3 l (.lst [.int r1, .int r2, .int r3]) = H4 at D4 f4 hl4 ⊢
    refine ⟨fun σ H' => ∃ (l : Addr) (n0 n1 n2 : Nat), σ = [some (.ref d), some (.ref l), none, none, none] ∧ Lc.Fr (MD d c) H H' ∧ Dk d c H' ∧ H' l = some (.lst [.int n0, .int n1, .int n2]) ∧ ¬ MD d c l ∧ n0 ≤ 6 ∧ n1 ≤ 6 ∧ n2 ≤ 3, ?_, ?_⟩
    · refine ⟨.ref d, rfl, d, c, 8, rfl, D4, by decide, by decide, fun r4 H5 a4 b4 f5 D5 => ?_⟩
      have hl5 := f5.at hl4 nMl
      have f5 := f4.trans f5
      refine ⟨rfl, _, rfl, ite2 (fun e => ?_) (fun e => ?_)⟩
      · refine ⟨sz (by show 3 ≤ 100000; decide), fun m nm => ?_⟩
        exact ⟨m, 6, 6, 3, rfl, f5.trans (Fr.new nm), D5.new nm, upd_same, D5.out nm, by decide, by decide, by decide⟩
      · refine ⟨l, r1.toNat, r2.toNat, r3.toNat, rfl, f5, D5, ?_, nMl, by omega, by omega, by omega⟩
        rw [hl5, show ((r1.toNat : Nat) : Int) = r1 by omega, show ((r2.toNat : Nat) : Int) = r2 by omega, show ((r3.toNat : Nat) : Int) = r3 by omega]
    · rintro σ H5 ⟨l, n0, n1, n2, rfl, f5, D5, hl5, nMl, c0, c1, c2⟩
      refine ⟨.ref d, rfl, .ref l, rfl, l, _, 1, .int n1, rfl, rfl, SqL.of hl5, rfl, .ref l, rfl, l, _, 2, .int n2, rfl, rfl, SqL.of hl5, rfl, _, _, rfl, rfl, ?_⟩
      refine ⟨d, c, n1 + n2, 0, ?_, D5, by omega, by decide, fun ws p H6 hws hW np hp f6 D6 => ?_⟩
      · show [V.ref d, V.int ((n1 : Int) + (n2 : Int)), V.int 0] = _
        rw [Int.natCast_add]
        rfl
      have hl6 := f6.at hl5 nMl
      have nMp := D5.out np
      have f6 := f5.trans f6
      -- turn
      refine ⟨.ref d, rfl, .ref p, rfl, p, _, rfl, .inl (SqL.of hp), ?_⟩
      refine ⟨_, _, rfl, rfl, d, c, _, rfl, D6, ?_, ?_, fun r H7 ra rb f7 D7 => ?_⟩
      · show (0 : Int) < ((ws.map V.str).length : Int) + 1
        omega
      · show ((ws.map V.str).length : Int) + 1 < _
        rw [List.length_map]
        omega
      have hl7 := f7.at hl6 nMl
      have hp7 := f7.at hp nMp
      have f7 := f6.trans f7
      obtain ⟨t, rfl⟩ : ∃ t : Nat, r = (t : Int) := ⟨r.toNat, by omega⟩
      -- turned about
      refine ⟨.ref p, rfl, .int t, rfl, _, rfl, p, _, rfl, SqL.of hp7, fun p1 np1 => ?_⟩
      rw [cut_from, ← List.map_drop]
      have s8 : Same H7 (upd H7 p1 (.lst ((ws.drop t).map V.str))) := same_new np1
      have h8 : (upd H7 p1 (.lst ((ws.drop t).map V.str))) p1 = some (.lst ((ws.drop t).map V.str)) := upd_same
      have D8 : Dk d c (upd H7 p1 (.lst ((ws.drop t).map V.str))) := D7.new np1
      generalize (upd H7 p1 (.lst ((ws.drop t).map V.str))) = H8 at s8 h8 D8 ⊢
      refine ⟨.ref p, rfl, .int t, rfl, _, rfl, p, _, rfl, SqL.of (s8 _ _ hp7), fun p2 np2 => ?_⟩
      rw [cut_to, ← List.map_take]
      have s9 : Same H8 (upd H8 p2 (.lst ((ws.take t).map V.str))) := same_new np2
      have h9 : (upd H8 p2 (.lst ((ws.take t).map V.str))) p2 = some (.lst ((ws.take t).map V.str)) := upd_same
      have D9 : Dk d c (upd H8 p2 (.lst ((ws.take t).map V.str))) := D8.new np2
      generalize (upd H8 p2 (.lst ((ws.take t).map V.str))) = H9 at s9 h9 D9 ⊢
      refine ⟨p1, p2, (ws.drop t).map V.str, (ws.take t).map V.str, rfl, rfl, s9 _ _ h8, h9, ?_, fun p3 np3 => ?_⟩
      · rw [List.length_map, List.length_map, List.length_drop, List.length_take]
        exact sz (by omega)
      rw [← List.map_append]
      have hV : Tks (ws.drop t ++ ws.take t) := hW.sub fun y hy => (List.mem_append.mp hy).elim List.mem_of_mem_drop List.mem_of_mem_take
      have hvl : (ws.drop t ++ ws.take t).length ≤ 9 := by
        rw [List.length_append, List.length_drop, List.length_take]
        omega
      have hvn : (ws.drop t ++ ws.take t).length = n1 + n2 := by
        rw [List.length_append, List.length_drop, List.length_take]
        omega
      generalize ws.drop t ++ ws.take t = vs at hV hvl hvn ⊢
      have s10 : Same H7 (upd H9 p3 (.lst (vs.map V.str))) := s8.trans (s9.trans (same_new np3))
      have h10 : (upd H9 p3 (.lst (vs.map V.str))) p3 = some (.lst (vs.map V.str)) := upd_same
      have D10 : Dk d c (upd H9 p3 (.lst (vs.map V.str))) := D9.new np3
      have nMp3 := D9.out np3
      show tSeq _ _ _ _ (upd H9 p3 (.lst (vs.map V.str)))
      generalize (upd H9 p3 (.lst (vs.map V.str))) = H10 at s10 h10 D10 ⊢
      have f10 := f7.trans (Fr.of s10)
      -- names
      refine ⟨.ref d, rfl, .ref l, rfl, l, _, 0, .int n0, rfl, rfl, SqL.of (s10 _ _ hl7), rfl, d, c, n0, 1, rfl, D10, by omega, by decide, fun us p4 H11 hus hU np4 hp4 f11 D11 => ?_⟩
      have hl11 := f11.at (s10 _ _ hl7) nMl
      have h11 := f11.at h10 nMp3
      have f11 := f10.trans f11
      -- the three tuples
      refine ⟨.ref p4, rfl, p4, us, rfl, SqL.of hp4, by omega, fun ns q1 pn sn nq1 => ?_⟩
      refine ⟨q1, _, rfl, .inl ⟨SqL.of upd_same, fun t1 nt1 => ?_⟩⟩
      have g1 : Same H11 (upd (upd H11 q1 (.lst (ns.map V.str))) t1 (.tup (ns.map V.str))) := (same_new nq1).trans (same_new nt1)
      have ht1 : (upd (upd H11 q1 (.lst (ns.map V.str))) t1 (.tup (ns.map V.str))) t1 = some (.tup (ns.map V.str)) := upd_same
      have E1 : Dk d c (upd (upd H11 q1 (.lst (ns.map V.str))) t1 (.tup (ns.map V.str))) := (D11.new nq1).new nt1
      generalize (upd (upd H11 q1 (.lst (ns.map V.str))) t1 (.tup (ns.map V.str))) = H12 at g1 ht1 E1 ⊢
      refine ⟨.ref p3, rfl, .ref l, rfl, l, _, 1, .int n1, rfl, rfl, SqL.of (g1 _ _ hl11), rfl, _, rfl, p3, _, rfl, SqL.of (g1 _ _ h11), fun s2 ns2 => ?_⟩
      rw [cut_to, ← List.map_take]
      refine ⟨s2, vs.take n1, rfl, SqL.of upd_same, by rw [List.length_take]; omega, fun ks q2 pk sk nq2 => ?_⟩
      refine ⟨q2, _, rfl, .inl ⟨SqL.of upd_same, fun t2 nt2 => ?_⟩⟩
      have g2 : Same H12 (upd (upd (upd H12 s2 (.lst ((vs.take n1).map V.str))) q2 (.lst (ks.map V.str))) t2 (.tup (ks.map V.str))) := (same_new ns2).trans ((same_new nq2).trans (same_new nt2))
      have ht2 : (upd (upd (upd H12 s2 (.lst ((vs.take n1).map V.str))) q2 (.lst (ks.map V.str))) t2 (.tup (ks.map V.str))) t2 = some (.tup (ks.map V.str)) := upd_same
      have E2 : Dk d c (upd (upd (upd H12 s2 (.lst ((vs.take n1).map V.str))) q2 (.lst (ks.map V.str))) t2 (.tup (ks.map V.str))) := ((E1.new ns2).new nq2).new nt2
      generalize (upd (upd (upd H12 s2 (.lst ((vs.take n1).map V.str))) q2 (.lst (ks.map V.str))) t2 (.tup (ks.map V.str))) = H13 at g2 ht2 E2 ⊢
      refine ⟨.ref p3, rfl, .ref l, rfl, l, _, 1, .int n1, rfl, rfl, SqL.of (g2 _ _ (g1 _ _ hl11)), rfl, _, rfl, p3, _, rfl, SqL.of (g2 _ _ (g1 _ _ h11)), fun s3 ns3 => ?_⟩
      rw [cut_from, ← List.map_drop]
      refine ⟨s3, vs.drop n1, rfl, SqL.of upd_same, by rw [List.length_drop]; omega, fun ds q3 pd sd nq3 => ?_⟩
      refine ⟨q3, _, rfl, .inl ⟨SqL.of upd_same, fun t3 nt3 => ?_⟩⟩
      have g3 : Same H13 (upd (upd (upd H13 s3 (.lst ((vs.drop n1).map V.str))) q3 (.lst (ds.map V.str))) t3 (.tup (ds.map V.str))) := (same_new ns3).trans ((same_new nq3).trans (same_new nt3))
      have ht3 : (upd (upd (upd H13 s3 (.lst ((vs.drop n1).map V.str))) q3 (.lst (ds.map V.str))) t3 (.tup (ds.map V.str))) t3 = some (.tup (ds.map V.str)) := upd_same
      have E3 : Dk d c (upd (upd (upd H13 s3 (.lst ((vs.drop n1).map V.str))) q3 (.lst (ds.map V.str))) t3 (.tup (ds.map V.str))) := ((E2.new ns3).new nq3).new nt3
      generalize (upd (upd (upd H13 s3 (.lst ((vs.drop n1).map V.str))) q3 (.lst (ds.map V.str))) t3 (.tup (ds.map V.str))) = H14 at g3 ht3 E3 ⊢
      refine ⟨sz (by show 3 ≤ 100000; decide), fun v nv => ?_⟩
      have g4 := same_new (o := .tup [.ref t1, .ref t2, .ref t3]) nv
      have gg : Same H11 H14 := g1.trans (g2.trans g3)
      refine q ns ks ds v _ ⟨?_, ?_, ?_, ?_, ?_, ?_⟩ ⟨t1, t2, t3, upd_same, g4 _ _ (g3 _ _ (g2 _ _ ht1)), g4 _ _ (g3 _ _ ht2), g4 _ _ ht3⟩ ((f11.trans (Fr.of gg)).trans (Fr.new nv)) (E3.new nv)
      · exact hU.sub fun y hy => (pn.mem_iff).mp hy
      · exact hV.sub fun y hy => List.mem_of_mem_take ((pk.mem_iff).mp hy)
      · exact hV.sub fun y hy => List.mem_of_mem_drop ((pd.mem_iff).mp hy)
      · rw [pn.length_eq]; omega
      · rw [pk.length_eq, List.length_take]; omega
      · rw [pd.length_eq, List.length_drop]; omega
/-! ### a great number -/
abbrev s_w_great : Stmt := topS 10
abbrev N_w_great : List Str := ["_law_deck_here"]
theorem sc_w_great : FnScope N_w_great ["_law_deck_here"] (defScope s_w_great) := ⟨rfl, rfl, rfl, by decide +kernel, rfl, by decide +kernel, by decide +kernel⟩
def spGreat : Sp := fun vs H Q _ => ∃ (d c : Addr), vs = [.ref d] ∧ Dk d c H ∧ ∀ (n : Nat) H', n < big → Lc.Fr (MD d c) H H' → Dk d c H' → Q (.int n) H'
theorem pow6 : ((10 : Int) ^ (6 : Int).toNat) = 1000000 := by decide +kernel
theorem ok_w_great {k : Nat} (F : Fun K "_law_great" "_law_great" s_w_great f fd) (C_w_draw : Dn P w K mg base "_law_draw" ["_law_deck_here", "_law_most"] 1 spDraw) :
    FnOk P w K mg base CX0 (k + 2) f fd ["_law_deck_here"] spGreat := by
  refine F.ok sc_w_great (fun vs H Q E h => ?_) (fun cdv A outer s H vs Q E hr h => ?_)
  · obtain ⟨d, c, rfl, _⟩ := h
    rfl
  · obtain ⟨d, c, rfl, hD, q⟩ := h
    refine ⟨_, (pss_one (ps_ret (pe_op op_add (pe_op op_mul (Lc.pe_dn C_w_draw (hr.mono (by omega)) (by rfl) (pa_cons (pv 0) (pa_cons (pe_op op_pow pe_int pe_int) pa_nil))) (pe_op op_pow pe_int pe_int)) (Lc.pe_dn C_w_draw (hr.mono (by omega)) (by rfl) (pa_cons (pv 0) (pa_cons (pe_op op_pow pe_int pe_int) pa_nil)))))), ?_⟩
    refine ⟨.ref d, rfl, 10, 6, rfl, rfl, ⟨by decide, by decide, by decide⟩, d, c, _, rfl, hD, by decide, by decide, fun r1 H1 a1 b1 f1 D1 => ?_⟩
    have b1 : r1 < 1000000 := b1
    refine ⟨10, 6, rfl, rfl, ⟨by decide, by decide, by decide⟩, _, _, rfl, rfl, .inr ⟨by decide, by decide⟩, .ref d, rfl, 10, 6, rfl, rfl, ⟨by decide, by decide, by decide⟩, d, c, _, rfl, D1, by decide, by decide, fun r2 H2 a2 b2 f2 D2 => ?_⟩
    have b2 : r2 < 1000000 := b2
    refine ⟨_, _, rfl, rfl, ?_⟩
    show Q (.int (r1 * 1000000 + r2)) H2
    have e : r1 * 1000000 + r2 = (((r1 * 1000000 + r2).toNat : Nat) : Int) := by omega
    rw [e]
    refine q _ H2 ?_ (f1.trans f2) D2
    show _ < 1000000000000
    omega
/-! ### a sum -/
abbrev s_w_sum : Stmt := topS 11
abbrev N_w_sum : List Str := ["_law_deck_here", "_law_kinds", "_law_parts", "_law_kind", "_law_times"]
theorem sc_w_sum : FnScope N_w_sum ["_law_deck_here", "_law_kinds"] (defScope s_w_sum) := ⟨rfl, rfl, rfl, by decide +kernel, rfl, by decide +kernel, by decide +kernel⟩
def spSumD : Sp := fun vs H Q _ => ∃ (d c a : Addr) (ks : List Str), vs = [.ref d, .ref a] ∧ Dk d c H ∧ H a = some (.tup (ks.map V.str)) ∧ Tks ks ∧ ks.length ≤ 6 ∧
  ∀ (v : V) (s : Sm) H', SmOk s → SmAt H' v s → Lc.Fr (MD d c) H H' → Dk d c H' → Q v H'
theorem tle_lst {H : Hp} {p : Addr} {xs ys : List V} (h : H p = some (.lst xs)) : TLe H (upd H p (.lst ys)) := fun b zs e => by
  rw [upd_ne (ne_of e h (by intro z; cases z))]
  exact e
theorem PsAt.snoc {H : Hp} {p : Addr} {k : Str} {m : Nat} (h : H p = some (.tup [.str k, .int m])) : ∀ {vs : List V} {r : List (Str × Nat)}, PsAt H vs r → PsAt H (vs ++ [.ref p]) (r ++ [(k, m)])
  | _, _, .nil => .cons h .nil
  | _, _, .cons g t => .cons g (t.snoc h)
theorem ok_w_sum {k : Nat} (F : Fun K "_law_sum" "_law_sum" s_w_sum f fd) (m_tuple : mg "tuple" = none) (C_w_draw : Dn P w K mg base "_law_draw" ["_law_deck_here", "_law_most"] 1 spDraw) (C_w_great : Dn P w K mg base "_law_great" ["_law_deck_here"] 2 spGreat) :
    FnOk P w K mg base CX0 (k + 3) f fd ["_law_deck_here", "_law_kinds"] spSumD := by
  refine F.ok sc_w_sum (fun vs H Q E h => ?_) (fun cdv A outer s H vs Q E hr h => ?_)
  · obtain ⟨d, c, a, ks, rfl, _⟩ := h
    rfl
  · obtain ⟨d, c, a, ks, rfl, hD, ha, hk, hkl, q⟩ := h
    refine ⟨_, (pss_cons (ps_set (i := 2) sc_w_sum.nd rfl (.inl rfl) (pe_lst pa_nil))
      (pss_cons (ps_for PassesOwn.never rfl (pi_tup (pv 1)) (pg_name (i := 3) sc_w_sum.nd rfl (.inl rfl))
      (pss_cons (ps_set (i := 4) sc_w_sum.nd rfl (.inl rfl) (pe_ix ix_list (pe_lst (pa_cons pe_int (pa_cons pe_int (pa_cons pe_int (pa_cons pe_int (pa_cons (pe_op op_add pe_int (Lc.pe_dn C_w_draw (hr.mono (by omega)) (by rfl) (pa_cons (pv 0) (pa_cons pe_int pa_nil)))) (pa_cons (Lc.pe_dn C_w_great (hr.mono (by omega)) (by rfl) (pa_cons (pv 0) pa_nil)) pa_nil))))))) (Lc.pe_dn C_w_draw (hr.mono (by omega)) (by rfl) (pa_cons (pv 0) (pa_cons pe_int pa_nil))) (fun _ _ => rfl)))
        (pss_one (ps_if (pt_cmpR op_gt (pv 4) pe_int (nomark _))
        (pss_one (ps_expr (pe_bm PySem.F.plainAttrs_list PySem.F.slot_list_append PySem.F.type_list_append mt_append (pv 2) (pa_cons (pe_tup (pa_cons (pv 3) (pa_cons (pv 4) pa_nil))) pa_nil))))
        pss_nil))))
      (pss_one (ps_ret (pe_tup (pa_cons (pe_callTy call_tuple_of (by rfl) m_tuple (by decide +kernel) (pa_cons (pv 2) pa_nil)) (pa_cons (pe_ix ix_list (pe_lst (pa_cons pe_int (pa_cons pe_int (pa_cons (Lc.pe_dn C_w_draw (hr.mono (by omega)) (by rfl) (pa_cons (pv 0) (pa_cons pe_int pa_nil))) (pa_cons (Lc.pe_dn C_w_great (hr.mono (by omega)) (by rfl) (pa_cons (pv 0) pa_nil)) pa_nil))))) (Lc.pe_dn C_w_draw (hr.mono (by omega)) (by rfl) (pa_cons (pv 0) (pa_cons pe_int pa_nil))) (fun _ _ => rfl)) pa_nil))))))), ?_⟩
    refine ⟨Nat.zero_le _, fun pp npp => ?_⟩
    have nMpp := hD.out npp
    have nMa := hD.tup ha
    have napp : a ≠ pp := ne_of_none ha npp
    refine ⟨.ref a, rfl, a, rfl, ⟨_, SqT.of (by rw [upd_ne napp]; exact ha)⟩, ?_⟩
    refine for_tup (K := K) (a := a) (xs := ks.map V.str) (fun i σ H' => ∃ (vs : List V) (ps : List (Str × Nat)) (y3 y4 : Option V), σ = [some (.ref d), some (.ref a), some (.ref pp), y3, y4] ∧ Lc.Fr (MD d c) H H' ∧ Dk d c H' ∧ H' pp = some (.lst vs) ∧ PsAt H' vs ps ∧ ps.length ≤ i ∧ ∀ p ∈ ps, p.1.length ≤ 8 ∧ p.2 < big)
      ⟨[], [], none, none, rfl, Fr.new npp, hD.new npp, upd_same, .nil, Nat.le_refl _, (fun _ z => nomatch z)⟩ (fun i σ H' hi ⟨vs, ps, y3, y4, e1, f1, D1, h1, hp, hl, ho⟩ => SqT.of (f1.at ha nMa)) (fun i x σ H' hx ⟨vs, ps, y3, y4, e1, f1, D1, h1, hp, hl, ho⟩ => ?_) (fun σ H' ⟨vs, ps, y3, y4, e1, f1, D1, h1, hp, hl, ho⟩ => ?_)
    · subst e1
      have hil : i < ks.length := by
        have := (List.getElem?_eq_some_iff.mp hx).1
        rw [List.length_map] at this
        exact this
      rw [List.getElem?_map] at hx
      cases hkx : ks[i]? with
      | none => rw [hkx] at hx; cases hx
      | some k0 =>
        rw [hkx] at hx
        have ex : x = .str k0 := (Option.some.inj hx).symm
        subst ex
        have k8 := hk k0 (List.mem_of_getElem? hkx)
        refine ⟨.ref d, rfl, d, c, 3, rfl, D1, by decide, by decide, fun r1 H1 a1 b1 f2 D2 => ?_⟩
        have t2 := D1.tle f2
        have h2 := f2.at h1 nMpp
        have f2 := f1.trans f2
        refine ⟨2, r1, rfl, rfl, .ref d, rfl, d, c, rfl, D2, fun g H2 g1 f3 D3 => ?_⟩
        have t3 := t2.trans (D2.tle f3)
        have h3 := f3.at h2 nMpp
        have f3 := f2.trans f3
        refine ⟨sz (by show 6 ≤ 100000; decide), fun l nl => ?_⟩
        have nMl := D3.out nl
        obtain ⟨L, hL⟩ : ∃ L : List V, L = [.int 0, .int 0, .int 1, .int 1, .int (2 + r1), .int (g : Int)] := ⟨_, rfl⟩
        rw [← hL]
        have t4 := t3.trans (.of (same_new (o := .lst L) nl))
        have h4 := same_new (o := .lst L) nl _ _ h3
        have f4 := f3.trans (Fr.new (o := .lst L) nl)
        have D4 := D3.new (o := .lst L) nl
        have l4 : (upd H2 l (.lst L)) l = some (.lst L) := upd_same
        generalize upd H2 l (.lst L) = H4 at t4 h4 f4 D4 l4 ⊢
        refine ⟨.ref d, rfl, d, c, 6, rfl, D4, by decide, by decide, fun r H5 ra rb f5 D5 => ?_⟩
        have t5 := t4.trans (D4.tle f5)
        have h5 := f5.at h4 nMpp
        have l5 := f5.at l4 nMl
        have f5 := f4.trans f5
        obtain ⟨t, ht, tb⟩ : ∃ t : Nat, atI L r = some (.int t) ∧ t < big := by
          obtain ⟨v, hv, e⟩ := atI_lt (xs := L) ra (by rw [hL]; show r < 6; omega)
          rw [hL] at hv
          simp only [List.mem_cons, List.not_mem_nil, or_false] at hv
          rcases hv with rfl | rfl | rfl | rfl | rfl | rfl
          · exact ⟨0, e, by decide⟩
          · exact ⟨0, e, by decide⟩
          · exact ⟨1, e, by decide⟩
          · exact ⟨1, e, by decide⟩
          · refine ⟨(2 + r1).toNat, ?_, ?_⟩
            · rw [e, show (((2 + r1).toNat : Nat) : Int) = 2 + r1 by omega]
            · show _ < 1000000000000
              omega
          · exact ⟨g, e, g1⟩
        refine ⟨l, _, r, .int t, rfl, rfl, SqL.of l5, ht, ?_⟩
        refine ⟨.int t, rfl, _, 0, rfl, rfl, _, rfl, ite2 (fun e => ?_) (fun e => ?_)⟩
        · refine ⟨.ref pp, rfl, .inl ⟨rfl, _, SqL.of h5⟩, .str k0, rfl, .int t, rfl, sz (by show 2 ≤ 100000; decide), fun z nz => ?_⟩
          have h6 := same_new (o := .tup [.str k0, .int t]) nz _ _ h5
          have z6 : (upd H5 z (.tup [.str k0, .int t])) z = some (.tup [.str k0, .int t]) := upd_same
          have t6 := t5.trans (.of (same_new (o := .tup [.str k0, .int t]) nz))
          have f6 := f5.trans (Fr.new (o := .tup [.str k0, .int t]) nz)
          have D6 := D5.new (o := .tup [.str k0, .int t]) nz
          generalize upd H5 z (.tup [.str k0, .int t]) = H6 at h6 z6 t6 f6 D6 ⊢
          have tl := tle_lst (ys := vs ++ [.ref z]) h6
          have hp6 := hp.len
          refine ⟨pp, vs, _, rfl, rfl, h6, szl (by omega), vs ++ [.ref z], ps ++ [(k0, t)], _, _, rfl, f6.own npp, D6.keep nMpp, upd_same, PsAt.snoc (tl _ _ z6) (hp.mono (t6.trans tl)), ?_, ?_⟩
          · rw [List.length_append]
            show _ + 1 ≤ i + 1
            omega
          · intro p hp
            rcases List.mem_append.mp hp with hp | hp
            · exact ho p hp
            · have e : p = (k0, t) := by simpa using hp
              rw [e]
              exact ⟨k8, tb⟩
        · exact ⟨vs, ps, _, _, rfl, f5, D5, h5, hp.mono t5, by omega, ho⟩
    · subst e1
      rw [List.length_map] at hl
      refine ⟨.ref pp, rfl, pp, vs, rfl, .inl ⟨SqL.of h1, fun t nt => ?_⟩⟩
      have ht : (upd H' t (.tup vs)) t = some (.tup vs) := upd_same
      have f2 := f1.trans (Fr.new (o := .tup vs) nt)
      have D2 := D1.new (o := .tup vs) nt
      have hp2 := hp.mono (.of (same_new (o := .tup vs) nt))
      generalize upd H' t (.tup vs) = H2 at ht f2 D2 hp2 ⊢
      refine ⟨.ref d, rfl, d, c, 12, rfl, D2, by decide, by decide, fun r1 H3 a1 b1 f3 D3 => ?_⟩
      have t3 := D2.tle f3
      have f3 := f2.trans f3
      refine ⟨.ref d, rfl, d, c, rfl, D3, fun g H4 g1 f4 D4 => ?_⟩
      have t4 := t3.trans (D3.tle f4)
      have f4 := f3.trans f4
      refine ⟨sz (by show 4 ≤ 100000; decide), fun l nl => ?_⟩
      have nMl := D4.out nl
      obtain ⟨L, hL⟩ : ∃ L : List V, L = [.int 0, .int 1, .int r1, .int (g : Int)] := ⟨_, rfl⟩
      rw [← hL]
      have t5 := t4.trans (.of (same_new (o := .lst L) nl))
      have f5 := f4.trans (Fr.new (o := .lst L) nl)
      have D5 := D4.new (o := .lst L) nl
      have l5 : (upd H4 l (.lst L)) l = some (.lst L) := upd_same
      generalize upd H4 l (.lst L) = H5 at t5 f5 D5 l5 ⊢
      refine ⟨.ref d, rfl, d, c, 4, rfl, D5, by decide, by decide, fun r H6 ra rb f6 D6 => ?_⟩
      have t6 := t5.trans (D5.tle f6)
      have l6 := f6.at l5 nMl
      have f6 := f5.trans f6
      obtain ⟨n, hn, nb⟩ : ∃ n : Nat, atI L r = some (.int n) ∧ n < big := by
        obtain ⟨v, hv, e⟩ := atI_lt (xs := L) ra (by rw [hL]; show r < 4; omega)
        rw [hL] at hv
        simp only [List.mem_cons, List.not_mem_nil, or_false] at hv
        rcases hv with rfl | rfl | rfl | rfl
        · exact ⟨0, e, by decide⟩
        · exact ⟨1, e, by decide⟩
        · refine ⟨r1.toNat, ?_, ?_⟩
          · rw [e, show ((r1.toNat : Nat) : Int) = r1 by omega]
          · show _ < 1000000000000
            omega
        · exact ⟨g, e, g1⟩
      refine ⟨l, _, r, .int n, rfl, rfl, SqL.of l6, hn, sz (by show 2 ≤ 100000; decide), fun z nz => ?_⟩
      have s7 := same_new (o := .tup [.ref t, .int n]) nz
      exact q (.ref z) ⟨ps, n⟩ _ ⟨⟨(show ps.length ≤ 6 by omega), ho⟩, nb⟩ ⟨z, t, vs, rfl, upd_same, s7 _ _ (t6 _ _ ht), hp2.mono (t6.trans (.of s7))⟩ (f6.trans (Fr.new nz)) (D6.new nz)
end
end K15
set_option Elab.async false
set_option linter.all false
set_option maxRecDepth 100000
set_option maxHeartbeats 4000000
namespace K15
open PySem PySem.Spec PyProof.Rows L2 Lc
section
variable {P : Program} {w : World} {K : PySem.W.Frag} {mg : Str → Option Value} {base : Heap} {f : Addr} {fd : FuncData}
/-! ### a plain form -/
theorem drawn {ws : List Str} {r : Int} (hW : Tks ws) (h0 : 0 ≤ r) (h : r < ((ws.map V.str).length : Int)) : ∃ t : Str, t.length ≤ 8 ∧ atI (ws.map V.str) r = some (.str t) := by
  obtain ⟨v, hv, e⟩ := atI_lt (xs := ws.map V.str) h0 h
  obtain ⟨t, ht, rfl⟩ := List.mem_map.mp hv
  exact ⟨t, hW t ht, e⟩
theorem len_pos {ws : List Str} (h : ws ≠ []) : (0 : Int) < ((ws.map V.str).length : Int) := by
  cases ws with
  | nil => exact absurd rfl h
  | cons x r => simp
abbrev s_w_plain : Stmt := topS 12
abbrev N_w_plain : List Str := ["_law_deck_here", "_law_vocabulary_here", "_law_bound", "_law_names", "_law_kinds", "_law_doings", "_law_terms", "_law_way", "_law_t", "_law_u"]
theorem sc_w_plain : FnScope N_w_plain ["_law_deck_here", "_law_vocabulary_here", "_law_bound"] (defScope s_w_plain) := ⟨rfl, rfl, rfl, by decide +kernel, rfl, by decide +kernel, by decide +kernel⟩
def spPlain : Sp := fun vs H Q _ => ∃ (d c v b : Addr) (ns ks ds bs : List Str), vs = [.ref d, .ref v, .ref b] ∧ Dk d c H ∧ VcOk ns ks ds ∧ VcAt H v ns ks ds ∧ H b = some (.tup (bs.map V.str)) ∧ Tks bs ∧ bs.length ≤ 6 ∧
  ∀ (p : V) (g : Fm) H', FOk 0 g → FmAt H' p g → Lc.Fr (MD d c) H H' → Dk d c H' → Q p H'
theorem ok_w_plain {k : Nat} (F : Fun K "_law_plain" "_law_plain" s_w_plain f fd) (m_len : mg "len" = none) (m_list : mg "list" = none) (C_w_draw : Dn P w K mg base "_law_draw" ["_law_deck_here", "_law_most"] 1 spDraw) (C_w_sum : Dn P w K mg base "_law_sum" ["_law_deck_here", "_law_kinds"] 3 spSumD) :
    FnOk P w K mg base CX0 (k + 4) f fd ["_law_deck_here", "_law_vocabulary_here", "_law_bound"] spPlain := by
  refine F.ok sc_w_plain (fun vs H Q E h => ?_) (fun cdv A outer s H vs Q E hr h => ?_)
  · obtain ⟨d, c, v, b, ns, ks, ds, bs, rfl, _⟩ := h
    rfl
  · obtain ⟨d, c, v, b, ns, ks, ds, bs, rfl, hD, hok, ⟨va, vb, vc, hv, hva, hvb, hvc⟩, hb, hB, hbl, q⟩ := h
    refine ⟨_, (pss_cons (ps_asg (pv 1) (pg_tup rfl (pgs_cons (pg_name (i := 3) sc_w_plain.nd rfl (.inl rfl)) (pgs_cons (pg_name (i := 4) sc_w_plain.nd rfl (.inl rfl)) (pgs_cons (pg_name (i := 5) sc_w_plain.nd rfl (.inl rfl)) pgs_nil)))))
      (pss_cons (ps_set (i := 6) sc_w_plain.nd rfl (.inl rfl) (pe_op op_cat (pe_callTy call_list_of (by rfl) m_list (by decide +kernel) (pa_cons (pv 3) pa_nil)) (pe_callTy call_list_of (by rfl) m_list (by decide +kernel) (pa_cons (pv 2) pa_nil))))
      (pss_cons (ps_set (i := 7) sc_w_plain.nd rfl (.inl rfl) (Lc.pe_dn C_w_draw (hr.mono (by omega)) (by rfl) (pa_cons (pv 0) (pa_cons pe_int pa_nil))))
      (pss_cons (ps_if (pt_cmpR op_eq (pv 7) pe_int (nomark _))
      (pss_one (ps_ret (pe_tup (pa_cons pe_str pa_nil))))
      pss_nil)
      (Evl.pss_cut (ps_if (PW.pt (pw_or (pt_cmpR (op_eqNil hr.units0) (pv 6) (pe_lst pa_nil) (nomark _)) (pw_or1 (pt_cmpR op_eq (pv 7) pe_int (nomark _)))))
      (pss_one (ps_ret (pe_tup (pa_cons pe_str (pa_cons (Lc.pe_dn C_w_sum (hr.mono (by omega)) (by rfl) (pa_cons (pv 0) (pa_cons (pv 4) pa_nil))) (pa_cons (Lc.pe_dn C_w_sum (hr.mono (by omega)) (by rfl) (pa_cons (pv 0) (pa_cons (pv 4) pa_nil))) pa_nil))))))
      pss_nil)
      (pss_cons (ps_set (i := 8) sc_w_plain.nd rfl (.inl rfl) (pe_ix ix_list (pv 6) (Lc.pe_dn C_w_draw (hr.mono (by omega)) (by rfl) (pa_cons (pv 0) (pa_cons (pe_callB call_len_seq (by rfl) m_len (by decide +kernel) (pa_cons (pv 6) pa_nil)) pa_nil))) (fun _ _ => rfl)))
      (pss_cons (ps_set (i := 9) sc_w_plain.nd rfl (.inl rfl) (pe_ix ix_list (pv 6) (Lc.pe_dn C_w_draw (hr.mono (by omega)) (by rfl) (pa_cons (pv 0) (pa_cons (pe_callB call_len_seq (by rfl) m_len (by decide +kernel) (pa_cons (pv 6) pa_nil)) pa_nil))) (fun _ _ => rfl)))
      (Evl.pss_cut (ps_if (PW.pt (pw_and (pt_cmpR op_lt (pv 7) pe_int (nomark _)) (pw_and1 (pt_cmpR (op_neNilT hr.units0) (pv 4) (pe_tup pa_nil) (nomark _)))))
      (pss_one (ps_ret (pe_tup (pa_cons pe_str (pa_cons (pv 8) (pa_cons (pe_ix ix_tup (pv 4) (Lc.pe_dn C_w_draw (hr.mono (by omega)) (by rfl) (pa_cons (pv 0) (pa_cons (pe_callB call_len_seq (by rfl) m_len (by decide +kernel) (pa_cons (pv 4) pa_nil)) pa_nil))) (fun _ _ => rfl)) pa_nil))))))
      pss_nil)
      (Evl.pss_cut (ps_if (PW.pt (pw_and (pt_cmpR op_lt (pv 7) pe_int (nomark _)) (pw_and1 (pt_cmpR (op_neNilT hr.units0) (pv 5) (pe_tup pa_nil) (nomark _)))))
      (pss_one (ps_ret (pe_tup (pa_cons pe_str (pa_cons (pe_ix ix_tup (pv 5) (Lc.pe_dn C_w_draw (hr.mono (by omega)) (by rfl) (pa_cons (pv 0) (pa_cons (pe_callB call_len_seq (by rfl) m_len (by decide +kernel) (pa_cons (pv 5) pa_nil)) pa_nil))) (fun _ _ => rfl)) (pa_cons (pv 8) (pa_cons (pv 9) pa_nil)))))))
      pss_nil)
      (pss_one (ps_ret (pe_tup (pa_cons pe_str (pa_cons (pv 8) (pa_cons (pv 9) pa_nil))))))))))))))), ?_⟩
    refine ⟨.ref v, rfl, v, _, rfl, SqT.of hv, rfl, _, _, rfl, _, _, rfl, _, _, rfl, rfl, ?_⟩
    -- terms
    refine ⟨.ref va, rfl, va, _, rfl, .inr (SqT.of hva), fun p1 np1 => ?_⟩
    have s1 := same_new (o := .lst (ns.map V.str)) np1
    have h1 : (upd H p1 (.lst (ns.map V.str))) p1 = some (.lst (ns.map V.str)) := upd_same
    have D1 := hD.new (o := .lst (ns.map V.str)) np1
    generalize upd H p1 (.lst (ns.map V.str)) = H1 at s1 h1 D1 ⊢
    refine ⟨.ref b, rfl, b, _, rfl, .inr (SqT.of (s1 _ _ hb)), fun p2 np2 => ?_⟩
    have s2 := same_new (o := .lst (bs.map V.str)) np2
    have h2 : (upd H1 p2 (.lst (bs.map V.str))) p2 = some (.lst (bs.map V.str)) := upd_same
    have D2 := D1.new (o := .lst (bs.map V.str)) np2
    generalize upd H1 p2 (.lst (bs.map V.str)) = H2 at s2 h2 D2 ⊢
    refine ⟨p1, p2, ns.map V.str, bs.map V.str, rfl, rfl, s2 _ _ h1, h2, ?_, fun p3 np3 => ?_⟩
    · rw [List.length_map, List.length_map]
      have := hok.nl
      exact sz (by omega)
    rw [← List.map_append]
    have hT : Tks (ns ++ bs) := fun y hy => (List.mem_append.mp hy).elim (hok.n y) (hB y)
    have hTl : (ns ++ bs).length ≤ 12 := by
      rw [List.length_append]
      have := hok.nl
      omega
    generalize ns ++ bs = ts at hT hTl ⊢
    have s3 := (s1.trans s2).trans (same_new (o := .lst (ts.map V.str)) np3)
    have h3 : (upd H2 p3 (.lst (ts.map V.str))) p3 = some (.lst (ts.map V.str)) := upd_same
    have D3 := D2.new (o := .lst (ts.map V.str)) np3
    have nM3 := D2.out np3
    show tSeq _ _ _ _ (upd H2 p3 (.lst (ts.map V.str)))
    generalize upd H2 p3 (.lst (ts.map V.str)) = H3 at s3 h3 D3 ⊢
    -- way
    refine ⟨.ref d, rfl, d, c, 9, rfl, D3, by decide, by decide, fun r H4 ra rb f4 D4 => ?_⟩
    have h4 := f4.at h3 nM3
    have t4 := (TLe.of s3).trans (D3.tle f4)
    have f4 := (Fr.of s3).trans f4
    refine ⟨.int r, rfl, rfl, _, rfl, ite2 (fun e => ?_) (fun e => ?_)⟩
    · exact ⟨sz (by show 1 ≤ 100000; decide), fun z nz => q (.ref z) .fls _ trivial (.fls upd_same) (f4.trans (Fr.new nz)) (D4.new nz)⟩
    clear e
    refine ⟨fun σ H5 => σ = [some (.ref d), some (.ref v), some (.ref b), some (.ref va), some (.ref vb), some (.ref vc), some (.ref p3), some (.int r), none, none] ∧ ts ≠ [] ∧ Lc.Fr (MD d c) H H5 ∧ Dk d c H5 ∧ TLe H H5 ∧ H5 p3 = some (.lst (ts.map V.str)), ?_, ?_⟩
    · refine ⟨.ref p3, rfl, Nat.zero_le _, fun o no => ?_⟩
      have h5 := same_new (o := .lst []) no _ _ h4
      have o5 : (upd H4 o (.lst [])) o = some (.lst []) := upd_same
      have D5 := D4.new (o := .lst []) no
      have t5 := t4.trans (.of (same_new (o := .lst []) no))
      have f5 := f4.trans (Fr.new (o := .lst []) no)
      generalize upd H4 o (.lst []) = H5 at h5 o5 D5 t5 f5 ⊢
      refine ⟨p3, o, _, rfl, rfl, SqL.of h5, SqL.of o5, _, rfl, ?_⟩
      cases ts with
      | nil =>
        refine if_yes rfl ?_
        · refine ⟨.ref d, rfl, .ref vb, rfl, d, c, vb, ks, rfl, D5, t5 _ _ hvb, hok.k, hok.kl, fun x sx H6 ox ax f6 D6 => ?_⟩
          have t6 := D5.tle f6
          refine ⟨.ref d, rfl, .ref vb, rfl, d, c, vb, ks, rfl, D6, t6 _ _ (t5 _ _ hvb), hok.k, hok.kl, fun y sy H7 oy ay f7 D7 => ?_⟩
          have t7 := D6.tle f7
          refine ⟨sz (by show 3 ≤ 100000; decide), fun z nz => ?_⟩
          have s8 := TLe.of (same_new (o := .tup [.str "least", x, y]) nz)
          exact q (.ref z) (.least sx sy) _ ⟨ox, oy⟩ (.least upd_same (ax.mono (t7.trans s8)) (ay.mono s8)) (((f5.trans f6).trans f7).trans (Fr.new nz)) (D7.new nz)
      | cons x0 r0 =>
        refine if_no rfl ⟨.int r, rfl, rfl, _, rfl, ite2 (fun e => ?_) (fun e => ?_)⟩
        · refine ⟨.ref d, rfl, .ref vb, rfl, d, c, vb, ks, rfl, D5, t5 _ _ hvb, hok.k, hok.kl, fun x sx H6 ox ax f6 D6 => ?_⟩
          have t6 := D5.tle f6
          refine ⟨.ref d, rfl, .ref vb, rfl, d, c, vb, ks, rfl, D6, t6 _ _ (t5 _ _ hvb), hok.k, hok.kl, fun y sy H7 oy ay f7 D7 => ?_⟩
          have t7 := D6.tle f7
          refine ⟨sz (by show 3 ≤ 100000; decide), fun z nz => ?_⟩
          have s8 := TLe.of (same_new (o := .tup [.str "least", x, y]) nz)
          exact q (.ref z) (.least sx sy) _ ⟨ox, oy⟩ (.least upd_same (ax.mono (t7.trans s8)) (ay.mono s8)) (((f5.trans f6).trans f7).trans (Fr.new nz)) (D7.new nz)
        · exact ⟨rfl, by simp, f5, D5, t5, h5⟩
    · rintro σ H5 ⟨rfl, nts, f5, D5, t5, h5⟩
      have lb : ((ts.map V.str).length : Int) < 1073741824 := by
        rw [List.length_map]
        omega
      -- t, u
      refine ⟨.ref p3, rfl, .ref d, rfl, .ref p3, rfl, p3, _, rfl, .inl (SqL.of h5), d, c, _, rfl, D5, len_pos nts, lb, fun r1 H6 a1 b1 f6 D6 => ?_⟩
      have h6 := f6.at h5 nM3
      have t6 := t5.trans (D5.tle f6)
      have f6 := f5.trans f6
      obtain ⟨t, t8, ht⟩ := drawn hT a1 b1
      refine ⟨p3, _, r1, .str t, rfl, rfl, SqL.of h6, ht, ?_⟩
      refine ⟨.ref p3, rfl, .ref d, rfl, .ref p3, rfl, p3, _, rfl, .inl (SqL.of h6), d, c, _, rfl, D6, len_pos nts, lb, fun r2 H7 a2 b2 f7 D7 => ?_⟩
      have h7 := f7.at h6 nM3
      have t7 := t6.trans (D6.tle f7)
      have f7 := f6.trans f7
      obtain ⟨u, u8, hu⟩ := drawn hT a2 b2
      refine ⟨p3, _, r2, .str u, rfl, rfl, SqL.of h7, hu, ?_⟩
      -- is
      refine ⟨fun σ H5 => σ = [some (.ref d), some (.ref v), some (.ref b), some (.ref va), some (.ref vb), some (.ref vc), some (.ref p3), some (.int r), some (.str t), some (.str u)] ∧ Lc.Fr (MD d c) H H5 ∧ Dk d c H5 ∧ TLe H H5, ?_, ?_⟩
      · refine ⟨.int r, rfl, _, 3, rfl, rfl, _, rfl, ite2 (fun e => ?_) (fun e => ?_)⟩
        · refine ⟨.ref vb, rfl, Nat.zero_le _, fun o no => ?_⟩
          have o8 : (upd H7 o (.tup [])) o = some (.tup []) := upd_same
          have D8 := D7.new (o := .tup []) no
          have t8' := t7.trans (.of (same_new (o := .tup []) no))
          have f8 := f7.trans (Fr.new (o := .tup []) no)
          generalize upd H7 o (.tup []) = H8 at o8 D8 t8' f8 ⊢
          refine ⟨vb, o, _, rfl, rfl, SqT.of (t8' _ _ hvb), SqT.of o8, _, rfl, ?_⟩
          by_cases nk : ks = []
          · subst nk
            exact if_no rfl ⟨rfl, f8, D8, t8'⟩
          · refine if_yes (by cases ks with | nil => exact absurd rfl nk | cons x r => rfl) ?_
            have kb : ((ks.map V.str).length : Int) < 1073741824 := by
              rw [List.length_map]
              have := hok.kl
              omega
            refine ⟨.str t, rfl, .ref vb, rfl, .ref d, rfl, .ref vb, rfl, vb, _, rfl, .inr (SqT.of (t8' _ _ hvb)), d, c, _, rfl, D8, len_pos nk, kb, fun r3 H9 a3 b3 f9 D9 => ?_⟩
            have t9 := t8'.trans (D8.tle f9)
            obtain ⟨k0, k8, hk0⟩ := drawn hok.k a3 b3
            refine ⟨vb, _, r3, .str k0, rfl, rfl, SqT.of (t9 _ _ hvb), hk0, sz (by show 3 ≤ 100000; decide), fun z nz => ?_⟩
            exact q (.ref z) (.is t k0) _ ⟨t8, k8⟩ (.is upd_same) ((f8.trans f9).trans (Fr.new nz)) (D9.new nz)
        · exact ⟨rfl, f7, D7, t7⟩
      · clear h5 D5 t5 h6 f6 D6 t6 h7 f7 D7 t7
        rintro σ H8 ⟨rfl, f8, D8, t8'⟩
        refine ⟨fun σ H5 => σ = [some (.ref d), some (.ref v), some (.ref b), some (.ref va), some (.ref vb), some (.ref vc), some (.ref p3), some (.int r), some (.str t), some (.str u)] ∧ Lc.Fr (MD d c) H H5 ∧ Dk d c H5 ∧ TLe H H5, ?_, ?_⟩
        · refine ⟨.int r, rfl, _, 6, rfl, rfl, _, rfl, ite2 (fun e => ?_) (fun e => ?_)⟩
          · refine ⟨.ref vc, rfl, Nat.zero_le _, fun o no => ?_⟩
            have o9 : (upd H8 o (.tup [])) o = some (.tup []) := upd_same
            have D9 := D8.new (o := .tup []) no
            have t9 := t8'.trans (.of (same_new (o := .tup []) no))
            have f9 := f8.trans (Fr.new (o := .tup []) no)
            generalize upd H8 o (.tup []) = H9 at o9 D9 t9 f9 ⊢
            refine ⟨vc, o, _, rfl, rfl, SqT.of (t9 _ _ hvc), SqT.of o9, _, rfl, ?_⟩
            by_cases nk : ds = []
            · subst nk
              exact if_no rfl ⟨rfl, f9, D9, t9⟩
            · refine if_yes (by cases ds with | nil => exact absurd rfl nk | cons x r => rfl) ?_
              have kb : ((ds.map V.str).length : Int) < 1073741824 := by
                rw [List.length_map]
                have := hok.dl
                omega
              refine ⟨.ref vc, rfl, .ref d, rfl, .ref vc, rfl, vc, _, rfl, .inr (SqT.of (t9 _ _ hvc)), d, c, _, rfl, D9, len_pos nk, kb, fun r3 H10 a3 b3 f10 D10 => ?_⟩
              have t10 := t9.trans (D9.tle f10)
              obtain ⟨k0, k8, hk0⟩ := drawn hok.d a3 b3
              refine ⟨vc, _, r3, .str k0, rfl, rfl, SqT.of (t10 _ _ hvc), hk0, .str t, rfl, .str u, rfl, sz (by show 4 ≤ 100000; decide), fun z nz => ?_⟩
              exact q (.ref z) (.does k0 t u) _ ⟨k8, t8, u8⟩ (.does upd_same) ((f9.trans f10).trans (Fr.new nz)) (D10.new nz)
          · exact ⟨rfl, f8, D8, t8'⟩
        · rintro σ H9 ⟨rfl, f9, D9, t9⟩
          refine ⟨.str t, rfl, .str u, rfl, sz (by show 3 ≤ 100000; decide), fun z nz => ?_⟩
          exact q (.ref z) (.same t u) _ ⟨t8, u8⟩ (.same upd_same) (f9.trans (Fr.new nz)) (D9.new nz)
end
end K15
set_option Elab.async false
set_option linter.all false
set_option maxRecDepth 100000
set_option maxHeartbeats 4000000
namespace K15
open PySem PySem.Spec PyProof.Rows L2 Lc
section
variable {P : Program} {w : World} {K : PySem.W.Frag} {mg : Str → Option Value} {base : Heap} {f : Addr} {fd : FuncData}
theorem FOk.up {g : Fm} (h : FOk 0 g) : ∀ m, FOk m g
  | 0 => h
  | m + 1 => by cases g <;> first | exact h | exact h.elim
/-! ### a form -/
abbrev s_w_form : Stmt := topS 13
abbrev N_w_form : List Str := ["_law_deck_here", "_law_vocabulary_here", "_law_bound", "_law_deep", "_law_way", "_law_one", "_law_letter"]
theorem sc_w_form : FnScope N_w_form ["_law_deck_here", "_law_vocabulary_here", "_law_bound", "_law_deep"] (defScope s_w_form) := ⟨rfl, rfl, rfl, by decide +kernel, rfl, by decide +kernel, by decide +kernel⟩
/-- drawn at most so deep -/
def spFormD : Nat → Sp
  | 0 => fun _ _ _ _ => False
  | m + 1 => fun vs H Q _ => ∃ (d c v b : Addr) (deep : Int) (ns ks ds bs : List Str), vs = [.ref d, .ref v, .ref b, .int deep] ∧ Dk d c H ∧ VcOk ns ks ds ∧ VcAt H v ns ks ds ∧ H b = some (.tup (bs.map V.str)) ∧ Tks bs ∧ bs.length + m ≤ 6 ∧ 0 ≤ deep ∧ deep ≤ m ∧
    ∀ (p : V) (g : Fm) H', FOk m g → FmAt H' p g → Lc.Fr (MD d c) H H' → Dk d c H' → Q p H'
abbrev letters : List Str := ["x", "y", "z", "u", "v", "w", "x1", "u0", "w9"]
theorem letters_ok : Tks letters := by
  intro x hx
  simp only [letters, List.mem_cons, List.not_mem_nil, or_false] at hx
  rcases hx with rfl | rfl | rfl | rfl | rfl | rfl | rfl | rfl | rfl <;> decide +kernel
theorem ok_w_form (F : Fun K "_law_form" "_law_form" s_w_form f fd) (g : mg "_law_form" = some (.ref f)) (bi : Binds K fd ["_law_deck_here", "_law_vocabulary_here", "_law_bound", "_law_deep"] [])
    (C_w_draw : Dn P w K mg base "_law_draw" ["_law_deck_here", "_law_most"] 1 spDraw) (C_w_plain : Dn P w K mg base "_law_plain" ["_law_deck_here", "_law_vocabulary_here", "_law_bound"] 4 spPlain) :
    ∀ m, FnOk P w K mg base CX0 (m + 4) f fd ["_law_deck_here", "_law_vocabulary_here", "_law_bound", "_law_deep"] (spFormD m) := by
  intro m
  induction m with
  | zero => exact ⟨fun _ _ _ _ h => h.elim, fun _ _ _ _ _ _ _ _ _ _ _ _ _ h => h.elim⟩
  | succ m ih =>
  have C_w_form : Dn P w K mg base "_law_form" ["_law_deck_here", "_law_vocabulary_here", "_law_bound", "_law_deep"] (m + 4) (spFormD m) := ⟨f, fd, F.kp, g, bi, ih⟩
  refine F.ok sc_w_form (fun vs H Q E h => ?_) (fun cdv A outer s H vs Q E hr h => ?_)
  · obtain ⟨d, c, v, b, deep, ns, ks, ds, bs, rfl, _⟩ := h
    rfl
  · obtain ⟨d, c, v, b, deep, ns, ks, ds, bs, rfl, hD, hok, hv, hb, hB, hbl, d0, dm, q⟩ := h
    refine ⟨_, (pss_cons (ps_set (i := 4) sc_w_form.nd rfl (.inl rfl) (Lc.pe_dn C_w_draw (hr.mono (by omega)) (by rfl) (pa_cons (pv 0) (pa_cons pe_int pa_nil))))
      (pss_cons (ps_if (PW.pt (pw_or (pt_cmpR op_eq (pv 3) pe_int (nomark _)) (pw_or1 (pt_cmpR op_lt (pv 4) pe_int (nomark _)))))
      (pss_one (ps_ret (Lc.pe_dn C_w_plain (hr.mono (by omega)) (by rfl) (pa_cons (pv 0) (pa_cons (pv 1) (pa_cons (pv 2) pa_nil))))))
      pss_nil)
      (pss_cons (ps_if (pt_cmpR op_eq (pv 4) pe_int (nomark _))
      (pss_one (ps_ret (pe_tup (pa_cons pe_str (pa_cons (Lc.pe_dn C_w_form (hr.mono (by omega)) (by rfl) (pa_cons (pv 0) (pa_cons (pv 1) (pa_cons (pv 2) (pa_cons (pe_op op_sub (pv 3) pe_int) pa_nil))))) pa_nil)))))
      pss_nil)
      (pss_cons (ps_if (pt_cmpR op_lt (pv 4) pe_int (nomark _))
      (pss_cons (ps_set (i := 5) sc_w_form.nd rfl (.inl rfl) (Lc.pe_dn C_w_form (hr.mono (by omega)) (by rfl) (pa_cons (pv 0) (pa_cons (pv 1) (pa_cons (pv 2) (pa_cons (pe_op op_sub (pv 3) pe_int) pa_nil))))))
        (pss_one (ps_ret (pe_tup (pa_cons (pe_ix ix_list (pe_lst (pa_cons pe_str (pa_cons pe_str (pa_cons pe_str pa_nil)))) (pe_op op_sub (pv 4) pe_int) (fun _ _ => rfl)) (pa_cons (pv 5) (pa_cons (Lc.pe_dn C_w_form (hr.mono (by omega)) (by rfl) (pa_cons (pv 0) (pa_cons (pv 1) (pa_cons (pv 2) (pa_cons (pe_op op_sub (pv 3) pe_int) pa_nil))))) pa_nil)))))))
      pss_nil)
      (pss_cons (ps_set (i := 6) sc_w_form.nd rfl (.inl rfl) (pe_ix ix_list (pe_lst (pa_cons pe_str (pa_cons pe_str (pa_cons pe_str (pa_cons pe_str (pa_cons pe_str (pa_cons pe_str (pa_cons pe_str (pa_cons pe_str (pa_cons pe_str pa_nil)))))))))) (Lc.pe_dn C_w_draw (hr.mono (by omega)) (by rfl) (pa_cons (pv 0) (pa_cons pe_int pa_nil))) (fun _ _ => rfl)))
      (pss_one (ps_ret (pe_tup (pa_cons (pe_ix ix_list (pe_lst (pa_cons pe_str (pa_cons pe_str (pa_cons pe_str pa_nil)))) (pe_op op_sub (pv 4) pe_int) (fun _ _ => rfl)) (pa_cons (pv 6) (pa_cons (Lc.pe_dn C_w_form (hr.mono (by omega)) (by rfl) (pa_cons (pv 0) (pa_cons (pv 1) (pa_cons (pe_op op_catA (pv 2) (pe_tup (pa_cons (pv 6) pa_nil))) (pa_cons (pe_op op_sub (pv 3) pe_int) pa_nil))))) pa_nil))))))))))), ?_⟩
    refine ⟨.ref d, rfl, d, c, 9, rfl, hD, by decide, by decide, fun r H1 ra rb f1 D1 => ?_⟩
    have t1 := hD.tle f1
    refine ⟨.int deep, rfl, rfl, _, rfl, ite2 (fun e => ?_) (fun e => ?_)⟩
    · refine ⟨.ref d, rfl, .ref v, rfl, .ref b, rfl, d, c, v, b, ns, ks, ds, bs, rfl, D1, hok, hv.mono t1, t1 _ _ hb, hB, by omega, fun p g H2 og hg f2 D2 => ?_⟩
      exact q p g H2 (og.up m) hg (f1.trans f2) D2
    have hd0 : deep ≠ 0 := fun z => by
      rw [z] at e
      exact absurd e (by decide)
    refine ⟨.int r, rfl, _, 2, rfl, rfl, _, rfl, ite2 (fun e => ?_) (fun e2 => ?_)⟩
    · refine ⟨.ref d, rfl, .ref v, rfl, .ref b, rfl, d, c, v, b, ns, ks, ds, bs, rfl, D1, hok, hv.mono t1, t1 _ _ hb, hB, by omega, fun p g H2 og hg f2 D2 => ?_⟩
      exact q p g H2 (og.up m) hg (f1.trans f2) D2
    have hr2 : ¬ r < 2 := fun z => e2 (decide_eq_true z)
    cases m with
    | zero => omega
    | succ m =>
    have hdm : deep - 1 ≤ (m : Int) := by omega
    refine ⟨.int r, rfl, rfl, _, rfl, ite2 (fun e => ?_) (fun e3 => ?_)⟩
    · -- not
      refine ⟨.ref d, rfl, .ref v, rfl, .ref b, rfl, .int deep, rfl, deep, 1, rfl, rfl, d, c, v, b, deep - 1, ns, ks, ds, bs, rfl, D1, hok, hv.mono t1, t1 _ _ hb, hB, by omega, by omega, hdm, fun p g H2 og hg f2 D2 => ?_⟩
      refine ⟨sz (by show 2 ≤ 100000; decide), fun z nz => ?_⟩
      exact q (.ref z) (.neg g) _ og (.neg upd_same (hg.mono (.of (same_new nz)))) ((f1.trans f2).trans (Fr.new nz)) (D2.new nz)
    have hr3 : r ≠ 2 := fun z => by
      rw [z] at e3
      exact absurd e3 (by decide)
    refine ⟨.int r, rfl, _, 6, rfl, rfl, _, rfl, ite2 (fun e => ?_) (fun e4 => ?_)⟩
    · have hr6 : r < 6 := of_decide_eq_true e
      refine ⟨.ref d, rfl, .ref v, rfl, .ref b, rfl, .int deep, rfl, deep, 1, rfl, rfl, d, c, v, b, deep - 1, ns, ks, ds, bs, rfl, D1, hok, hv.mono t1, t1 _ _ hb, hB, by omega, by omega, hdm, fun p g H2 og hg f2 D2 => ?_⟩
      have t2 := t1.trans (D1.tle f2)
      have f2 := f1.trans f2
      refine ⟨sz (by show 3 ≤ 100000; decide), fun l nl => ?_⟩
      have l3 : (upd H2 l (.lst [.str "and", .str "or", .str "if"])) l = some (.lst [.str "and", .str "or", .str "if"]) := upd_same
      have D3 := D2.new (o := .lst [.str "and", .str "or", .str "if"]) nl
      have t3 := TLe.of (same_new (o := .lst [.str "and", .str "or", .str "if"]) nl)
      have f3 := f2.trans (Fr.new (o := .lst [.str "and", .str "or", .str "if"]) nl)
      generalize upd H2 l (.lst [.str "and", .str "or", .str "if"]) = H3 at l3 D3 t3 f3 ⊢
      have hg := hg.mono t3
      have t3 := t2.trans t3
      obtain ⟨wd, hwd, hw⟩ : ∃ wd : Str, atI ([.str "and", .str "or", .str "if"] : List V) (r - 3) = some (.str wd) ∧ (wd = "and" ∨ wd = "or" ∨ wd = "if") := by
        rcases (show r = 3 ∨ r = 4 ∨ r = 5 by omega) with rfl | rfl | rfl
        · exact ⟨_, rfl, .inl rfl⟩
        · exact ⟨_, rfl, .inr (.inl rfl)⟩
        · exact ⟨_, rfl, .inr (.inr rfl)⟩
      refine ⟨.int r, rfl, r, 3, rfl, rfl, l, _, r - 3, .str wd, rfl, rfl, SqL.of l3, hwd, p, rfl, ?_⟩
      refine ⟨.ref d, rfl, .ref v, rfl, .ref b, rfl, .int deep, rfl, deep, 1, rfl, rfl, d, c, v, b, deep - 1, ns, ks, ds, bs, rfl, D3, hok, hv.mono t3, t3 _ _ hb, hB, by omega, by omega, hdm, fun p2 g2 H4 og2 hg2 f4 D4 => ?_⟩
      have t4 := D3.tle f4
      refine ⟨sz (by show 3 ≤ 100000; decide), fun z nz => ?_⟩
      have s5 := TLe.of (same_new (o := .tup [.str wd, p, p2]) nz)
      have f5 := (f3.trans f4).trans (Fr.new (o := .tup [.str wd, p, p2]) nz)
      have D5 := D4.new (o := .tup [.str wd, p, p2]) nz
      have hg := hg.mono (t4.trans s5)
      have hg2 := hg2.mono s5
      rcases hw with rfl | rfl | rfl
      · exact q (.ref z) (.con g g2) _ ⟨og, og2⟩ (.con upd_same hg hg2) f5 D5
      · exact q (.ref z) (.dis g g2) _ ⟨og, og2⟩ (.dis upd_same hg hg2) f5 D5
      · exact q (.ref z) (.imp g g2) _ ⟨og, og2⟩ (.imp upd_same hg hg2) f5 D5
    have hr6 : ¬ r < 6 := fun z => e4 (decide_eq_true z)
    -- the letter
    refine ⟨sz (by show 9 ≤ 100000; decide), fun l nl => ?_⟩
    show tCall _ _ _ _ _ (upd H1 l (.lst (letters.map V.str))) _
    have l3 : (upd H1 l (.lst (letters.map V.str))) l = some (.lst (letters.map V.str)) := upd_same
    have D3 := D1.new (o := .lst (letters.map V.str)) nl
    have t3 := t1.trans (TLe.of (same_new (o := .lst (letters.map V.str)) nl))
    have f3 := f1.trans (Fr.new (o := .lst (letters.map V.str)) nl)
    have nMl := D1.out nl
    generalize upd H1 l (.lst (letters.map V.str)) = H3 at l3 D3 t3 f3 ⊢
    refine ⟨.ref d, rfl, d, c, 9, rfl, D3, by decide, by decide, fun r2 H4 r2a r2b f4 D4 => ?_⟩
    have l4 := f4.at l3 nMl
    have t4 := t3.trans (D3.tle f4)
    have f4 := f3.trans f4
    obtain ⟨x, x8, hx⟩ := drawn letters_ok r2a (by show r2 < 9; omega)
    refine ⟨l, _, r2, .str x, rfl, rfl, SqL.of l4, hx, ?_⟩
    refine ⟨sz (by show 3 ≤ 100000; decide), fun l2 nl2 => ?_⟩
    have l5 : (upd H4 l2 (.lst [.str "every", .str "some", .str "every"])) l2 = some (.lst [.str "every", .str "some", .str "every"]) := upd_same
    have D5 := D4.new (o := .lst [.str "every", .str "some", .str "every"]) nl2
    have t5 := t4.trans (TLe.of (same_new (o := .lst [.str "every", .str "some", .str "every"]) nl2))
    have f5 := f4.trans (Fr.new (o := .lst [.str "every", .str "some", .str "every"]) nl2)
    generalize upd H4 l2 (.lst [.str "every", .str "some", .str "every"]) = H5 at l5 D5 t5 f5 ⊢
    obtain ⟨wd, hwd, hw⟩ : ∃ wd : Str, atI ([.str "every", .str "some", .str "every"] : List V) (r - 6) = some (.str wd) ∧ (wd = "every" ∨ wd = "some") := by
      rcases (show r = 6 ∨ r = 7 ∨ r = 8 by omega) with rfl | rfl | rfl
      · exact ⟨_, rfl, .inl rfl⟩
      · exact ⟨_, rfl, .inr rfl⟩
      · exact ⟨_, rfl, .inl rfl⟩
    refine ⟨.int r, rfl, r, 6, rfl, rfl, l2, _, r - 6, .str wd, rfl, rfl, SqL.of l5, hwd, .str x, rfl, ?_⟩
    refine ⟨.ref d, rfl, .ref v, rfl, .ref b, rfl, .str x, rfl, sz (by show 1 ≤ 100000; decide), fun b2 nb2 => ?_⟩
    have h6 : (upd H5 b2 (.tup [.str x])) b2 = some (.tup [.str x]) := upd_same
    have D6 := D5.new (o := .tup [.str x]) nb2
    have t6 := t5.trans (TLe.of (same_new (o := .tup [.str x]) nb2))
    have f6 := f5.trans (Fr.new (o := .tup [.str x]) nb2)
    generalize upd H5 b2 (.tup [.str x]) = H6 at h6 D6 t6 f6 ⊢
    have hB2 : Tks (bs ++ [x]) := fun y hy => (List.mem_append.mp hy).elim (hB y) fun z => by
      have e : y = x := by simpa using z
      rw [e]
      exact x8
    have hb2 : (bs ++ [x]).length + m ≤ 6 := by
      rw [List.length_append]
      show _ + 1 + m ≤ 6
      omega
    refine ⟨b, b2, bs.map V.str, [.str x], rfl, rfl, SqT.of (t6 _ _ hb), SqT.of h6, ?_, fun e => ?_, (fun _ z => nomatch z), fun _ _ b3 nb3 => ?_⟩
    · rw [List.length_map]
      show _ + 1 ≤ sizeLine
      exact sz (by omega)
    · have e : bs = [] := List.map_eq_nil_iff.mp e
      subst e
      refine ⟨.int deep, rfl, deep, 1, rfl, rfl, d, c, v, b2, deep - 1, ns, ks, ds, [x], rfl, D6, hok, hv.mono t6, h6, hB2, hb2, by omega, hdm, fun p g H7 og hg f7 D7 => ?_⟩
      refine ⟨sz (by show 3 ≤ 100000; decide), fun z nz => ?_⟩
      have s8 := TLe.of (same_new (o := .tup [.str wd, .str x, p]) nz)
      have f8 := (f6.trans f7).trans (Fr.new (o := .tup [.str wd, .str x, p]) nz)
      have D8 := D7.new (o := .tup [.str wd, .str x, p]) nz
      rcases hw with rfl | rfl
      · exact q (.ref z) (.ev x g) _ ⟨x8, og⟩ (.ev upd_same (hg.mono s8)) f8 D8
      · exact q (.ref z) (.so x g) _ ⟨x8, og⟩ (.so upd_same (hg.mono s8)) f8 D8
    · have h7 : (upd H6 b3 (.tup (bs.map V.str ++ [.str x]))) b3 = some (.tup ((bs ++ [x]).map V.str)) := by rw [upd_same, List.map_append]; rfl
      have D6 := D6.new (o := .tup (bs.map V.str ++ [.str x])) nb3
      have t6 := t6.trans (TLe.of (same_new (o := .tup (bs.map V.str ++ [.str x])) nb3))
      have f6 := f6.trans (Fr.new (o := .tup (bs.map V.str ++ [.str x])) nb3)
      generalize upd H6 b3 (.tup (bs.map V.str ++ [.str x])) = H6' at h7 D6 t6 f6 ⊢
      refine ⟨.int deep, rfl, deep, 1, rfl, rfl, d, c, v, b3, deep - 1, ns, ks, ds, bs ++ [x], rfl, D6, hok, hv.mono t6, h7, hB2, hb2, by omega, hdm, fun p g H7 og hg f7 D7 => ?_⟩
      refine ⟨sz (by show 3 ≤ 100000; decide), fun z nz => ?_⟩
      have s8 := TLe.of (same_new (o := .tup [.str wd, .str x, p]) nz)
      have f8 := (f6.trans f7).trans (Fr.new (o := .tup [.str wd, .str x, p]) nz)
      have D8 := D7.new (o := .tup [.str wd, .str x, p]) nz
      rcases hw with rfl | rfl
      · exact q (.ref z) (.ev x g) _ ⟨x8, og⟩ (.ev upd_same (hg.mono s8)) f8 D8
      · exact q (.ref z) (.so x g) _ ⟨x8, og⟩ (.so upd_same (hg.mono s8)) f8 D8
/-! ### the law -/
abbrev s_law : Stmt := topS 16
abbrev N_law : List Str := ["_law_script", "_law_deck_here", "_law_vocabulary_here", "_law_k", "_law_form_here", "_law_due", "_law_turn", "_law_found"]
theorem sc_law : FnScope N_law ["_law_script"] (defScope s_law) := ⟨rfl, rfl, rfl, by decide +kernel, rfl, by decide +kernel, by decide +kernel⟩
def spLaw (K : PySem.W.Frag) : Sp := fun vs H Q _ => ∃ (a : Addr) (ns : List Int), vs = [.ref a] ∧ SqL K H a (ns.map V.int) ∧ ∀ H', Q (.bl true) H'
abbrev bds : List (List Str) := [[], ["x"], ["u", "w9"]]
theorem ok_law (F : Fun K "law" "law" s_law f fd) (m_range : mg "range" = none) (m_str : mg "str" = none) (m_isinstance : mg "isinstance" = none)
    (C_w_deck : Dn P w K mg base "_law_deck" ["_law_script"] 1 (spDeck K)) (C_w_draw : Dn P w K mg base "_law_draw" ["_law_deck_here", "_law_most"] 1 spDraw)
    (C_w_vocabulary : Dn P w K mg base "_law_vocabulary" ["_law_deck_here"] 3 spVoc) (C_w_form : Dn P w K mg base "_law_form" ["_law_deck_here", "_law_vocabulary_here", "_law_bound", "_law_deep"] 9 (spFormD 5))
    (C_w_text : Dn P w K mg base "_law_text" ["_law_form_here"] 6 (spForm 5)) (C_show_form : Dn P w K mg base "show_form" ["form"] 8 (spForm 5)) :
    FnOk P w K mg base CX0 10 f fd ["_law_script"] (spLaw K) := by
  refine F.ok sc_law (fun vs H Q E h => ?_) (fun cdv A outer s H vs Q E hr h => ?_)
  · obtain ⟨a, ns, rfl, _⟩ := h
    rfl
  · obtain ⟨a, ns, rfl, hS, q⟩ := h
    refine ⟨_, (pss_cons (ps_set (i := 1) sc_law.nd rfl (.inl rfl) (Lc.pe_dn C_w_deck (hr.mono (by omega)) (by rfl) (pa_cons (pv 0) pa_nil)))
      (pss_cons (ps_set (i := 2) sc_law.nd rfl (.inl rfl) (Lc.pe_dn C_w_vocabulary (hr.mono (by omega)) (by rfl) (pa_cons (pv 1) pa_nil)))
      (pss_cons (ps_for PassesOwn.never rfl (pi_range1 (by rfl) m_range (pa_cons pe_int pa_nil)) (pg_name (i := 3) sc_law.nd rfl (.inl rfl))
      (pss_cons (ps_set (i := 4) sc_law.nd rfl (.inl rfl) (Lc.pe_dn C_w_form (hr.mono (by omega)) (by rfl) (pa_cons (pv 1) (pa_cons (pv 2) (pa_cons (pe_ix ix_list (pe_lst (pa_cons (pe_tup pa_nil) (pa_cons (pe_tup (pa_cons pe_str pa_nil)) (pa_cons (pe_tup (pa_cons pe_str (pa_cons pe_str pa_nil))) pa_nil)))) (Lc.pe_dn C_w_draw (hr.mono (by omega)) (by rfl) (pa_cons (pv 1) (pa_cons pe_int pa_nil))) (fun _ _ => rfl)) (pa_cons (Lc.pe_dn C_w_draw (hr.mono (by omega)) (by rfl) (pa_cons (pv 1) (pa_cons pe_int pa_nil))) pa_nil))))))
        (pss_cons (ps_set (i := 5) sc_law.nd rfl (.inl rfl) (Lc.pe_dn C_w_text (hr.mono (by omega)) (by rfl) (pa_cons (pv 4) pa_nil)))
        (pss_one (ps_for PassesOwn.never rfl (pi_range1 (by rfl) m_range (pa_cons pe_int pa_nil)) (pg_name (i := 6) sc_law.nd rfl (.inl rfl))
        (pss_cons (ps_set (i := 7) sc_law.nd rfl (.inl rfl) (Lc.pe_dn C_show_form (hr.mono (by omega)) (by rfl) (pa_cons (pv 4) pa_nil)))
          (pss_one (ps_if (PW.pt (pw_or (pt_not (pt_val (pe_callB call_isi (by rfl) m_isinstance (by decide +kernel) (pa_cons (pv 7) (pa_cons (pe_bltn (v := .ty "str") (by rfl) m_str (by decide +kernel) rfl) pa_nil))))) (pw_or1 (pt_cmpR op_ne (pv 7) (pv 5) (nomark _)))))
          (pss_one (ps_ret pe_bl))
          pss_nil))))))))
      (pss_one (ps_ret pe_bl))))), ?_⟩
    refine ⟨.ref a, rfl, a, ns, rfl, hS, fun d c H1 s1 D1 => ?_⟩
    refine ⟨.ref d, rfl, d, c, rfl, D1, fun ws ks ds v H2 hok hv f2 D2 => ?_⟩
    refine ⟨6, rfl, by decide, by decide, ?_⟩
    refine for_range (lo := 0) (n := (6 : Int).toNat) (fun i σ H' => ∃ y3 y4 y5 y6 y7 : Option V, σ = [some (.ref a), some (.ref d), some (.ref v), y3, y4, y5, y6, y7] ∧ Dk d c H' ∧ VcAt H' v ws ks ds)
      ⟨none, none, none, none, none, rfl, D2, hv⟩ (fun i σ H' hi ⟨y3, y4, y5, y6, y7, e1, D3, v3⟩ => ?_) (fun σ H' ⟨y3, y4, y5, y6, y7, e1, D3, v3⟩ => ?_)
    · subst e1
      refine ⟨.ref d, rfl, .ref v, rfl, Nat.zero_le _, fun b0 nb0 => ?_⟩
      have s4 := same_new (o := .tup []) nb0
      have D4 := D3.new (o := .tup []) nb0
      have q0 : (upd H' b0 (.tup [])) b0 = some (.tup (([] : List Str).map V.str)) := upd_same
      generalize upd H' b0 (.tup []) = H4 at s4 D4 q0 ⊢
      refine ⟨sz (by show 1 ≤ 100000; decide), fun b1 nb1 => ?_⟩
      have s5 := s4.trans (same_new (o := .tup [.str "x"]) nb1)
      have q0 := same_new (o := .tup [.str "x"]) nb1 _ _ q0
      have D5 := D4.new (o := .tup [.str "x"]) nb1
      have q1 : (upd H4 b1 (.tup [.str "x"])) b1 = some (.tup ((["x"] : List Str).map V.str)) := upd_same
      generalize upd H4 b1 (.tup [.str "x"]) = H5 at s5 D5 q0 q1 ⊢
      refine ⟨sz (by show 2 ≤ 100000; decide), fun b2 nb2 => ?_⟩
      have s6 := s5.trans (same_new (o := .tup [.str "u", .str "w9"]) nb2)
      have q0 := same_new (o := .tup [.str "u", .str "w9"]) nb2 _ _ q0
      have q1 := same_new (o := .tup [.str "u", .str "w9"]) nb2 _ _ q1
      have D6 := D5.new (o := .tup [.str "u", .str "w9"]) nb2
      have q2 : (upd H5 b2 (.tup [.str "u", .str "w9"])) b2 = some (.tup ((["u", "w9"] : List Str).map V.str)) := upd_same
      generalize upd H5 b2 (.tup [.str "u", .str "w9"]) = H6 at s6 D6 q0 q1 q2 ⊢
      refine ⟨sz (by show 3 ≤ 100000; decide), fun l nl => ?_⟩
      have nMl := D6.out nl
      have s7 := s6.trans (same_new (o := .lst [.ref b0, .ref b1, .ref b2]) nl)
      have q0 := same_new (o := .lst [.ref b0, .ref b1, .ref b2]) nl _ _ q0
      have q1 := same_new (o := .lst [.ref b0, .ref b1, .ref b2]) nl _ _ q1
      have q2 := same_new (o := .lst [.ref b0, .ref b1, .ref b2]) nl _ _ q2
      have D7 := D6.new (o := .lst [.ref b0, .ref b1, .ref b2]) nl
      have l7 : (upd H6 l (.lst [.ref b0, .ref b1, .ref b2])) l = some (.lst [.ref b0, .ref b1, .ref b2]) := upd_same
      generalize upd H6 l (.lst [.ref b0, .ref b1, .ref b2]) = H7 at s7 D7 q0 q1 q2 l7 ⊢
      refine ⟨.ref d, rfl, d, c, 3, rfl, D7, by decide, by decide, fun r H8 ra rb f8 D8 => ?_⟩
      have t8 := D7.tle f8
      have l8 := f8.at l7 nMl
      obtain ⟨b, bs, hb, hbs, hB, hbl⟩ : ∃ (b : Addr) (bs : List Str), atI ([.ref b0, .ref b1, .ref b2] : List V) r = some (.ref b) ∧ H8 b = some (.tup (bs.map V.str)) ∧ Tks bs ∧ bs.length ≤ 2 := by
        rcases (show r = 0 ∨ r = 1 ∨ r = 2 by omega) with rfl | rfl | rfl
        · exact ⟨b0, [], rfl, t8 _ _ q0, (fun _ z => nomatch z), by decide⟩
        · refine ⟨b1, ["x"], rfl, t8 _ _ q1, fun x hx => ?_, by decide⟩
          have e : x = "x" := by simpa using hx
          rw [e]
          decide +kernel
        · refine ⟨b2, ["u", "w9"], rfl, t8 _ _ q2, fun x hx => ?_, by decide⟩
          simp only [List.mem_cons, List.not_mem_nil, or_false] at hx
          rcases hx with rfl | rfl <;> decide +kernel
      refine ⟨l, _, r, .ref b, rfl, rfl, SqL.of l8, hb, ?_⟩
      refine ⟨.ref d, rfl, d, c, 5, rfl, D8, by decide, by decide, fun deep H9 da db f9 D9 => ?_⟩
      have t9 := D8.tle f9
      refine ⟨d, c, v, b, deep, ws, ks, ds, bs, rfl, D9, hok, v3.mono (((TLe.of s7).trans t8).trans t9), t9 _ _ hbs, hB, (show bs.length + 4 ≤ 6 by omega), da, (show deep ≤ 4 by omega), fun p g H10 og hg f10 D10 => ?_⟩
      have v10 := v3.mono ((((TLe.of s7).trans t8).trans t9).trans (D9.tle f10))
      refine ⟨p, rfl, p, g, rfl, hg, og, by decide, fun H11 s11 => ?_⟩
      have hg := hg.mono (.of s11)
      have v11 := v10.mono (.of s11)
      have D11 : Dk d c H11 := by
        obtain ⟨cells, n, sm, k1, k2, k3⟩ := D10
        exact ⟨cells, n, sm, s11 _ _ k1, s11 _ _ k2, k3⟩
      refine ⟨2, rfl, by decide, by decide, ?_⟩
      refine for_range (lo := 0) (n := (2 : Int).toNat) (fun j σ H' => ∃ y6 y7 : Option V, σ = [some (.ref a), some (.ref d), some (.ref v), some (.int (0 + (i : Int))), some p, some (.str (fmS g)), y6, y7] ∧ Dk d c H' ∧ VcAt H' v ws ks ds ∧ FmAt H' p g)
        ⟨y6, y7, rfl, D11, v11, hg⟩ (fun j σ H' hi ⟨y6, y7, e1, D12, v12, g12⟩ => ?_) (fun σ H' ⟨y6, y7, e1, D12, v12, g12⟩ => ?_)
      · subst e1
        refine ⟨p, rfl, p, g, rfl, g12, og, by decide, fun H13 s13 => ?_⟩
        have D13 : Dk d c H13 := by
          obtain ⟨cells, n, sm, k1, k2, k3⟩ := D12
          exact ⟨cells, n, sm, s13 _ _ k1, s13 _ _ k2, k3⟩
        refine ⟨.str (fmS g), rfl, _, _, .type "str", .type "str", true, rfl, .ty "str", .base (.str _), kit_ty (by decide +kernel), _, rfl, iteF ?_⟩
        refine ⟨.str (fmS g), rfl, .str (fmS g), rfl, rfl, _, rfl, ?_⟩
        rw [decide_eq_true rfl]
        refine iteF ?_
        exact ⟨_, _, rfl, D13, v12.mono (.of s13), g12.mono (.of s13)⟩
      · subst e1
        exact ⟨_, _, _, _, _, rfl, D12, v12⟩
    · subst e1
      exact q _
end
end K15
set_option Elab.async false
set_option linter.all false
set_option maxRecDepth 100000
set_option maxHeartbeats 4000000
namespace K15
open PySem PySem.Spec PyProof.Rows L2 Lc
/-! ### what the top has written -/
/-- a def as the top has written it -/
structure Td (K : PySem.W.Frag) (x : Str) (st : Stmt) (f : Addr) (fd : FuncData) : Prop where
  F : Fun K x x st f fd
  a : PySem.W.nsIn K mainGlobals x = some (some (.ref f))
theorem all_mk {l : PySem.W.OpenLaw} {w : World} {K : PySem.W.Frag} {h : Heap} {mg : Str → Option Value} {fa : Addr} (X : K.In h) (G : h.Ns mainGlobals mg) (hfa : mg "law" = some (.ref fa))
    {f0 : Addr} {od0 an0 : Option Addr} {sl0 : Array (Option Value)} {oc0 kV0 dc0 pm0 cd0 ct0 : Value}
    {f1 : Addr} {od1 an1 : Option Addr} {sl1 : Array (Option Value)} {oc1 kV1 dc1 pm1 cd1 ct1 : Value}
    {f2 : Addr} {od2 an2 : Option Addr} {sl2 : Array (Option Value)} {oc2 kV2 dc2 pm2 cd2 ct2 : Value}
    {f3 : Addr} {od3 an3 : Option Addr} {sl3 : Array (Option Value)} {oc3 kV3 dc3 pm3 cd3 ct3 : Value}
    {f4 : Addr} {od4 an4 : Option Addr} {sl4 : Array (Option Value)} {oc4 kV4 dc4 pm4 cd4 ct4 : Value}
    {f5 : Addr} {od5 an5 : Option Addr} {sl5 : Array (Option Value)} {oc5 kV5 dc5 pm5 cd5 ct5 : Value}
    {f6 : Addr} {od6 an6 : Option Addr} {sl6 : Array (Option Value)} {oc6 kV6 dc6 pm6 cd6 ct6 : Value}
    {f7 : Addr} {od7 an7 : Option Addr} {sl7 : Array (Option Value)} {oc7 kV7 dc7 pm7 cd7 ct7 : Value}
    {f8 : Addr} {od8 an8 : Option Addr} {sl8 : Array (Option Value)} {oc8 kV8 dc8 pm8 cd8 ct8 : Value}
    {f9 : Addr} {od9 an9 : Option Addr} {sl9 : Array (Option Value)} {oc9 kV9 dc9 pm9 cd9 ct9 : Value}
    {f10 : Addr} {od10 an10 : Option Addr} {sl10 : Array (Option Value)} {oc10 kV10 dc10 pm10 cd10 ct10 : Value}
    {f11 : Addr} {od11 an11 : Option Addr} {sl11 : Array (Option Value)} {oc11 kV11 dc11 pm11 cd11 ct11 : Value}
    {f12 : Addr} {od12 an12 : Option Addr} {sl12 : Array (Option Value)} {oc12 kV12 dc12 pm12 cd12 ct12 : Value}
    {f13 : Addr} {od13 an13 : Option Addr} {sl13 : Array (Option Value)} {oc13 kV13 dc13 pm13 cd13 ct13 : Value}
    {f14 : Addr} {od14 an14 : Option Addr} {sl14 : Array (Option Value)} {oc14 kV14 dc14 pm14 cd14 ct14 : Value}
    (a0 : PySem.W.nsIn K mainGlobals "show_share" = some (some (.ref f0))) (l0 : K.lookup f0 = some ⟨oc0, od0, .func (PySem.W.fnOf "show_share" "show_share" (defArgs s_show_share) (defBody s_show_share) (defScope s_show_share) .none kV0 dc0 pm0 an0 cd0 ct0), sl0⟩) (c0 : PySem.W.codeIn K cd0 "show_share" = true) (k0 : PySem.W.keepIn K (.ref f0) = true)
    (a1 : PySem.W.nsIn K mainGlobals "show_sum" = some (some (.ref f1))) (l1 : K.lookup f1 = some ⟨oc1, od1, .func (PySem.W.fnOf "show_sum" "show_sum" (defArgs s_show_sum) (defBody s_show_sum) (defScope s_show_sum) .none kV1 dc1 pm1 an1 cd1 ct1), sl1⟩) (c1 : PySem.W.codeIn K cd1 "show_sum" = true) (k1 : PySem.W.keepIn K (.ref f1) = true)
    (a2 : PySem.W.nsIn K mainGlobals "show_simple" = some (some (.ref f2))) (l2 : K.lookup f2 = some ⟨oc2, od2, .func (PySem.W.fnOf "show_simple" "show_simple" (defArgs s_show_simple) (defBody s_show_simple) (defScope s_show_simple) .none kV2 dc2 pm2 an2 cd2 ct2), sl2⟩) (c2 : PySem.W.codeIn K cd2 "show_simple" = true) (k2 : PySem.W.keepIn K (.ref f2) = true)
    (a3 : PySem.W.nsIn K mainGlobals "show_form" = some (some (.ref f3))) (l3 : K.lookup f3 = some ⟨oc3, od3, .func (PySem.W.fnOf "show_form" "show_form" (defArgs s_show_form) (defBody s_show_form) (defScope s_show_form) .none kV3 dc3 pm3 an3 cd3 ct3), sl3⟩) (c3 : PySem.W.codeIn K cd3 "show_form" = true) (k3 : PySem.W.keepIn K (.ref f3) = true)
    (a4 : PySem.W.nsIn K mainGlobals "_law_deck" = some (some (.ref f4))) (l4 : K.lookup f4 = some ⟨oc4, od4, .func (PySem.W.fnOf "_law_deck" "_law_deck" (defArgs s_w_deck) (defBody s_w_deck) (defScope s_w_deck) .none kV4 dc4 pm4 an4 cd4 ct4), sl4⟩) (c4 : PySem.W.codeIn K cd4 "_law_deck" = true) (k4 : PySem.W.keepIn K (.ref f4) = true)
    (a5 : PySem.W.nsIn K mainGlobals "_law_draw" = some (some (.ref f5))) (l5 : K.lookup f5 = some ⟨oc5, od5, .func (PySem.W.fnOf "_law_draw" "_law_draw" (defArgs s_w_draw) (defBody s_w_draw) (defScope s_w_draw) .none kV5 dc5 pm5 an5 cd5 ct5), sl5⟩) (c5 : PySem.W.codeIn K cd5 "_law_draw" = true) (k5 : PySem.W.keepIn K (.ref f5) = true)
    (a6 : PySem.W.nsIn K mainGlobals "_law_row" = some (some (.ref f6))) (l6 : K.lookup f6 = some ⟨oc6, od6, .func (PySem.W.fnOf "_law_row" "_law_row" (defArgs s_w_row) (defBody s_w_row) (defScope s_w_row) .none kV6 dc6 pm6 an6 cd6 ct6), sl6⟩) (c6 : PySem.W.codeIn K cd6 "_law_row" = true) (k6 : PySem.W.keepIn K (.ref f6) = true)
    (a7 : PySem.W.nsIn K mainGlobals "_law_vocabulary" = some (some (.ref f7))) (l7 : K.lookup f7 = some ⟨oc7, od7, .func (PySem.W.fnOf "_law_vocabulary" "_law_vocabulary" (defArgs s_w_vocabulary) (defBody s_w_vocabulary) (defScope s_w_vocabulary) .none kV7 dc7 pm7 an7 cd7 ct7), sl7⟩) (c7 : PySem.W.codeIn K cd7 "_law_vocabulary" = true) (k7 : PySem.W.keepIn K (.ref f7) = true)
    (a8 : PySem.W.nsIn K mainGlobals "_law_great" = some (some (.ref f8))) (l8 : K.lookup f8 = some ⟨oc8, od8, .func (PySem.W.fnOf "_law_great" "_law_great" (defArgs s_w_great) (defBody s_w_great) (defScope s_w_great) .none kV8 dc8 pm8 an8 cd8 ct8), sl8⟩) (c8 : PySem.W.codeIn K cd8 "_law_great" = true) (k8 : PySem.W.keepIn K (.ref f8) = true)
    (a9 : PySem.W.nsIn K mainGlobals "_law_sum" = some (some (.ref f9))) (l9 : K.lookup f9 = some ⟨oc9, od9, .func (PySem.W.fnOf "_law_sum" "_law_sum" (defArgs s_w_sum) (defBody s_w_sum) (defScope s_w_sum) .none kV9 dc9 pm9 an9 cd9 ct9), sl9⟩) (c9 : PySem.W.codeIn K cd9 "_law_sum" = true) (k9 : PySem.W.keepIn K (.ref f9) = true)
    (a10 : PySem.W.nsIn K mainGlobals "_law_plain" = some (some (.ref f10))) (l10 : K.lookup f10 = some ⟨oc10, od10, .func (PySem.W.fnOf "_law_plain" "_law_plain" (defArgs s_w_plain) (defBody s_w_plain) (defScope s_w_plain) .none kV10 dc10 pm10 an10 cd10 ct10), sl10⟩) (c10 : PySem.W.codeIn K cd10 "_law_plain" = true) (k10 : PySem.W.keepIn K (.ref f10) = true)
    (a11 : PySem.W.nsIn K mainGlobals "_law_form" = some (some (.ref f11))) (l11 : K.lookup f11 = some ⟨oc11, od11, .func (PySem.W.fnOf "_law_form" "_law_form" (defArgs s_w_form) (defBody s_w_form) (defScope s_w_form) .none kV11 dc11 pm11 an11 cd11 ct11), sl11⟩) (c11 : PySem.W.codeIn K cd11 "_law_form" = true) (k11 : PySem.W.keepIn K (.ref f11) = true)
    (a12 : PySem.W.nsIn K mainGlobals "_law_sum_text" = some (some (.ref f12))) (l12 : K.lookup f12 = some ⟨oc12, od12, .func (PySem.W.fnOf "_law_sum_text" "_law_sum_text" (defArgs s_w_sum_text) (defBody s_w_sum_text) (defScope s_w_sum_text) .none kV12 dc12 pm12 an12 cd12 ct12), sl12⟩) (c12 : PySem.W.codeIn K cd12 "_law_sum_text" = true) (k12 : PySem.W.keepIn K (.ref f12) = true)
    (a13 : PySem.W.nsIn K mainGlobals "_law_text" = some (some (.ref f13))) (l13 : K.lookup f13 = some ⟨oc13, od13, .func (PySem.W.fnOf "_law_text" "_law_text" (defArgs s_w_text) (defBody s_w_text) (defScope s_w_text) .none kV13 dc13 pm13 an13 cd13 ct13), sl13⟩) (c13 : PySem.W.codeIn K cd13 "_law_text" = true) (k13 : PySem.W.keepIn K (.ref f13) = true)
    (a14 : PySem.W.nsIn K mainGlobals "law" = some (some (.ref f14))) (l14 : K.lookup f14 = some ⟨oc14, od14, .func (PySem.W.fnOf "law" "law" (defArgs s_law) (defBody s_law) (defScope s_law) .none kV14 dc14 pm14 an14 cd14 ct14), sl14⟩) (c14 : PySem.W.codeIn K cd14 "law" = true) (k14 : PySem.W.keepIn K (.ref f14) = true)
    (z_len : PySem.W.nsIn K mainGlobals "len" = some none)
    (z_list : PySem.W.nsIn K mainGlobals "list" = some none)
    (z_sum : PySem.W.nsIn K mainGlobals "sum" = some none)
    (z_range : PySem.W.nsIn K mainGlobals "range" = some none)
    (z_tuple : PySem.W.nsIn K mainGlobals "tuple" = some none)
    (z_sorted : PySem.W.nsIn K mainGlobals "sorted" = some none)
    (z_int : PySem.W.nsIn K mainGlobals "int" = some none)
    (z_str : PySem.W.nsIn K mainGlobals "str" = some none)
    (z_isinstance : PySem.W.nsIn K mainGlobals "isinstance" = some none) :
    ∃ fd : FuncData, (∀ (s : Shared) (v : Value), BindsTo s fd ⟨[v], []⟩ [("_law_script", v)]) ∧ ∀ base : Heap, K.In base → base.Ns mainGlobals mg → FnOk l.prog w K mg base CX0 10 fa fd ["_law_script"] (spLaw K) := by
  have e := hfa.symm.trans (PySem.W.mg_of X G a14)
  cases e
  have F_show_share := fun_mk (st := s_show_share) l0 c0 k0
  have b_show_share := F_show_share.binds (ps := ["kind", "times"]) fun _ _ _ _ _ _ us hl => match us, hl with | [_, _], _ => rfl
  have F_show_sum := fun_mk (st := s_show_sum) l1 c1 k1
  have b_show_sum := F_show_sum.binds (ps := ["total"]) fun _ _ _ _ _ _ us hl => match us, hl with | [_], _ => rfl
  have F_show_simple := fun_mk (st := s_show_simple) l2 c2 k2
  have b_show_simple := F_show_simple.binds (ps := ["form"]) fun _ _ _ _ _ _ us hl => match us, hl with | [_], _ => rfl
  have F_show_form := fun_mk (st := s_show_form) l3 c3 k3
  have b_show_form := F_show_form.binds (ps := ["form"]) fun _ _ _ _ _ _ us hl => match us, hl with | [_], _ => rfl
  have F_w_deck := fun_mk (st := s_w_deck) l4 c4 k4
  have b_w_deck := F_w_deck.binds (ps := ["_law_script"]) fun _ _ _ _ _ _ us hl => match us, hl with | [_], _ => rfl
  have F_w_draw := fun_mk (st := s_w_draw) l5 c5 k5
  have b_w_draw := F_w_draw.binds (ps := ["_law_deck_here", "_law_most"]) fun _ _ _ _ _ _ us hl => match us, hl with | [_, _], _ => rfl
  have F_w_row := fun_mk (st := s_w_row) l6 c6 k6
  have b_w_row := F_w_row.binds (ps := ["_law_deck_here", "_law_many", "_law_great_here"]) fun _ _ _ _ _ _ us hl => match us, hl with | [_, _, _], _ => rfl
  have F_w_vocabulary := fun_mk (st := s_w_vocabulary) l7 c7 k7
  have b_w_vocabulary := F_w_vocabulary.binds (ps := ["_law_deck_here"]) fun _ _ _ _ _ _ us hl => match us, hl with | [_], _ => rfl
  have F_w_great := fun_mk (st := s_w_great) l8 c8 k8
  have b_w_great := F_w_great.binds (ps := ["_law_deck_here"]) fun _ _ _ _ _ _ us hl => match us, hl with | [_], _ => rfl
  have F_w_sum := fun_mk (st := s_w_sum) l9 c9 k9
  have b_w_sum := F_w_sum.binds (ps := ["_law_deck_here", "_law_kinds"]) fun _ _ _ _ _ _ us hl => match us, hl with | [_, _], _ => rfl
  have F_w_plain := fun_mk (st := s_w_plain) l10 c10 k10
  have b_w_plain := F_w_plain.binds (ps := ["_law_deck_here", "_law_vocabulary_here", "_law_bound"]) fun _ _ _ _ _ _ us hl => match us, hl with | [_, _, _], _ => rfl
  have F_w_form := fun_mk (st := s_w_form) l11 c11 k11
  have b_w_form := F_w_form.binds (ps := ["_law_deck_here", "_law_vocabulary_here", "_law_bound", "_law_deep"]) fun _ _ _ _ _ _ us hl => match us, hl with | [_, _, _, _], _ => rfl
  have F_w_sum_text := fun_mk (st := s_w_sum_text) l12 c12 k12
  have b_w_sum_text := F_w_sum_text.binds (ps := ["_law_total"]) fun _ _ _ _ _ _ us hl => match us, hl with | [_], _ => rfl
  have F_w_text := fun_mk (st := s_w_text) l13 c13 k13
  have b_w_text := F_w_text.binds (ps := ["_law_form_here"]) fun _ _ _ _ _ _ us hl => match us, hl with | [_], _ => rfl
  have F_law := fun_mk (st := s_law) l14 c14 k14
  have m_len := PySem.W.mg_none_of X G z_len
  have m_list := PySem.W.mg_none_of X G z_list
  have m_sum := PySem.W.mg_none_of X G z_sum
  have m_range := PySem.W.mg_none_of X G z_range
  have m_tuple := PySem.W.mg_none_of X G z_tuple
  have m_sorted := PySem.W.mg_none_of X G z_sorted
  have m_int := PySem.W.mg_none_of X G z_int
  have m_str := PySem.W.mg_none_of X G z_str
  have m_isinstance := PySem.W.mg_none_of X G z_isinstance
  refine ⟨PySem.W.fnOf "law" "law" (defArgs s_law) (defBody s_law) (defScope s_law) .none kV14 dc14 pm14 an14 cd14 ct14, fun s v => .of_eq rfl, fun base hb hg => ?_⟩
  have C_show_share : Dn l.prog w K mg base "show_share" ["kind", "times"] 1 spShare := ⟨f0, _, F_show_share.kp, PySem.W.mg_of X G a0, b_show_share, ok_show_share F_show_share⟩
  have C_show_sum : Dn l.prog w K mg base "show_sum" ["total"] 2 spSum := ⟨f1, _, F_show_sum.kp, PySem.W.mg_of X G a1, b_show_sum, ok_show_sum F_show_sum m_str C_show_share⟩
  have C_show_simple : Dn l.prog w K mg base "show_simple" ["form"] 3 spSimple := ⟨f2, _, F_show_simple.kp, PySem.W.mg_of X G a2, b_show_simple, ok_show_simple F_show_simple C_show_sum⟩
  have C_show_form : Dn l.prog w K mg base "show_form" ["form"] 8 (spForm 5) := ⟨f3, _, F_show_form.kp, PySem.W.mg_of X G a3, b_show_form, ok_show_form F_show_form (PySem.W.mg_of X G a3) b_show_form C_show_simple 5⟩
  have C_w_deck : Dn l.prog w K mg base "_law_deck" ["_law_script"] 1 (spDeck K) := ⟨f4, _, F_w_deck.kp, PySem.W.mg_of X G a4, b_w_deck, ok_w_deck F_w_deck m_list m_sum⟩
  have C_w_draw : Dn l.prog w K mg base "_law_draw" ["_law_deck_here", "_law_most"] 1 spDraw := ⟨f5, _, F_w_draw.kp, PySem.W.mg_of X G a5, b_w_draw, ok_w_draw F_w_draw⟩
  have C_w_row : Dn l.prog w K mg base "_law_row" ["_law_deck_here", "_law_many", "_law_great_here"] 2 spRow := ⟨f6, _, F_w_row.kp, PySem.W.mg_of X G a6, b_w_row, ok_w_row F_w_row m_range m_len C_w_draw⟩
  have C_w_vocabulary : Dn l.prog w K mg base "_law_vocabulary" ["_law_deck_here"] 3 spVoc := ⟨f7, _, F_w_vocabulary.kp, PySem.W.mg_of X G a7, b_w_vocabulary, ok_w_vocabulary F_w_vocabulary m_len m_tuple m_sorted C_w_draw C_w_row⟩
  have C_w_great : Dn l.prog w K mg base "_law_great" ["_law_deck_here"] 2 spGreat := ⟨f8, _, F_w_great.kp, PySem.W.mg_of X G a8, b_w_great, ok_w_great F_w_great C_w_draw⟩
  have C_w_sum : Dn l.prog w K mg base "_law_sum" ["_law_deck_here", "_law_kinds"] 3 spSumD := ⟨f9, _, F_w_sum.kp, PySem.W.mg_of X G a9, b_w_sum, ok_w_sum F_w_sum m_tuple C_w_draw C_w_great⟩
  have C_w_plain : Dn l.prog w K mg base "_law_plain" ["_law_deck_here", "_law_vocabulary_here", "_law_bound"] 4 spPlain := ⟨f10, _, F_w_plain.kp, PySem.W.mg_of X G a10, b_w_plain, ok_w_plain F_w_plain m_len m_list C_w_draw C_w_sum⟩
  have C_w_form : Dn l.prog w K mg base "_law_form" ["_law_deck_here", "_law_vocabulary_here", "_law_bound", "_law_deep"] 9 (spFormD 5) := ⟨f11, _, F_w_form.kp, PySem.W.mg_of X G a11, b_w_form, ok_w_form F_w_form (PySem.W.mg_of X G a11) b_w_form C_w_draw C_w_plain 5⟩
  have C_w_sum_text : Dn l.prog w K mg base "_law_sum_text" ["_law_total"] 1 spSum := ⟨f12, _, F_w_sum_text.kp, PySem.W.mg_of X G a12, b_w_sum_text, ok_w_sum_text F_w_sum_text m_str m_int⟩
  have C_w_text : Dn l.prog w K mg base "_law_text" ["_law_form_here"] 6 (spForm 5) := ⟨f13, _, F_w_text.kp, PySem.W.mg_of X G a13, b_w_text, ok_w_text F_w_text (PySem.W.mg_of X G a13) b_w_text C_w_sum_text 5⟩
  exact ok_law F_law m_range m_str m_isinstance C_w_deck C_w_draw C_w_vocabulary C_w_form C_w_text C_show_form
end K15
open PySem PySem.W PyProof.Rows
set_option maxHeartbeats 0 in
theorem PySem.Challenge.cw_linecourt_k15_forms_written_holds : PySem.Challenge.rw_linecourt_k15_forms_written.Holds := by
  w_on; o_law; k_head; (case hw => w_witness2)
  k_fill
  refine L2.walk_of (l := PySem.Challenge.rw_linecourt_k15_forms_written) (n := 63) (k := 10) (x := "_law_script") (CX := fun _ => L2.CX0) (sp := fun w => K15.spLaw _) rfl (by decide) rfl ⟨rfl, by decide, by decide⟩ (fun w h Y => PySem.W.kIn_of Y) ?F (fun _ _ a ns hl _ hS => ⟨a, ns, rfl, hS, fun _ => rfl⟩) (fun _ _ _ _ _ h => h)
  case F =>
    intro w mg fa h KX G hmg
    refine' K15.all_mk KX G hmg ?a0 ?l0 ?c0 ?k0 ?a1 ?l1 ?c1 ?k1 ?a2 ?l2 ?c2 ?k2 ?a3 ?l3 ?c3 ?k3 ?a4 ?l4 ?c4 ?k4 ?a5 ?l5 ?c5 ?k5 ?a6 ?l6 ?c6 ?k6 ?a7 ?l7 ?c7 ?k7 ?a8 ?l8 ?c8 ?k8 ?a9 ?l9 ?c9 ?k9 ?a10 ?l10 ?c10 ?k10 ?a11 ?l11 ?c11 ?k11 ?a12 ?l12 ?c12 ?k12 ?a13 ?l13 ?c13 ?k13 ?a14 ?l14 ?c14 ?k14 ?z_len ?z_list ?z_sum ?z_range ?z_tuple ?z_sorted ?z_int ?z_str ?z_isinstance
    (case a0 => k_is); (case l0 => k_is); (case c0 => k_is); (case k0 => k_is); (case a1 => k_is); (case l1 => k_is); (case c1 => k_is); (case k1 => k_is); (case a2 => k_is); (case l2 => k_is); (case c2 => k_is); (case k2 => k_is); (case a3 => k_is); (case l3 => k_is); (case c3 => k_is); (case k3 => k_is); (case a4 => k_is); (case l4 => k_is); (case c4 => k_is); (case k4 => k_is); (case a5 => k_is); (case l5 => k_is); (case c5 => k_is); (case k5 => k_is); (case a6 => k_is); (case l6 => k_is); (case c6 => k_is); (case k6 => k_is); (case a7 => k_is); (case l7 => k_is); (case c7 => k_is); (case k7 => k_is); (case a8 => k_is); (case l8 => k_is); (case c8 => k_is); (case k8 => k_is); (case a9 => k_is); (case l9 => k_is); (case c9 => k_is); (case k9 => k_is); (case a10 => k_is); (case l10 => k_is); (case c10 => k_is); (case k10 => k_is); (case a11 => k_is); (case l11 => k_is); (case c11 => k_is); (case k11 => k_is); (case a12 => k_is); (case l12 => k_is); (case c12 => k_is); (case k12 => k_is); (case a13 => k_is); (case l13 => k_is); (case c13 => k_is); (case k13 => k_is); (case a14 => k_is); (case l14 => k_is); (case c14 => k_is); (case k14 => k_is); (case z_len => k_is); (case z_list => k_is); (case z_sum => k_is); (case z_range => k_is); (case z_tuple => k_is); (case z_sorted => k_is); (case z_int => k_is); (case z_str => k_is); (case z_isinstance => k_is)
