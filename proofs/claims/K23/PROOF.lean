import PyProof.Rows.All
import Wide.All
import OpenK.AllK
import Wide.FinOn
import HandS.ForMost
import HandS.More
import HandS.Wide
import HandS.IsInst
import HandS.Flow
import HandS.Replace
import HandS.Evl
import PyProof.NeData
import HandS.TupAny
import HandS.AnyAll
import HandS.Nested
import HandS.EndTab
import PyProof.EnumIter
import PyProof.EnumMake
import PyProof.EnumFor
import PyProof.TupleIter
import PyProof.WalksMore
import HandS.Walk
import HandS.Zip0
import PyProof.ListStr
import HandS.Deep
import HandS.FStr
import HandS.Zip
import PySem.Challenge.RW_linecourt_k23_boxes_and_openers
set_option Elab.async false
set_option linter.all false
set_option maxRecDepth 100000
set_option maxHeartbeats 4000000
namespace Lc
open PySem PySem.Spec PyProof.Rows L2
/-! ### a def that is called -/
structure Dn (P : Program) (w : World) (K : PySem.W.Frag) (mg : Str → Option Value) (base : Heap) (x : Str) (ps : List Str) (k : Nat) (sp : Sp) where
  f : Addr
  fd : FuncData
  kp : PySem.W.keepIn K (.ref f) = true
  g : mg x = some (.ref f)
  b : Binds K fd ps []
  G : FnOk P w K mg base CX0 k f fd ps sp
section
variable {X : Cx} {x : Str} {ps : List Str} {k : Nat} {sp : Sp} {e : Expr} {es : List Expr} {t : TA} {p pos : Pos}
theorem pe_dn (C : Dn X.prog X.w X.K X.mg X.base x ps k sp) (hr : Room k X.A) (hg : Gl X x) (ha : PA X (e :: es) t) (hdb : (x == ("__debug__" : Str)) = false := by decide)
    (he : starEach (e :: es) X.env = (false, eval e X.env) :: starEach es X.env := by rfl) (hpl : (backTo pos (starEach es X.env)).any (·.1) = false := by rfl) :
    PE X (.Call (.Name x p) (e :: es) [] pos) (tCall sp [] E0 t) := pe_call C.G hr hg C.g C.kp C.b .nil pass0 ha hdb he hpl
theorem pe_dn0 (C : Dn X.prog X.w X.K X.mg X.base x ps k sp) (hr : Room k X.A) (hg : Gl X x) (hdb : (x == ("__debug__" : Str)) = false := by decide) :
    PE X (.Call (.Name x p) [] [] pos) (tCall sp [] E0 tNil) := pe_call0 C.G hr hg C.g C.kp C.b .nil pass0 hdb
end
/-! ### frames: what is not in M stays as it is -/
def Fr (M : Addr → Prop) (H H' : Hp) : Prop := ∀ b o, H b = some o → ∃ o', H' b = some o' ∧ (¬ M b → o' = o)
theorem Fr.refl {M : Addr → Prop} (H : Hp) : Fr M H H := fun _ o h => ⟨o, h, fun _ => rfl⟩
theorem Fr.trans {M : Addr → Prop} {H H1 H2 : Hp} (a : Fr M H H1) (b : Fr M H1 H2) : Fr M H H2 := fun c o h => by
  obtain ⟨o1, h1, e1⟩ := a c o h
  obtain ⟨o2, h2, e2⟩ := b c o1 h1
  exact ⟨o2, h2, fun n => (e2 n).trans (e1 n)⟩
theorem Fr.new {M : Addr → Prop} {H : Hp} {p : Addr} {o : HO} (h : H p = none) : Fr M H (upd H p o) := fun b u e => ⟨u, by rw [upd_ne (ne_of_none e h)]; exact e, fun _ => rfl⟩
theorem Fr.mut {M : Addr → Prop} {H : Hp} {p : Addr} {o : HO} (h : M p) : Fr M H (upd H p o) := fun b u e => by
  by_cases q : b = p
  · subst q
    exact ⟨o, upd_same, fun n => absurd h n⟩
  · exact ⟨u, by rw [upd_ne q]; exact e, fun _ => rfl⟩
/-- what H does not know may change -/
theorem Fr.own {M : Addr → Prop} {H H' : Hp} {p : Addr} {o : HO} (e : Fr M H H') (h : H p = none) : Fr M H (upd H' p o) := fun b u q => by
  obtain ⟨o', h1, h2⟩ := e b u q
  exact ⟨o', by rw [upd_ne (ne_of_none q h)]; exact h1, h2⟩
theorem Fr.free {M : Addr → Prop} {H H' : Hp} {p : Addr} (e : Fr M H H') (h : H' p = none) : H p = none := by
  cases q : H p with
  | none => rfl
  | some o =>
    obtain ⟨o', h1, _⟩ := e p o q
    rw [h1] at h
    cases h
theorem Fr.at {M : Addr → Prop} {H H' : Hp} {b : Addr} {o : HO} (e : Fr M H H') (h : H b = some o) (n : ¬ M b) : H' b = some o := by
  obtain ⟨o', h1, h2⟩ := e b o h
  rw [h2 n] at h1
  exact h1
theorem Fr.of {M : Addr → Prop} {H H' : Hp} (e : Same H H') : Fr M H H' := fun b o h => ⟨o, e b o h, fun _ => rfl⟩
theorem Fr.seq {M : Addr → Prop} {K : PySem.W.Frag} {H H' : Hp} {a : Addr} {xs : List V} (e : Fr M H H') (n : ¬ M a) (h : SqL K H a xs) : SqL K H' a xs := by
  rcases h with (h | ⟨o, h⟩) | h
  · exact .inl (.inl (e.at h n))
  · exact .inl (.inr ⟨o, e.at h n⟩)
  · exact .inr h
theorem same_new {H : Hp} {p : Addr} {o : HO} (h : H p = none) : Same H (upd H p o) := fun b x e => by
  rw [upd_ne (ne_of_none e h)]
  exact e
theorem sz {n : Nat} (h : n ≤ 100000) : n ≤ sizeLine := Nat.le_trans h (by decide)
theorem szl {n : Nat} (h : n < 100000) : n < sizeLine := Nat.lt_of_lt_of_le h (by decide)
/-! ### powers by squares -/
theorem pow_odd (t s : Nat) (l : Nat) (h : l % 2 = 1) : t * s ^ l = (t * s) * (s * s) ^ (l / 2) := by
  have e : l = 2 * (l / 2) + 1 := by omega
  have e2 : (s * s) ^ (l / 2) = s ^ (2 * (l / 2)) := by rw [Nat.pow_mul]; congr 1; exact (Nat.pow_two s).symm
  rw [e2]
  conv => lhs; rw [e]
  rw [Nat.pow_succ, Nat.mul_assoc, Nat.mul_comm s]
theorem pow_even (t s : Nat) (l : Nat) (h : l % 2 = 0) : t * s ^ l = t * (s * s) ^ (l / 2) := by
  have e : l = 2 * (l / 2) := by omega
  have e2 : (s * s) ^ (l / 2) = s ^ (2 * (l / 2)) := by rw [Nat.pow_mul]; congr 1; exact (Nat.pow_two s).symm
  rw [e2, ← e]
/-! ### pigeons -/
theorem nodup_le {α : Type} [DecidableEq α] : ∀ (l m : List α), l.Nodup → (∀ x ∈ l, x ∈ m) → l.length ≤ m.length
  | [], m, _, _ => Nat.zero_le _
  | a :: l, m, hn, hs => by
    have ha : a ∈ m := hs a List.mem_cons_self
    have hn' := List.nodup_cons.mp hn
    have ih := nodup_le l (m.erase a) hn'.2 fun x hx => (List.mem_erase_of_ne (fun e => by subst e; exact hn'.1 hx)).mpr (hs x (List.mem_cons_of_mem _ hx))
    rw [List.length_erase_of_mem ha] at ih
    have : 0 < m.length := List.length_pos_of_mem ha
    simp only [List.length_cons]
    omega
/-- the words with one more sign -/
def alts (p : List Nat) : List (List Nat) := (List.range 26).map fun i => p ++ [97 + i]
theorem alts_nodup (p : List Nat) : (alts p).Nodup := by
  unfold alts
  have h := @List.nodup_range 26
  unfold List.Nodup at h ⊢
  rw [List.pairwise_map]
  refine h.imp fun {i j} ne e => ne ?_
  have := List.append_cancel_left e
  simp at this
  exact this
theorem own_few (own : List (List Nat)) (n : Nat) (h : ∀ o ∈ own, (own.filter fun q => decide (q.dropLast = o.dropLast)).length ≤ n) (p : List Nat) : (own.filter fun q => decide (q.dropLast = p)).length ≤ n := by
  by_cases hp : ∃ o ∈ own, o.dropLast = p
  · obtain ⟨o, ho, e⟩ := hp
    rw [← e]
    exact h o ho
  · have : (own.filter fun q => decide (q.dropLast = p)) = [] := by
      rw [List.filter_eq_nil_iff]
      intro q hq
      simp
      exact fun e => hp ⟨q, hq, e⟩
    rw [this]
    exact Nat.zero_le _
theorem free_sign (known own : List (List Nat)) (n : Nat) (h : ∀ o ∈ own, (own.filter fun q => decide (q.dropLast = o.dropLast)).length ≤ n) (hk : known.length + n < 26) (p : List Nat) :
    ∃ i, i < 26 ∧ (p ++ [97 + i]) ∉ known ∧ (p ++ [97 + i]) ∉ own := by
  apply Classical.byContradiction
  intro hc
  have hs : ∀ x ∈ alts p, x ∈ known ++ own.filter fun q => decide (q.dropLast = p) := by
    intro x hx
    obtain ⟨i, hi, rfl⟩ := List.mem_map.mp hx
    have hi := List.mem_range.mp hi
    by_cases h1 : (p ++ [97 + i]) ∈ known
    · exact List.mem_append_left _ h1
    · by_cases h2 : (p ++ [97 + i]) ∈ own
      · refine List.mem_append_right _ (List.mem_filter.mpr ⟨h2, ?_⟩)
        simp
      · exact absurd ⟨i, hi, h1, h2⟩ hc
  have := nodup_le _ _ (alts_nodup p) hs
  rw [List.length_append] at this
  have h2 := own_few own n h p
  have h3 : (alts p).length = 26 := by simp [alts]
  omega
end Lc
namespace Lc
open PySem PySem.Spec PyProof.Rows L2
/-! ### data -/
theorem dpI {K : PySem.W.Frag} {H : Hp} : ∀ ns : List Int, DpAll K H (ns.map V.int) (ns.map PyData.int)
  | [] => .nil
  | n :: r => .cons (.int n) (dpI r)
theorem dpS {K : PySem.W.Frag} {H : Hp} : ∀ ns : List Str, DpAll K H (ns.map V.str) (ns.map PyData.str)
  | [] => .nil
  | n :: r => .cons (.str n) (dpS r)
theorem lay_ints : ∀ ns : List Int, PyData.canLayAll0 (ns.map PyData.int) = true
  | [] => rfl
  | n :: r => by
    show (PyData.canLay0 (.int n) && PyData.canLayAll0 (r.map PyData.int)) = true
    rw [lay_ints r]
    rfl
theorem dep_ints : ∀ ns : List Int, PyData.depthAll (ns.map PyData.int) = 0
  | [] => rfl
  | n :: r => by
    show max (PyData.depth (.int n)) (PyData.depthAll (r.map PyData.int)) = 0
    rw [dep_ints r]
    rfl
theorem shInts (ns : List Int) : SeqAt.shaped (.list (ns.map PyData.int)) = true := by
  unfold SeqAt.shaped
  rw [show PyData.canLay0 (.list (ns.map PyData.int)) = true from lay_ints ns, show PyData.depth (.list (ns.map PyData.int)) = 1 by show PyData.depthAll _ + 1 = 1; rw [dep_ints]]
  rfl
theorem lay_strs : ∀ ns : List Str, (∀ x ∈ ns, PyData.canLay0 (.str x) = true) → PyData.canLayAll0 (ns.map PyData.str) = true
  | [], _ => rfl
  | n :: r, h => by
    show (PyData.canLay0 (.str n) && PyData.canLayAll0 (r.map PyData.str)) = true
    rw [lay_strs r fun x hx => h x (List.mem_cons_of_mem _ hx), h n List.mem_cons_self]
    rfl
theorem dep_strs : ∀ ns : List Str, PyData.depthAll (ns.map PyData.str) = 0
  | [] => rfl
  | n :: r => by
    show max (PyData.depth (.str n)) (PyData.depthAll (r.map PyData.str)) = 0
    rw [dep_strs r]
    rfl
theorem shStrs (ns : List Str) (h : ∀ x ∈ ns, PyData.canLay0 (.str x) = true) : SeqAt.shaped (.list (ns.map PyData.str)) = true := by
  unfold SeqAt.shaped
  rw [show PyData.canLay0 (.list (ns.map PyData.str)) = true from lay_strs ns h, show PyData.depth (.list (ns.map PyData.str)) = 1 by show PyData.depthAll _ + 1 = 1; rw [dep_strs]]
  rfl
theorem eqv_nil {α : Type} (f : α → PyData) : ∀ ns : List α, PyData.eqv (.list (ns.map f)) (.list []) = ns.isEmpty
  | [] => rfl
  | _ :: _ => rfl
theorem cut_to (xs : List V) (k : Nat) : cutV xs none (some (k : Int)) = xs.take k := by
  unfold cutV
  rw [HT.sIx_none, HT.sIx_nat, List.drop_zero, Nat.sub_zero]
  by_cases h : k ≤ xs.length
  · rw [Nat.min_eq_left h]
  · rw [Nat.min_eq_right (by omega), List.take_length, List.take_of_length_le (by omega)]
theorem cut_from (xs : List V) (k : Nat) : cutV xs (some (k : Int)) none = xs.drop k := by
  unfold cutV
  rw [HT.sIx_none, HT.sIx_nat]
  by_cases h : k ≤ xs.length
  · rw [Nat.min_eq_left h, List.take_of_length_le]
    rw [List.length_drop]
    exact Nat.le_refl _
  · rw [Nat.min_eq_right (by omega), Nat.sub_self, List.take_zero, List.drop_of_length_le (by omega)]
end Lc
namespace Lc
open PySem PySem.Spec PyProof.Rows L2
/-! ### texts by their codes -/
def tx (l : List Nat) : Str := ⟨l.toArray⟩
theorem tx_cps (l : List Nat) : (tx l).cps.toList = l := by simp [tx]
theorem tx_len (l : List Nat) : (tx l).length = l.length := by simp [tx, Str.length]
theorem tx_app (a b : List Nat) : tx a ++ tx b = tx (a ++ b) := by
  have h : (tx a ++ tx b).cps = (tx (a ++ b)).cps := by rw [Str.cps_append]; simp [tx]
  generalize tx a ++ tx b = x at h
  cases x
  cases h
  rfl
theorem tx_of (s : Str) : s = tx s.cps.toList := by
  cases s
  simp [tx]
theorem tx_inj {a b : List Nat} : tx a = tx b ↔ a = b := ⟨fun h => by rw [← tx_cps a, h, tx_cps], fun h => by rw [h]⟩
theorem tx_one (c : Nat) : (⟨#[c]⟩ : Str) = tx [c] := rfl
theorem cutS_to (l : List Nat) (k : Nat) : cutS (tx l) none (some (k : Int)) = tx (l.take k) := by
  unfold cutS
  rw [HT.sIx_none, HT.sIx_nat, tx_cps, tx_len, List.drop_zero, Nat.sub_zero]
  unfold tx
  by_cases h : k ≤ l.length
  · rw [Nat.min_eq_left h]
  · rw [Nat.min_eq_right (by omega), List.take_length, List.take_of_length_le (by omega)]
theorem cutS_from (l : List Nat) (k : Nat) : cutS (tx l) (some (k : Int)) none = tx (l.drop k) := by
  unfold cutS
  rw [HT.sIx_none, HT.sIx_nat, tx_cps, tx_len]
  unfold tx
  by_cases h : k ≤ l.length
  · rw [Nat.min_eq_left h, List.take_of_length_le]
    rw [List.length_drop]
    exact Nat.le_refl _
  · rw [Nat.min_eq_right (by omega), Nat.sub_self, List.take_zero, List.drop_of_length_le (by omega)]
theorem cutS_last (p : List Nat) (x : Nat) : cutS (tx (p ++ [x])) none (some (-1)) = tx p := by
  unfold cutS
  rw [HT.sIx_none, tx_cps, tx_len, List.drop_zero, Nat.sub_zero]
  have e : HT.sIx (p ++ [x]).length (p ++ [x]).length (some (-1)) = p.length := by
    rw [List.length_append]
    show HT.sIx (p.length + 1) (p.length + 1) (some (-1)) = p.length
    unfold HT.sIx
    simp
    omega
  rw [e, List.take_left]
  rfl
theorem in_strs {x : Str} : ∀ {xs : List Str}, inV (.str x) (xs.map V.str) = decide (x ∈ xs)
  | [] => by simp [inV]
  | y :: r => by
    have ih := in_strs (x := x) (xs := r)
    unfold inV at ih ⊢
    rw [List.map_cons, List.any_cons, ih]
    show ((y == x) || decide (x ∈ r)) = decide (x ∈ y :: r)
    by_cases h : y = x
    · subst h
      simp
    · have h2 : ¬ x = y := fun e => h e.symm
      simp [h, h2]
theorem flat_strs : ∀ xs : List Str, (xs.map V.str).all flatV = true
  | [] => rfl
  | y :: r => by
    rw [List.map_cons, List.all_cons, flat_strs r]
    rfl
/-- small signs alone -/
def Low (l : List Nat) : Prop := ∀ c ∈ l, 97 ≤ c ∧ c ≤ 122
theorem Low.app {a b : List Nat} (h : Low a) (g : Low b) : Low (a ++ b) := fun c hc => (List.mem_append.mp hc).elim (h c) (g c)
theorem Low.take {a : List Nat} (h : Low a) (k : Nat) : Low (a.take k) := fun c hc => h c (List.mem_of_mem_take hc)
theorem Low.drop {a : List Nat} (h : Low a) (k : Nat) : Low (a.drop k) := fun c hc => h c (List.mem_of_mem_drop hc)
theorem Low.lay {a : List Nat} (h : Low a) : PyData.canLay0 (.str (tx a)) = true := by
  show PySem.PyData.strOk (tx a) = true
  unfold PyData.strOk tx
  rw [List.all_toArray]
  rw [List.all_eq_true]
  intro c hc
  have := h c hc
  simp
  omega
end Lc
namespace Lc
open PySem PySem.Spec PyProof.Rows L2
/-! ### the rules with the written part told, for use inside a comprehension -/
section
variable {X : Cx} (K : PySem.W.Frag)
theorem ix_listK (h : X.K = K := by rfl) : IxR X (rIxL K) := h ▸ ix_list
theorem ix_tupK (h : X.K = K := by rfl) : IxR X (rIxT K) := h ▸ ix_tup
theorem ix_seqK (h : X.K = K := by rfl) : IxR X (rIx K) := h ▸ ix_seq
theorem sl_listK (h : X.K = K := by rfl) : SlR X (rSlL K) := h ▸ sl_list
theorem sl_tupK (h : X.K = K := by rfl) : SlR X (rSlT K) := h ▸ sl_tup
theorem op_in_seqK (h : X.K = K := by rfl) : OpR X (compareOp .In) (rIn K false) := h ▸ op_in_seq
theorem op_notIn_seqK (h : X.K = K := by rfl) : OpR X (compareOp .NotIn) (rIn K true) := h ▸ op_notIn_seq
theorem op_eqDK (hu : X.A.units + 64 < cLine) (h : X.K = K := by rfl) : OpR X (compareOp .Eq) (rEqD K) := h ▸ op_eqD hu
theorem op_neDK (hu : X.A.units + 64 < cLine) (h : X.K = K := by rfl) : OpR X (compareOp .NotEq) (rNeD K) := h ▸ op_neD hu
theorem op_catTK (h : X.K = K := by rfl) : OpR X (binaryOp .Add) (rCatT K) := h ▸ op_catT
def rLenQ (K : PySem.W.Frag) : List V → Hp → VK → Prop := fun xs H Q => ∃ p ys, xs = [.ref p] ∧ (SqL K H p ys ∨ SqT K H p ys) ∧ Q (.int ys.length) H
theorem call_len_seqK (h : X.K = K := by rfl) : CallR X (.builtin "len") (rLenQ K) := h ▸ call_len_seq
theorem call_isiK' (h : X.K = K := by rfl) : CallR X (.builtin "isinstance") (rIsi K) := h ▸ call_isi
variable {o e : Expr} {es : List Expr} {to : TE} {t : TA} {name : Str} {apos cpos : Pos} {T id : String} {r : V → List V → Hp → VK → Prop}
theorem pe_bmK (pa : PlainAttrs T) (slot : Slot T name id) (hty : typeOf (.builtin id) = pure (.type "method_descriptor")) (hm : MtR X id r) (ho : PE X o to) (ha : PA X (e :: es) t) (h : X.K = K := by rfl)
    (hbase : attributeBase o name X.env (eval o X.env) = eval o X.env := by rfl)
    (hfew : ((backTo cpos (starEach (e :: es) X.env)).all (fun x => !x.1) && (backToKw cpos (keywordEach [] X.env)).all (fun x => x.1.isSome)
      && decide ((e :: es).length + ([] : List Keyword).length + (if ([] : List Keyword).isEmpty then 0 else 1) < 30)) = true := by rfl)
    (hline : (apos.endLine == cpos.line) = true := by rfl) (hs : starEach (e :: es) X.env = (false, eval e X.env) :: starEach es X.env := by rfl) (hplain : (backTo cpos (starEach es X.env)).any (·.1) = false := by rfl) :
    PE X (.Call (.Attribute o name apos) (e :: es) [] cpos) (tBM K T r to t) := h ▸ pe_bm pa slot hty hm ho ha hbase hfew hline hs hplain
theorem pe_bm0K (pa : PlainAttrs T) (slot : Slot T name id) (hty : typeOf (.builtin id) = pure (.type "method_descriptor")) (hm : MtR X id r) (ho : PE X o to) (h : X.K = K := by rfl)
    (hbase : attributeBase o name X.env (eval o X.env) = eval o X.env := by rfl) (hline : (apos.endLine == cpos.line) = true := by rfl) : PE X (.Call (.Attribute o name apos) [] [] cpos) (tBM0 K T r to) := h ▸ pe_bm0 pa slot hty hm ho hbase hline
theorem pg_tupK {es : List Expr} {k : Nat} {t : TGs} {n : Nat} {pos : Pos} (hc : X.calm = true) (hg : PGs X es t) (h : X.K = K := by rfl)
    (hn : (assignEach es X.env).length = n := by rfl) (hst : (assignEach es X.env).findIdx? (·.1) = none := by rfl) : PG X (.Tuple es k pos) (gTup K n t) := h ▸ pg_tup hc hg hn hst
theorem pi_listK {tg l : Expr} {tl : TE} (hl : PE X l tl) (h : X.K = K := by rfl) : PI X tg l (iList K tl) := h ▸ pi_list hl
theorem pi_tupK {tg l : Expr} {tl : TE} (hl : PE X l tl) (h : X.K = K := by rfl) : PI X tg l (iTup K tl) := h ▸ pi_tup hl
end
end Lc
namespace Lc
open PySem PySem.Spec PyProof.Rows L2
theorem yes_if {σ : L2.St} {H : Hp} {A B : Hp → Prop} (h : A H) : tYes σ H (fun b H3 => if b = true then A H3 else B H3) := by
  show if true = true then A H else B H
  rw [if_pos rfl]
  exact h
end Lc
set_option Elab.async false
set_option linter.all false
set_option maxRecDepth 100000
set_option maxHeartbeats 4000000
namespace Lc
open PySem PySem.Spec PyProof.Rows L2
/-! ### x == [], x != [], t == (), t != (), whatever the items are -/
section
variable {X : Cx}
theorem size_ne {xs : List V} {its : List Value} (r : Vals xs its) (h : xs ≠ []) : (its.toArray.size != (#[] : Array Value).size) = true := by
  have e := r.length
  have : xs.length ≠ 0 := fun z => h (List.length_eq_zero_iff.mp z)
  simp
  intro z
  rw [z] at e
  simp at e
  exact h e
def rEqNil (K : PySem.W.Frag) (neg : Bool) : R2 := fun x y H Q => ∃ a b xs, x = .ref a ∧ y = .ref b ∧ SqL K H a xs ∧ SqL K H b [] ∧ Q (.bl (xs.isEmpty != neg)) H
def rEqNilT (K : PySem.W.Frag) (neg : Bool) : R2 := fun x y H Q => ∃ a b xs, x = .ref a ∧ y = .ref b ∧ SqT K H a xs ∧ SqT K H b [] ∧ Q (.bl (xs.isEmpty != neg)) H
theorem op_eqNil (hu : X.A.units < cLine) : OpR X (compareOp .Eq) (rEqNil X.K false) := by
  intro pins s σ H x y v u Q I rx ry h
  obtain ⟨a, b, xs, rfl, rfl, ha, hb, q⟩ := h
  cases rx
  cases ry
  obtain ⟨its, r1, p1, _⟩ := I.list ha
  obtain ⟨its2, r2, p2, _⟩ := I.list hb
  cases r2
  by_cases hx : xs = []
  · subst hx
    cases r1
    exact SeqAt.eq_listAt (e := fun _ => true) p1.isList p2.isList rfl hu (fun j h1 _ => absurd h1 (by simp)) ⟨.bl true, H, I, rfl, q⟩
  · refine SeqAt.eq_list_lengthsAt p1.isList p2.isList (size_ne r1 hx) hu ⟨.bl false, H, I, rfl, ?_⟩
    cases xs with
    | nil => exact absurd rfl hx
    | cons _ _ => exact q
theorem op_neNil (hu : X.A.units < cLine) : OpR X (compareOp .NotEq) (rEqNil X.K true) := by
  intro pins s σ H x y v u Q I rx ry h
  obtain ⟨a, b, xs, rfl, rfl, ha, hb, q⟩ := h
  cases rx
  cases ry
  obtain ⟨its, r1, p1, _⟩ := I.list ha
  obtain ⟨its2, r2, p2, _⟩ := I.list hb
  cases r2
  by_cases hx : xs = []
  · subst hx
    cases r1
    exact SeqAt.RcNeAt.lists (e := fun _ => true) p1.isList p2.isList rfl hu (fun j h1 _ => absurd h1 (by simp)) _ _ _ _ ⟨.bl false, H, I, rfl, q⟩
  · refine SeqAt.RcNeAt.lists_lengths p1.isList p2.isList (size_ne r1 hx) hu _ _ _ _ ⟨.bl true, H, I, rfl, ?_⟩
    cases xs with
    | nil => exact absurd rfl hx
    | cons _ _ => exact q
theorem tup_empty {xs : List V} {its : List Value} (r : Vals xs its) : ((List.range (min its.toArray.size (#[] : Array Value).size)).all (fun _ => true) && its.toArray.size == (#[] : Array Value).size) = xs.isEmpty := by
  have e := r.length
  cases xs with
  | nil =>
    cases r
    rfl
  | cons a l =>
    cases r
    simp
theorem op_eqNilT (hu : X.A.units < cLine) : OpR X (compareOp .Eq) (rEqNilT X.K false) := by
  intro pins s σ H x y v u Q I rx ry h
  obtain ⟨a, b, xs, rfl, rfl, ha, hb, q⟩ := h
  cases rx
  cases ry
  obtain ⟨its, r1, p1, _⟩ := I.tuple ha
  obtain ⟨its2, r2, p2, _⟩ := I.tuple hb
  cases r2
  refine SeqAt.eq_tupleAt (e := fun _ => true) p1 p2 hu (fun j _ h2 => absurd h2 (by simp)) ?_
  rw [tup_empty r1]
  refine ⟨.bl xs.isEmpty, H, I, rfl, ?_⟩
  cases xs <;> exact q
theorem op_neNilT (hu : X.A.units < cLine) : OpR X (compareOp .NotEq) (rEqNilT X.K true) := by
  intro pins s σ H x y v u Q I rx ry h
  obtain ⟨a, b, xs, rfl, rfl, ha, hb, q⟩ := h
  cases rx
  cases ry
  obtain ⟨its, r1, p1, _⟩ := I.tuple ha
  obtain ⟨its2, r2, p2, _⟩ := I.tuple hb
  cases r2
  refine SeqAt.RcNeAt.tuples (e := fun _ => true) p1 p2 hu (fun j _ h2 => absurd h2 (by simp)) _ _ _ _ ?_
  rw [tup_empty r1]
  refine ⟨.bl (!xs.isEmpty), H, I, rfl, ?_⟩
  cases xs <;> exact q
end
end Lc
set_option Elab.async false
set_option linter.all false
set_option maxRecDepth 100000
set_option maxHeartbeats 4000000
/-! all(x in y for x in e): e a text, y a captured name that holds a text -/
namespace Lc
open PySem PySem.Spec PyProof.Rows L2 GxR
/-- a test of the sign d by the text z, which the cell of y holds -/
def EltC (P : Program) (w : World) (sc : Scope) (x y : Str) (e : Expr) (pb : Str → Nat → Bool) : Prop :=
  ∀ (en : Env) (B : Around) (Ex : Value → Shared → Prop) (d : Nat) (t tz : Tok) (z : Str) (q : Addr) (r : Shared) (m : Str → Option Value),
    en.scope = sc → en.cells.lookup y = some q → r.heap.IsCell q (some (.str z tz)) → r.heap.Ns en.locals m → m x = some (.str ⟨#[d]⟩ t) →
      wpAny (model P w) B (eval e en) (fun b r' => b = .bool (pb z d) ∧ Keeps r r') Ex r
theorem eltC_in {P : Program} {w : World} {sc : Scope} {x y : Str} {p1 p2 p3 : Pos} (hk : sc.kind = .function) (hx : sc.names.lookup x = some .local) (hy : sc.names.lookup y = some .free)
    (dx : (x == ("__debug__" : Str)) = false := by decide) (dy : (y == ("__debug__" : Str)) = false := by decide) (cy : (y == ("__classdict__" : Str)) = false := by decide) :
    EltC P w sc x y (.Compare (.Name x p1) [.In] [.Name y p2] p3) (fun z d => decide (d ∈ z.cps.toList)) := by
  intro en B Ex d t tz z q r m es ec hc hn hm
  refine wpAny_Compare1 (wpAny_Name (wpAny_loadName_local (by rw [es]; exact hk) (show en.scope.names.lookup x = some .local by rw [es]; exact hx) hn hm ?_) dx)
  refine wpAny_Name (wpAny_loadName_free (by rw [es]; exact hk) (show en.scope.names.lookup y = some .free by rw [es]; exact hy) ec hc ?_ cy) dy
  exact PyProof.Rows.in_str ⟨congrArg Value.bool (PySem.StrLaws.found_one z d), keeps_refl _⟩
section
variable {X : Cx} {pins : List (Addr × Obj)} {σ : L2.St} {H : Hp} {s : Shared}
/-- the cell of a captured name -/
theorem cell_of {i : Nat} {y z : Str} (I : Inv X pins σ H s) (hN : X.N[i]? = some y) (hs : σ[i]? = some (some (.str z))) (hv : Vis X.env.scope y) (hy : X.env.kindOf y = some .cell) :
    ∃ q tz, X.env.cells.lookup y = some q ∧ s.heap.IsCell q (some (.str z tz)) := by
  obtain ⟨m, _, hl⟩ := I.loc
  obtain ⟨u, ru, lk⟩ := hl i y _ hN hs hv
  obtain ⟨tz, rfl⟩ := ru
  rcases lk with ⟨lk, _⟩ | ⟨_, q, e1, e2⟩
  · rw [hy] at lk
    cases lk
  · exact ⟨q, tz, e1, e2⟩
theorem gen_strC {c P : Addr} {e it : Expr} {x y : Str} {px gp : Pos} {sc : Scope} {pb : Str → Nat → Bool} {te : TE} {k i : Nat} {Q' : Value → Shared → Prop} {R : Str → Str → Hp → Prop}
    (hr : Room k X.A) (TB : TabB X.base X.mg c P) (hcode : X.env.code = .ref c) (S : GenS X.env sc x) (hN : X.N[i]? = some y) (hV : Vis X.env.scope y) (hy : X.env.kindOf y = some .cell) (hm : (y, NameKind.free) ∈ sc.names)
    (hi : PE X it te) (hel : EltC X.prog X.w sc x y e pb) (hs : ∀ v, genFold it X.env v = pure v) (I : Inv X pins σ H s)
    (h : te σ H fun v H1 => ∃ a z : Str, v = .str a ∧ σ[i]? = some (some (.str z)) ∧ TabG H1 P ∧ R a z H1) (hQ : ∀ a z H1 g s5, R a z H1 → Ready X pins σ H1 P a (pb z) g s5 → Q' (.ref g) s5) :
    wpAny (model X.prog X.w) X.A (eval (.GeneratorExp e [⟨.Name x px, it, [], 0⟩] sc gp) X.env) Q' X.xe s := by
  refine wpAny_GeneratorExp_walksQ hr.hd S.co (closure_ok S.free) S.cell S.dot S.loc S.kind (by have := hr.dp; omega) (thn (hi.run pins s σ H _ I h) fun xv sa ⟨v, H1, Ia, rv, qv⟩ => ?_) hs
  obtain ⟨a, z, rfl, hz, ⟨tb, hP, ht⟩, qv⟩ := qv
  obtain ⟨q, tz, hq, hcq⟩ := cell_of Ia hN hz hV hy
  obtain ⟨t, rfl⟩ := _root_.id rv
  refine wpAny_pyIter_str fun o St W hst => ⟨Ia.nolimit.push o, ?_⟩
  have atP : sa.heap.get? P = some { cls := .none, data := .fields tb } := Ia.hok P _ hP
  have ltP : P < sa.heap.objs.size := Heap.lt_size atP
  have atP2 : (sa.heap.push o).get? P = some { cls := .none, data := .fields tb } := Heap.get?_push_of_some _ atP
  have cd : PySem.W.CodeHd (sa.heap.push o) c P := TB.code.keeps fun b u eb => Heap.get?_push_of_some _ (Ia.bk b u eb)
  have go : ∀ (cv : Value) (h3 : Heap) (tk : Nat) (tb' : Array Value), Heap.ExtBut P (sa.heap.push o) h3 → (sa.heap.push o).objs.size ≤ h3.objs.size → h3.get? P = some { cls := .none, data := .fields tb' } → (∃ more, tb' = tb ++ more) → TriplesOk tb'.toList →
      wpAny (model X.prog X.w) X.A (builtinsFor X.env.globals X.env.builtins) (fun bi sd => ∃ Ia fp wr n₀ Pf St₀ pz F, Value.ref sa.heap.objs.size = .ref Ia ∧ (∀ A' : Around, A'.handled = none → Walks X.prog X.w A' Ia fp wr n₀ Pf St₀) ∧ St₀ 0 sd.heap ∧
          (∀ b ∈ fp, b < sd.heap.objs.size) ∧ sd.heap.NoLimit ∧ cStatics ∉ wr ∧
          (∀ hf : Heap, (∀ b ob, sd.heap.get? b = some ob → hf.get? b = some ob) → QuietGen X.prog X.w (genEnv sc (cloFrom X.env.cells sc.names []) sd.heap.objs.size cv bi X.env) x [] e (List.range sd.heap.objs.size) wr Pf pz F hf) ∧
          (∀ g h₅ tk gs, gs.bare = true → sd.heap.objs.size < g → h₅.objs.size = g + 1 → (∀ b ob, sd.heap.get? b = some ob → h₅.get? b = some ob) →
            WalksS X.prog X.w X.A.in4 g (g :: sd.heap.objs.size :: List.range sd.heap.objs.size) (sd.heap.objs.size :: wr) (GenOnlyQ sd.gens.size) (passing pz n₀ 0).length (fun j u => ∃ i, (passing pz n₀ 0)[j]? = some i ∧ F i u)
              (GenAt X.prog X.w X.A.in4 g sd.gens.size sd.heap.objs.size (List.range sd.heap.objs.size) wr pz n₀ F) →
            GenAt X.prog X.w X.A.in4 g sd.gens.size sd.heap.objs.size (List.range sd.heap.objs.size) wr pz n₀ F 0 { sd with gens := sd.gens.push gs, toks := tk, heap := h₅ } → Q' (.ref g) { sd with gens := sd.gens.push gs, toks := tk, heap := h₅ })) X.xe { sa with heap := h3, toks := tk } := by
    intro cv h3 tk tb' hx hsz hP3 hmore ht3
    obtain ⟨bm, ob, e1, e2, e3, e4, e5, e6, e7, e8⟩ := TB.bm
    have nSP : cStatics ≠ P := fun z9 => by
      obtain ⟨_, ⟨o', es, ep, ho, hd, _⟩, _⟩ := Ia.nolimit
      rw [z9, atP] at ho
      cases ho
      cases hd
    have ltS : cStatics < sa.heap.objs.size := let ⟨_, hns, _⟩ := Ia.nolimit; hns.lt
    have szp : (sa.heap.push o).objs.size = sa.heap.objs.size + 1 := Heap.size_push ..
    have kp : ∀ b u, b ≠ P → sa.heap.get? b = some u → h3.get? b = some u := fun b u nb eb => hx b u nb (Heap.get?_push_of_some _ eb)
    have nqP : q ≠ P := fun z9 => by
      have := Ia.freeC y q hq
      rw [z9, hP] at this
      cases this
    refine wpAny_builtinsFor (m := X.mg) (by rw [Ia.ok.glob]; exact ((Ia.mod.glob.keeps Ia.bk).push o).extBut hx TB.gP) e1 e2 (kp _ _ e4 (Ia.bk _ _ e5)) e6 e7 e8 ?_
    refine ⟨_, [sa.heap.objs.size], [sa.heap.objs.size], a.cps.size, SignAt a, St, fun _ => true, fun i u => ∃ d, a.cps[i]? = some d ∧ u = .bool (pb z d), rfl, W, ?_, fun b hb => ?_, (Ia.nolimit.push o).extBut hx nSP, fun z9 => ?_, ?_, ?_⟩
    · refine (W X.A hr.hd).frame _ _ _ hst fun b hb u eb => hx b u (fun z9 => ?_) eb
      rcases List.mem_cons.mp hb with z8 | z8
      · exact Nat.ne_of_lt ltP (z9.symm.trans z8)
      · cases z8
    · rcases List.mem_cons.mp hb with z9 | z9
      · rw [z9]
        show sa.heap.objs.size < h3.objs.size
        omega
      · cases z9
    · rcases List.mem_cons.mp z9 with z8 | z8
      · exact Nat.ne_of_lt ltS z8
      · cases z8
    · intro hf hhf
      refine ⟨fun B Ex j v r m hB hv hn hmx hk => ?_, fun B Ex j v r m hB hv hp hn hmx hk => ?_⟩
      · simp only [List.forIn_nil]
        exact wpAny_pure ⟨rfl, keeps_refl _⟩
      · obtain ⟨d, u, hd, rfl⟩ := hv
        obtain ⟨oq, hoq, hdq⟩ := hcq
        have h3q := kp q oq nqP hoq
        have ltq : q < sa.heap.objs.size := Heap.lt_size hoq
        have hr2 : r.heap.IsCell q (some (.str z tz)) := ⟨oq, hk q (List.mem_range.mpr (Heap.lt_size h3q)) (fun z9 => by
          rcases List.mem_cons.mp z9 with z8 | z8
          · exact Nat.ne_of_lt ltq z8
          · cases z8) oq (hhf q oq h3q), hdq⟩
        exact wpAny_mono (hel _ B Ex d u tz z q r m rfl (NdefX.clo_has S.free hm hq) hr2 hn hmx) (fun b r' w9 => ⟨⟨d, hd, w9.1⟩, w9.2⟩) fun _ _ e9 => e9
    · intro g h5 tk5 gs hgb hag hsz5 hk5 W5 hat
      simp only [GxR.passing_true, List.length_range] at W5
      refine hQ a z H1 g _ qv ⟨_, _, _, _, _, W5.in4_1, hat, fun j u sj Qj Ej hu hQj => ?_, fun s' hmv => ?_⟩
      · obtain ⟨i9, hi9, d, hd, rfl⟩ := hu
        obtain ⟨hj, ej⟩ := List.getElem?_eq_some_iff.mp hi9
        rw [List.getElem_range] at ej
        subst ej
        have hd9 : a.cps.toList[j]? = some d := by rw [Array.getElem?_toList]; exact hd
        have hQ9 : Qj (trF (pb z) a.cps.toList j) sj := hQj
        rw [trF_some hd9] at hQ9
        exact wpAny_truthy_bool hQ9
      · obtain ⟨more, em⟩ := hmore
        have out : ∀ b u, sa.heap.get? b = some u → b ∉ h3.objs.size :: [sa.heap.objs.size] := fun b u eb hb => by
          have lb : b < sa.heap.objs.size := Heap.lt_size eb
          simp only [List.mem_cons, List.not_mem_nil, or_false] at hb
          rcases hb with rfl | rfl
          · have lb : h3.objs.size < sa.heap.objs.size := lb
            omega
          · exact Nat.lt_irrefl _ lb
        have J := inv_tab (more := more) (h' := s'.heap) (g' := s'.gens) (d' := s'.drawn) (t' := s'.toks) Ia hP (fun b u nb eb => hmv.heap b u (out b u eb) (hk5 b u (kp b u nb eb)))
          (by rw [← em]; exact hmv.heap P _ (out P _ atP) (hk5 P _ hP3)) (AllBare.movedS (Ia.bare.push hgb) hmv)
        rw [sh_eta sa s' hmv.os] at J
        exact ⟨_, ⟨⟨tb ++ more, upd_same, by rw [← em]; exact ht3⟩, fun b hb => upd_ne hb⟩, J⟩
  cases hf : codeAmong gp tb.toList with
  | none =>
    refine wpAny_genexprCodeX hcode (cd.code atP2 ht) (cd.tab atP2) hf fun c9 h9 tk hx hge hlt hco _ htab _ => ?_
    obtain ⟨o1, vs, f1, tf, fl, tg, inF, tx, tt, op, _, _, _, _, _, _, _, _, _, htr, _⟩ := hco
    exact go _ h9 tk _ hx (Nat.le_trans hge (Nat.le_of_lt hlt)) htab.2 ⟨_, rfl⟩ htr
  | some cv => exact wpAny_genexprCode_hit hcode (cd.code atP2 ht) hf (go cv (sa.heap.push o) sa.toks tb (Heap.ExtBut.refl _ _) (Nat.le_refl _) atP2 ⟨#[], by simp⟩ ht)
/-- what it asks: the walked text, the captured one, the table -/
def tAllC (P : Addr) (i : Nat) (pb : Str → Nat → Bool) (te : TE) : TE := fun σ H Q => te σ H fun v H1 => ∃ a z : Str, v = .str a ∧ σ[i]? = some (some (.str z)) ∧ TabG H1 P ∧ ∀ H2, Tabbed P H1 H2 → Q (.bl (a.cps.toList.all (pb z))) H2
theorem pe_allC {c P : Addr} {e it : Expr} {x y : Str} {px p pos gp : Pos} {sc : Scope} {pb : Str → Nat → Bool} {te : TE} {k i : Nat} (hr : Room k X.A) (hg : Gl X "all") (hm : X.mg "all" = none) (hb : bootBuiltins "all" = some (.builtin "all"))
    (TB : TabB X.base X.mg c P) (hcode : X.env.code = .ref c) (S : GenS X.env sc x) (hN : X.N[i]? = some y) (hV : Vis X.env.scope y) (hy : X.env.kindOf y = some .cell) (hm' : (y, NameKind.free) ∈ sc.names)
    (hi : PE X it te) (hel : EltC X.prog X.w sc x y e pb) (hs : ∀ v, genFold it X.env v = pure v)
    (he : starEach [.GeneratorExp e [⟨.Name x px, it, [], 0⟩] sc gp] X.env = (false, eval (.GeneratorExp e [⟨.Name x px, it, [], 0⟩] sc gp) X.env) :: starEach [] X.env := by rfl) :
    PE X (.Call (.Name "all" p) [.GeneratorExp e [⟨.Name x px, it, [], 0⟩] sc gp] [] pos) (tAllC P i pb te) := by
  refine ⟨fun pins s σ H Q I h => wpAny_Call_Name_kw (ld_blt I hg hm hb (PyProof.Rows.callWith_builtin1 ?_ he (by rfl)))⟩
  rw [he]
  show wpAny _ _ (spliced ((false, eval (.GeneratorExp e [⟨.Name x px, it, [], 0⟩] sc gp) X.env) :: backTo pos (starEach [] X.env))) _ _ s
  refine Calls.spliced_cons (gen_strC (R := fun a z H1 => ∀ H2, Tabbed P H1 H2 → Q (.bl (a.cps.toList.all (pb z))) H2) hr TB hcode S hN hV hy hm' hi hel hs I h fun a z H1 g s5 hR hG => Calls.spliced_nil ?_)
  obtain ⟨fp, wr, G, F, St, W, hst, htr, hI⟩ := hG
  refine call_all_walkS (W.self 0 _ _ _ hst ⟨g, fp, wr, G, _, F, St, _, rfl, W, hst, htr, fun s' hmv => ?_⟩)
  obtain ⟨H2, hT, J⟩ := hI s' hmv
  refine ⟨.bl _, H2, J, rfl, ?_⟩
  rw [all_signs a (pb z)]
  exact hR H2 hT
end
end Lc
set_option Elab.async false
set_option linter.all false
set_option maxRecDepth 100000
set_option maxHeartbeats 4000000
/-! the end of a law one of whose defs has a generator expression -/
namespace Lc
open PySem PySem.Spec PyProof.Rows L2
theorem law_one {l : PySem.W.OpenLaw} {w : World} {K : PySem.W.Frag} {CX : CXT} {k n : Nat} {x y : Str} {mg mb : Str → Option Value} {fa c T : Addr} {h : Heap} {q : Program} {loose : List Str} {mean : ExcName → Option Value} {d : DefRec} {fd : FuncData} {sp : Sp}
    (Tp : Top q (PySem.W.looseW q loose) mean mg mb h) (KX : K.In h) (hr : (recsOf q).find? (fun e => e.name == y) = some d) (ht : PySem.W.tabIn K y = some (c, T)) (hk : PySem.W.noTabs K = true)
    (hb : ∀ (s : Shared) (u : Value), BindsTo s fd ⟨[u], []⟩ [(x, u)])
    (hsp : ∀ (H : Hp) (a : Addr) (ns : List Int), GxR.TabG H T → SqL K H a (ns.map V.int) → sp [.ref a] H (fun v _ => v = .bl true) fun _ _ _ => False)
    (hF : ∀ base : Heap, K.In base → base.Ns mainGlobals mg → GxR.TabB base mg c T → FnOk l.prog w K mg base CX k fa fd [x] sp) : LamX.LawAtS l w K CX k n x mg fa h := by
  obtain ⟨C, hT⟩ := PySem.W.tab_of Tp KX hr ht
  have one : ∀ {R : Addr × Addr → Prop}, R (c, T) → ∀ p ∈ [(c, T)], R p := fun r p hp => by
    have e : p = (c, T) := by simpa using hp
    rw [e]
    exact r
  refine ⟨fd, [(c, T)], sp, one hT, one ?_, one C, hb, fun H a ns _ _ ht hS => hsp H a ns ⟨#[], ht (c, T) (by simp), ?_⟩ hS, fun base b1 b2 b3 => hF base b1 b2 ?_⟩
  · cases e : K.lookup T with
    | none => rfl
    | some o =>
      have e2 := KX T o e
      rw [hT] at e2
      cases e2
      have h2 := List.all_eq_true.mp hk _ (PySem.W.mem_of_lookupK e)
      exact absurd (show false = true from h2) Bool.false_ne_true
  · exact trivial
  · have b := b3 (c, T) (by simp)
    exact ⟨b.code, b.bm, b.gP⟩
theorem walk_tab {l : PySem.W.OpenLaw} {n k : Nat} {q : Program} {loose : List Str} {XP : (Str → Option Value) → Heap → Prop} {YP : World → Heap → Prop} {d : DefRec} {K : Params → PySem.W.Frag} {CX : World → CXT} {x : Str}
    (hn : l.most = some n) (hn2 : n ≤ sizeLine) (hdf : d.params.defaults = []) (hr : Room k callerA) (hY : ∀ (w : World) (h : Heap), YP w h → (K w.params).In h)
    (F : ∀ (w : World) (mean : ExcName → Option Value) (mg mb : Str → Option Value) (fa : Addr) (h : Heap), Top q (PySem.W.looseW q loose) mean mg mb h → (K w.params).In h → mg d.name = some (.ref fa) → LamX.LawAtS l w (K w.params) (CX w) k n x mg fa h)
    (hCX : ∀ (w : World) (H : Hp) (s : Shared) (e : Value) (s' : Shared), CX w [] H s (fun _ _ _ => False) e s' → False) : PySem.W.WalkO q loose XP YP l.row.toRowW d [] (fun f vs => PySem.call f vs) := by
  refine Att.attach_callB hn hdf fun w sa sb mg mb fa o pm cd doc a vs ns G Y ho hd hcd hmg hobj hints hlen hbits hg => ?_
  obtain ⟨fd, cs, sp, hT, nT, C, hb, hsp, hF⟩ := F w _ mg mb fa _ G.T (hY w _ Y) hmg
  exact LamX.law_callTs (hY w _ Y) G.T.g G.T.b G.T.builtins G.T.nolimit hg hT nT C G.T.bmain hobj hints (Nat.le_trans hlen hn2) hr hF hb (fun H hH hS => hsp H a ns hlen hbits hH hS) fun H e s' => hCX w H sb e s'
/-- texts of the written part, told -/
def strsIn : List Str → List Value → Bool
  | [], [] => true
  | a :: r, .str b _ :: q => (a == b) && strsIn r q
  | _, _ => false
theorem vals_strs : ∀ {ws : List Str} {us : List Value}, strsIn ws us = true → Vals (ws.map V.str) us
  | [], [], _ => .nil
  | a :: r, .str b t :: q, h => by
    have h : ((a == b) && strsIn r q) = true := h
    rw [Bool.and_eq_true] at h
    obtain ⟨h1, h2⟩ := h
    have e := eq_of_beq h1
    subst e
    exact .cons ⟨t, rfl⟩ (vals_strs h2)
  | [], _ :: _, h => by simp [strsIn] at h
  | a :: r, [], h => by simp [strsIn] at h
  | a :: r, .none :: q, h => by simp [strsIn] at h
  | a :: r, .ref p :: q, h => by simp [strsIn] at h
  | a :: r, .int _ _ :: q, h => by simp [strsIn] at h
  | a :: r, .bool _ :: q, h => by simp [strsIn] at h
end Lc
set_option Elab.async false
set_option linter.all false
set_option maxRecDepth 100000
set_option maxHeartbeats 4000000
/-! enumerate(t), t a tuple -/
namespace Lc
open PySem PySem.Spec PyProof.Rows L2
open AutoSeq1 (wpAny_loadPart')
theorem meets_enumT (l : Addr) (xs : Array Value) (n : Nat) (dct : Option Addr) (sl : Array (Option Value)) :
    Meets (Builtin.«enumerate.__new__» ⟨[.type "enumerate", .ref l], []⟩) (fun _ R s => s.heap.get? l = some { cls := .type "tuple", dict := dct, data := .seq xs n, slots := sl } ∧
      R (.ok (.ret (.ref (s.heap.push { cls := .type "tuple_iterator", data := .fields #[.ref l, .int 0 0] }).objs.size)))
        { s with heap := (s.heap.push { cls := .type "tuple_iterator", data := .fields #[.ref l, .int 0 0] }).push { cls := .type "enumerate", data := .fields #[.none, .bool false, .ref s.heap.objs.size, rawInt 0, .none, .none] } }) :=
  .of_wp fun prog w A R s h => by
    obtain ⟨hp, gs, dr, tk, os⟩ := s
    obtain ⟨hl, h⟩ := h
    have hsub := sub_enumerate
    have hT : Heap.IsTuple (Shared.heap ⟨hp, gs, dr, tk, os⟩) l xs := ⟨_, hl, rfl, n, rfl⟩
    (wp_walk using wpAny_loadPart' hl); (refine wpAny_stack_any fun sk => wpAny_pure ?_)
    split
    · rename_i c _ _ _ _ _
      cases (c == Value.type "enumerate") <;> (wp_walk using wpAny_loadPart' hl, wpAny_pyIter_tuple hT; exact ⟨_, rfl, h⟩)
    · wp_walk using wpAny_loadPart' hl, wpAny_pyIter_tuple hT
      exact ⟨_, rfl, h⟩
section
variable {prog : Program} {w : World} {A : Around} {E : Value → Shared → Prop} {s : Shared}
theorem call_enumT {l : Addr} {xs : Array Value} {Q : Value → Shared → Prop} (hT : s.heap.IsTuple l xs)
    (h : ∀ h', IsEnum h' (s.heap.objs.size + 1) s.heap.objs.size 0 .none → h'.IsTupleIter s.heap.objs.size l 0 → h'.objs.size = s.heap.objs.size + 2 → (∀ b o, s.heap.get? b = some o → h'.get? b = some o) → Q (.ref (s.heap.objs.size + 1)) { s with heap := h' }) :
    wpAny (model prog w) A (call (.type "enumerate") [.ref l]) Q E s := by
  obtain ⟨⟨c, dct, dt, sl⟩, hl, hc, n, hd⟩ := hT
  obtain rfl : c = .type "tuple" := hc
  obtain rfl : dt = .seq xs n := hd
  refine callType_new F.called_enumerate (by decide) (F.typeCall_enumerate_1 _) (F.newCall_enumerate_1 _) (fun ob => F.args_object_init_2 ob _) F.entry_enumerate_new (meets_enumT l xs n dct sl) ⟨hl, ?_⟩
  have hz : (s.heap.push { cls := .type "tuple_iterator", data := .fields #[.ref l, .int 0 0] }).objs.size = s.heap.objs.size + 1 := Heap.size_push ..
  show _ ∧ _
  rw [hz]
  have he : IsEnum ((s.heap.push { cls := .type "tuple_iterator", data := .fields #[.ref l, .int 0 0] }).push { cls := .type "enumerate", data := .fields #[.none, .bool false, .ref s.heap.objs.size, rawInt 0, .none, .none] }) (s.heap.objs.size + 1) s.heap.objs.size 0 .none := by
    have := Heap.get?_push_size (s.heap.push { cls := .type "tuple_iterator", data := .fields #[.ref l, .int 0 0] }) (o := { cls := .type "enumerate", data := .fields #[.none, .bool false, .ref s.heap.objs.size, rawInt 0, .none, .none] }) rfl
    rw [hz] at this
    exact this
  exact ⟨⟨_, he, rfl⟩, h _ he ⟨_, Heap.get?_push_of_some _ (Heap.get?_push_size _ rfl), rfl, rfl⟩ (by rw [Heap.size_push, hz]) fun b o e => Heap.get?_push_of_some _ (Heap.get?_push_of_some _ e)⟩
/-- the next pair, whatever is walked within -/
theorem enum_item {e it : Addr} {i : Nat} {x old : Value} {J : Heap → Prop} {Q : Value → Shared → Prop} (he : IsEnum s.heap e it i old) (hne : e ≠ it)
    (hn : ∀ R : Value → Shared → Prop, (∀ k, J k → Heap.SameBut it s.heap k → R x { s with heap := k }) → wpAny (model prog w) A (Builtin.SmallTypes.nextOf (.ref it)) R E s)
    (hJ : ∀ k k' : Heap, J k → (∀ b o, b ≠ e → k.get? b = some o → k'.get? b = some o) → J k')
    (hQ : ∀ k, IsEnumOut k e it ((i : Int) + 1) x s.heap.objs.size → J k → k.get? s.heap.objs.size = some { cls := .type "tuple", data := .seq #[.int i s.toks, x] } → k.objs.size = s.heap.objs.size + 1 → (∀ b o, b ≠ e → b ≠ it → s.heap.get? b = some o → k.get? b = some o) → Q (.ref s.heap.objs.size) { s with heap := k, toks := s.toks + 1 }) :
    wpAny (model prog w) A (Builtin.«enumerate.__next__» ⟨[.ref e], []⟩) (fun fin s' => ∃ v, fin = .done (.ret v) ∧ Q v s') E s := by
  obtain ⟨hp, gs, dr, tk, os⟩ := s
  show wpAny _ _ (field (.ref e) 2 >>= _) _ _ ⟨hp, gs, dr, tk, os⟩
  refine wpAny_bind (wpAny_field he rfl (x := Value.ref it) rfl (wpAny_bind (hn _ fun k1 j1 b1 => ?_)))
  have b1 : Heap.SameBut it hp k1 := b1
  have e1 : IsEnum k1 e it i old := (b1.2 e hne).trans he
  show wpAny _ _ (field (.ref e) 3 >>= _) _ _ ⟨k1, gs, dr, tk, os⟩
  refine wpAny_bind (wpAny_field e1 rfl (x := rawInt i) rfl ?_)
  show wpAny _ _ (field (.ref e) 4 >>= _) _ _ ⟨k1, gs, dr, tk, os⟩
  refine wpAny_bind (wpAny_field e1 rfl (x := Value.none) rfl ?_)
  show wpAny _ _ (mkInt i >>= _) _ _ ⟨k1, gs, dr, tk, os⟩
  refine wpAny_bind (m := mkInt i) (wpAny_mkInt ?_)
  show wpAny _ _ (setField (.ref e) 3 (rawInt ((i : Int) + 1)) >>= _) _ _ ⟨k1, gs, dr, tk + 1, os⟩
  refine wpAny_bind (wpAny_setField_rec e1 (by simp) fun k2 e2 b2 => ?_)
  have b2 : Heap.SameBut e k1 k2 := b2
  have e2 : IsEnum k2 e it ((i : Int) + 1) old := e2
  show wpAny _ _ (setField (.ref e) 4 .none >>= _) _ _ ⟨k2, gs, dr, tk + 1, os⟩
  refine wpAny_bind (wpAny_setField_rec e2 (by simp) fun k3 e3 b3 => ?_)
  have b3 : Heap.SameBut e k2 k3 := b3
  have e3 : IsEnum k3 e it ((i : Int) + 1) old := e3
  show wpAny _ _ (newTuple [.int i tk, x] >>= _) _ _ ⟨k3, gs, dr, tk + 1, os⟩
  refine wpAny_bind (m := newTuple [.int i tk, x]) (wpAny_newTuple ?_)
  have j3 : J k3 := hJ k1 k3 j1 fun b o nb q => b3.extBut b o nb (b2.extBut b o nb q)
  have sz3 : k3.objs.size = hp.objs.size := by rw [b3.1, b2.1, b1.1]
  have le : e < hp.objs.size := Heap.lt_size he
  have kp3 : ∀ b o, b ≠ e → b ≠ it → hp.get? b = some o → k3.get? b = some o := fun b o n1 n2 q => b3.extBut b o n1 (b2.extBut b o n1 (b1.extBut b o n2 q))
  obtain ⟨k4, hk4⟩ : ∃ k4, k4 = k3.push { cls := .type "tuple", data := .seq #[.int i tk, x] } := ⟨_, rfl⟩
  have e4 : IsEnum k4 e it ((i : Int) + 1) old := by rw [hk4]; exact Heap.get?_push_of_some _ e3
  have j4 : J k4 := hJ k3 k4 j3 fun b o _ q => by rw [hk4]; exact Heap.get?_push_of_some _ q
  have t4 : k4.get? hp.objs.size = some { cls := .type "tuple", data := .seq #[.int i tk, x] } := by rw [hk4, ← sz3]; exact Heap.get?_push_size _ rfl
  have z4 : k4.objs.size = hp.objs.size + 1 := by rw [hk4, Heap.size_push, sz3]
  have kp4 : ∀ b o, b ≠ e → b ≠ it → hp.get? b = some o → k4.get? b = some o := fun b o n1 n2 q => by rw [hk4]; exact Heap.get?_push_of_some _ (kp3 b o n1 n2 q)
  show wpAny _ _ (Builtin.SmallTypes.ownedTupleIsFree (.ref e) >>= _) _ _ ⟨k3.push { cls := .type "tuple", data := .seq #[.int i tk, x] }, gs, dr, tk + 1, os⟩
  rw [sz3, ← hk4]
  refine wpAny_bind ?_
  unfold Builtin.SmallTypes.ownedTupleIsFree
  refine wpAny_bind (wpAny_field e4 rfl (x := Value.none) rfl (wpAny_pure ?_))
  simp only [if_true]
  refine wpAny_bind (wpAny_rule (wpAny_bind (wpAny_field e4 rfl (x := old) rfl (wpAny_bind (wpAny_setField_rec e4 (by simp) fun k5 e5 b5 => ?_)))))
  have b5 : Heap.SameBut e k4 k5 := b5
  have e5 : IsEnum k5 e it ((i : Int) + 1) x := e5
  show wpAny _ _ (Builtin.SmallTypes.ownedTupleHandOut (.ref e) (.ref hp.objs.size) >>= _) _ _ ⟨k5, gs, dr, tk + 1, os⟩
  refine wpAny_bind ?_
  unfold Builtin.SmallTypes.ownedTupleHandOut
  refine wpAny_bind (wpAny_setField_rec e5 (by simp) fun k6 e6 b6 => ?_)
  have b6 : Heap.SameBut e k5 k6 := b6
  have e6 : IsEnumOut k6 e it ((i : Int) + 1) x hp.objs.size := e6
  refine wpAny_setField_rec e6 (by simp) fun k7 e7 b7 => ?_
  have b7 : Heap.SameBut e k6 k7 := b7
  have e7 : IsEnumOut k7 e it ((i : Int) + 1) x hp.objs.size := e7
  have al : ∀ b o, b ≠ e → k4.get? b = some o → k7.get? b = some o := fun b o nb q => b7.extBut b o nb (b6.extBut b o nb (b5.extBut b o nb q))
  exact wpAny_bind (wpAny_letGo (wpAny_pure ⟨_, rfl, hQ k7 e7 (hJ k4 k7 j4 al) (al _ _ (Nat.ne_of_gt le) t4) (by rw [b7.1, b6.1, b5.1, z4]) fun b o n1 n2 q => al b o n1 (kp4 b o n1 n2 q)⟩))
theorem nextEnumT_item {e it t : Addr} {i : Nat} {xs : Array Value} {x old : Value} {Q : Option Value → Shared → Prop} (he : IsEnum s.heap e it i old) (hit : s.heap.IsTupleIter it t i) (ht : s.heap.IsTuple t xs) (hx : xs[i]? = some x) (hne : e ≠ it)
    (hQ : ∀ k, IsEnumOut k e it ((i : Int) + 1) x s.heap.objs.size → k.IsTupleIter it t (i + 1) → k.get? s.heap.objs.size = some { cls := .type "tuple", data := .seq #[.int i s.toks, x] } → k.objs.size = s.heap.objs.size + 1 → (∀ b o, b ≠ e → b ≠ it → s.heap.get? b = some o → k.get? b = some o) → Q (some (.ref s.heap.objs.size)) { s with heap := k, toks := s.toks + 1 }) :
    wpAny (model prog w) A (pyNext (.ref e)) Q E s := by
  have hT : s.TypeIs (.ref e) "enumerate" := ⟨_, he, rfl⟩
  unfold pyNext
  refine wpAny_bind (wpAny_attempt (wpAny_callSpecial?_slot (name := Str.ofString "__next__") hT F.slot_enumerate_next (wpAny_call_entry F.slot_enumerate_next hT F.entry_enumerate_next (enum_item (J := fun k => k.IsTupleIter it t (i + 1)) he hne (fun R hR => RZ.nextOf_tuple_item hit ht hx hR) (fun k k' j al => ?_) fun k a b c d m => wpAny_pure (hQ k a b c d m)) (F.args_enumerate_next_1 _))))
  obtain ⟨o, ho, r⟩ := j
  exact ⟨o, al it o (Ne.symm hne) ho, r⟩
theorem nextEnumT_end {e it t : Addr} {i : Nat} {xs : Array Value} {old : Value} {Q : Option Value → Shared → Prop} (hh : A.handled = none) (he : IsEnum s.heap e it i old) (hit : s.heap.IsTupleIter it t i) (ht : s.heap.IsTuple t xs) (hx : xs[i]? = none)
    (hQ : ∀ k, Heap.ExtBut it s.heap k → Q none { s with heap := k }) : wpAny (model prog w) A (pyNext (.ref e)) Q E s := by
  have hT : s.TypeIs (.ref e) "enumerate" := ⟨_, he, rfl⟩
  unfold pyNext
  refine wpAny_bind (wpAny_attempt (wpAny_callSpecial?_slot (name := Str.ofString "__next__") hT F.slot_enumerate_next (wpAny_call_entry F.slot_enumerate_next hT F.entry_enumerate_next ?_ (F.args_enumerate_next_1 _))))
  show wpAny _ _ (field (.ref e) 2 >>= _) _ _ _
  refine wpAny_bind (wpAny_field he rfl (x := Value.ref it) rfl (wpAny_bind (RZ.nextOf_tuple_end hh hit ht hx fun k z ek ez => ?_)))
  obtain ⟨o, ho, hc⟩ := ez
  exact wpAny_bind (wpAny_isInstance (T := "StopIteration") (b := true) ⟨o, ho, hc⟩ isSubtype_stop (wpAny_pure (hQ _ ek)))
end
/-! ### the rule -/
/-- the tuple at a as it stands at each turn, each item in a new pair -/
def ItT (K : PySem.W.Frag) (a : Addr) : It :=
  ⟨fun i H => ∃ (xs : List V) (x : V), SqT K H a xs ∧ xs[i]? = some x, fun i H v H' => ∃ p x, v = .ref p ∧ H p = none ∧ H' = upd H p (.tup [.int (i : Nat), x]) ∧ ∀ xs, SqT K H a xs → xs[i]? = some x, fun i H => ∃ xs : List V, SqT K H a xs ∧ xs.length ≤ i⟩
theorem turn_enumT {P : Program} {w : World} {K : PySem.W.Frag} {es : List Expr} {kk : Nat} {tp : Pos} (a e it : Addr) :
    Turn P w K (.Tuple es kk tp) (ItT K a) [e, it] e (fun i h => (∃ old, IsEnum h e it ((i : Nat) : Int) old) ∧ h.IsTupleIter it a i ∧ e ≠ it) where
  mem := by simp
  obj := fun i h st b hb => by
    obtain ⟨⟨old, he⟩, ⟨o, ho, hc, hd⟩, _⟩ := st
    rcases (show b = e ∨ b = it by simpa using hb) with rfl | rfl
    · exact ⟨_, he, fun v z => nomatch z⟩
    · exact ⟨o, ho, fun v z => by rw [hd] at z; cases z⟩
  keep := fun i h h' st k => let ⟨⟨old, he⟩, hi, hne⟩ := st; ⟨⟨old, k e (by simp) _ he⟩, hi.at fun o z => k it (by simp) o z, hne⟩
  item := by
    intro X hP hw hK hc i pins s σ H E I hf st hg
    subst hP hw hK
    obtain ⟨⟨old, he⟩, hit, hne⟩ := st
    obtain ⟨xs, x, hq, hx⟩ := hg
    obtain ⟨its, rv, p, hz⟩ := I.tuple hq
    obtain ⟨u, hu, ru⟩ := rv.get hx
    have le : e < s.heap.objs.size := Heap.lt_size he
    have li : it < s.heap.objs.size := by obtain ⟨_, z, _⟩ := hit; exact Heap.lt_size z
    refine nextEnumT_item he hit p (x := u) (by simpa using hu) hne fun k ho hit' hT hsz hk => ?_
    refine ⟨_, rfl, wpAny_letOwnedTupleGo_enum (s := { s with heap := k, toks := s.toks + 1 }) ho fun k2 he' sb => ?_⟩
    have hT2 : k2.get? s.heap.objs.size = some { cls := .type "tuple", data := .seq #[.int i s.toks, u] } := (sb.2 _ (Nat.ne_of_gt le)).trans hT
    have I1 : Inv X pins σ (upd H s.heap.objs.size (.tup [.int (i : Nat), x])) { s with heap := k2, toks := s.toks + 1 } :=
      I.turnedNew (ch := [e, it]) (fun b ob hb z => (sb.2 b (fun y => hb (by simp [y]))).trans (hk b ob (fun y => hb (by simp [y])) (fun y => hb (by simp [y])) z)) hf (Nat.le_refl _) ⟨by show 2 ≤ sizeLine; decide, [.int i s.toks, u], .cons ⟨_, rfl⟩ (.cons ru .nil), ⟨_, hT2, rfl, _, rfl⟩⟩
    refine ⟨.ref s.heap.objs.size, _, I1, rfl, ⟨_, x, rfl, I.hok.fresh (Nat.le_refl _), rfl, fun ys hy => ?_⟩, ⟨⟨u, ?_⟩, hit'.at fun o z => (sb.2 it (Ne.symm hne)).trans z, hne⟩, fun b hb => ?_⟩
    · have e9 : ys = xs := I.tuple_inj hy hq
      rw [e9]
      exact hx
    · rw [show ((i + 1 : Nat) : Int) = (i : Int) + 1 by omega]
      exact he'
    · have lb : b < s.heap.objs.size := by
        rcases (show b = e ∨ b = it by simpa using hb) with rfl | rfl
        · exact le
        · exact li
      rw [upd_ne (Nat.ne_of_lt lb)]
      exact (hf b hb).1
  done := by
    intro X hP hw hK hc i pins s σ H E I hf st hg
    subst hP hw hK
    obtain ⟨⟨old, he⟩, hit, hne⟩ := st
    obtain ⟨xs, hq, hx⟩ := hg
    obtain ⟨its, rv, p, hz⟩ := I.tuple hq
    obtain ⟨f0, f1, f2, f3, f4, f5⟩ := hf it (by simp)
    have hl := rv.length
    exact nextEnumT_end (I.ok.hd hc) he hit p (by simp; omega) fun k eb => ⟨rfl, I.turned (t' := s.toks) (fun b o hb z => eb b o hb z) f0 f1 f3 f4 f5⟩
  self := fun A i s Q E st h => let ⟨⟨_, he⟩, _⟩ := st; wpAny_pyIter_enum he h
def iEnumT (K : PySem.W.Frag) (ta : TA) : TI := fun σ H R => ta σ H fun vs H1 => ∃ a xs, vs = [.ref a] ∧ SqT K H1 a xs ∧ R (ItT K a) H1
theorem pi_enumT {X : Cx} {e : Expr} {ta : TA} {p pos tp : Pos} {es : List Expr} {kk : Nat} (hg : Gl X "enumerate") (hm : X.mg "enumerate" = none) (ha : PA X [e] ta) (hs : starEach [e] X.env = [(false, eval e X.env)] := by rfl) :
    PI X (.Tuple es kk tp) (.Call (.Name "enumerate" p) [e] [] pos) (iEnumT X.K ta) := by
  refine ⟨fun pins s σ H R I h => Call_ (ld_blt I hg hm boot_enumerate (PyProof.Rows.callWith_type1 (thn (ha.run pos pins s σ H _ I h) fun us s1 ⟨vs, H1, I1, r1, q1⟩ => ?_) hs rfl))⟩
  obtain ⟨a, xs, ex, hq, q⟩ := q1
  subst ex
  cases r1 with
  | cons r rr =>
    cases rr
    cases r
    obtain ⟨its, rv, p', hz⟩ := I1.tuple hq
    refine call_enumT p' fun k he hit hsz hk => wpAny_pyIter_enum he ⟨s1.heap.objs.size + 1, [s1.heap.objs.size + 1, s1.heap.objs.size], _, _, H1, rfl, I1.kept (t' := s1.toks) hk, turn_enumT a (s1.heap.objs.size + 1) s1.heap.objs.size, ⟨⟨.none, he⟩, hit, Nat.succ_ne_self _⟩, fun b hb => ?_, q⟩
    have hle : s1.heap.objs.size ≤ b := by
      rcases (show b = s1.heap.objs.size + 1 ∨ b = s1.heap.objs.size by simpa using hb) with z | z
      · rw [z]; exact Nat.le_add_right _ _
      · rw [z]; exact Nat.le_refl _
    exact I1.fpOk hle (I1.hok.fresh hle)
theorem walk_enumT {K : PySem.W.Frag} {a : Addr} {xs : List V} : Walk (ItT K a) xs.length (fun H => SqT K H a xs) (YPair (fun i => some (.int (i : Nat))) (fun i => xs[i]?)) := by
  refine ⟨fun i _ hi q => ⟨xs, xs[i], q, by simp [hi]⟩, fun _ q => ⟨xs, q, Nat.le_refl _⟩, fun i H v H' _ q y => ?_⟩
  obtain ⟨p, x, h1, h2, h3, h4⟩ := y
  exact ⟨p, .int (i : Nat), x, h1, h2, h3, rfl, h4 xs q⟩
end Lc
set_option Elab.async false
set_option linter.all false
set_option maxRecDepth 100000
set_option maxHeartbeats 4000000
/-! list(s), s a text: its signs -/
namespace Lc
open PySem PySem.Spec PyProof.Rows L2
theorem vals_signs {z : Str} {acc : Array Value} (h : ItemsOf (SignAt z) acc z.cps.size) : Vals (z.cps.toList.map fun d => V.str ⟨#[d]⟩) acc.toList := by
  obtain ⟨hs, hi⟩ := h
  have go : ∀ (l : List Nat) (us : List Value), us.length = l.length → (∀ (i : Nat) (u : Value), us[i]? = some u → ∃ d t, l[i]? = some d ∧ u = .str ⟨#[d]⟩ t) → Vals (l.map fun d => V.str ⟨#[d]⟩) us := by
    intro l
    induction l with
    | nil =>
      intro us hl _
      have : us = [] := List.length_eq_zero_iff.mp hl
      rw [this]
      exact .nil
    | cons d r ih =>
      intro us hl hu
      cases us with
      | nil => simp at hl
      | cons u q =>
        obtain ⟨d', t, e1, e2⟩ := hu 0 u rfl
        cases e1
        refine .cons ⟨t, e2⟩ (ih q (by simpa using hl) fun i v hv => hu (i + 1) v hv)
  refine go _ _ (by simpa using hs) fun i u hu => ?_
  have hu2 : acc[i]? = some u := by rw [← Array.getElem?_toList]; exact hu
  obtain ⟨d, t, e1, e2⟩ := hi i u hu2
  exact ⟨d, t, by rw [Array.getElem?_toList]; exact e1, e2⟩
theorem call_listS {X : Cx} (hc : X.calm = true) : CallR X (.type "list") (fun xs H Q => ∃ z : Str, xs = [.str z] ∧ z.length ≤ sizeLine ∧ ∀ l, H l = none → Q (.ref l) (upd H l (.lst (z.cps.toList.map fun d => V.str ⟨#[d]⟩)))) := by
  intro pins s σ H xs us Q I r h
  obtain ⟨z, rfl, hz, q⟩ := h
  obtain ⟨u, rfl, t, rfl⟩ := vals1 r
  refine call_list_str (I.ok.hd hc) z t (fun k tk acc n hk hS hi => ?_) hz
  refine ⟨.ref s.heap.objs.size, upd H s.heap.objs.size (.lst (z.cps.toList.map fun d => V.str ⟨#[d]⟩)), I.laid (t' := tk) hk (Nat.le_refl _) ⟨?_, acc.toList, n, vals_signs hi, ?_⟩, rfl, q _ (I.hok.fresh (Nat.le_refl _))⟩
  · rw [List.length_map, Array.length_toList]
    exact hz
  · rw [Array.toArray_toList]
    exact hS
end Lc
set_option Elab.async false
set_option linter.all false
set_option maxRecDepth 100000
set_option maxHeartbeats 4000000
/-! values as data: what a value in the heap stands for, and readings by functions on data -/
namespace Dl
open PySem PySem.Spec PyProof.Rows L2
abbrev D := PyData
abbrev Bar := Addr → Prop
/-- the written part, and the handles of what is shared -/
structure Kx where
  K : PySem.W.Frag
  hd : Nat → Addr → Prop
def KT (K : PySem.W.Frag) (a : Addr) (xs : List V) : Prop :=
  ∃ (o : Obj) (its : Array Value) (n : Nat), K.lookup a = some o ∧ o.cls = .type "tuple" ∧ o.data = .seq its n ∧ its.size ≤ sizeLine ∧ Vals xs its.toList
/-- a handle: a thing that is shared and may change, told by its number -/
def hnd (n : Nat) : D := .dict [(.int n, .none)]
mutual
def Rep (G : Kx) (B : Bar) (H : Hp) : D → V → Prop
  | .none, v => v = .non
  | .bool b, v => v = .bl b
  | .int i, v => v = .int i
  | .str x, v => v = .str x
  | .list ds, v => ∃ a vs, v = .ref a ∧ H a = some (.lst vs) ∧ ¬ B a ∧ Reps G B H ds vs
  | .tuple ds, v => ∃ a vs, v = .ref a ∧ ((H a = some (.tup vs) ∧ ¬ B a) ∨ KT G.K a vs) ∧ Reps G B H ds vs
  | .dict kvs, v => ∃ a n, v = .ref a ∧ kvs = [(.int (n : Nat), .none)] ∧ G.hd n a
def Reps (G : Kx) (B : Bar) (H : Hp) : List D → List V → Prop
  | [], vs => vs = []
  | d :: ds, vs => ∃ v r, vs = v :: r ∧ Rep G B H d v ∧ Reps G B H ds r
end
section
variable {G : Kx} {B B' : Bar} {H H' : Hp}
mutual
theorem Rep.mv (k : ∀ a o, H a = some o → ¬ B a → H' a = some o ∧ ¬ B' a) : ∀ (d : D) (v : V), Rep G B H d v → Rep G B' H' d v
  | .none, _, h => by simpa only [Rep] using h
  | .bool _, _, h => by simpa only [Rep] using h
  | .int _, _, h => by simpa only [Rep] using h
  | .str _, _, h => by simpa only [Rep] using h
  | .list ds, v, h => by
    simp only [Rep] at h ⊢
    obtain ⟨a, vs, e, h1, h2, h3⟩ := h
    exact ⟨a, vs, e, (k a _ h1 h2).1, (k a _ h1 h2).2, Reps.mv k ds vs h3⟩
  | .tuple ds, v, h => by
    simp only [Rep] at h ⊢
    obtain ⟨a, vs, e, h1, h3⟩ := h
    refine ⟨a, vs, e, ?_, Reps.mv k ds vs h3⟩
    rcases h1 with ⟨h1, h2⟩ | h1
    · exact .inl ⟨(k a _ h1 h2).1, (k a _ h1 h2).2⟩
    · exact .inr h1
  | .dict _, _, h => by simpa only [Rep] using h
theorem Reps.mv (k : ∀ a o, H a = some o → ¬ B a → H' a = some o ∧ ¬ B' a) : ∀ (ds : List D) (vs : List V), Reps G B H ds vs → Reps G B' H' ds vs
  | [], _, h => by simpa only [Reps] using h
  | d :: ds, vs, h => by
    simp only [Reps] at h ⊢
    obtain ⟨v, r, e, h1, h2⟩ := h
    exact ⟨v, r, e, Rep.mv k d v h1, Reps.mv k ds r h2⟩
end
theorem Rep.same {d : D} {v : V} (h : Rep G B H d v) (s : Same H H') : Rep G B H' d v := h.mv fun a o e n => ⟨s a o e, n⟩
theorem Reps.same {d : List D} {v : List V} (h : Reps G B H d v) (s : Same H H') : Reps G B H' d v := h.mv fun a o e n => ⟨s a o e, n⟩
theorem Rep.fr {M : Bar} {d : D} {v : V} (h : Rep G B H d v) (f : Lc.Fr M H H') (m : ∀ a, M a → B a) : Rep G B H' d v := h.mv fun a o e n => ⟨f.at e fun z => n (m a z), n⟩
theorem Reps.fr {M : Bar} {d : List D} {v : List V} (h : Reps G B H d v) (f : Lc.Fr M H H') (m : ∀ a, M a → B a) : Reps G B H' d v := h.mv fun a o e n => ⟨f.at e fun z => n (m a z), n⟩
theorem Rep.sub {d : D} {v : V} (h : Rep G B H d v) (k : ∀ a, B' a → H a ≠ none → B a) : Rep G B' H d v := h.mv fun a o e n => ⟨e, fun z => n (k a z (by rw [e]; simp))⟩
theorem Reps.sub {d : List D} {v : List V} (h : Reps G B H d v) (k : ∀ a, B' a → H a ≠ none → B a) : Reps G B' H d v := h.mv fun a o e n => ⟨e, fun z => n (k a z (by rw [e]; simp))⟩
theorem Reps.len : ∀ {ds : List D} {vs : List V}, Reps G B H ds vs → vs.length = ds.length
  | [], _, h => by simp only [Reps] at h; subst h; rfl
  | d :: ds, vs, h => by
    simp only [Reps] at h
    obtain ⟨v, r, rfl, _, h2⟩ := h
    simp [Reps.len h2]
theorem Reps.nil : Reps G B H [] [] := by simp only [Reps]
theorem Reps.cons {d : D} {ds : List D} {v : V} {vs : List V} (h : Rep G B H d v) (t : Reps G B H ds vs) : Reps G B H (d :: ds) (v :: vs) := by
  simp only [Reps]
  exact ⟨v, vs, rfl, h, t⟩
theorem Reps.get : ∀ {ds : List D} {vs : List V} {i : Nat} {d : D}, Reps G B H ds vs → ds[i]? = some d → ∃ v, vs[i]? = some v ∧ Rep G B H d v
  | [], _, _, _, _, e => by simp at e
  | d :: ds, vs, i, x, h, e => by
    simp only [Reps] at h
    obtain ⟨v, r, rfl, h1, h2⟩ := h
    cases i with
    | zero =>
      simp at e
      subst e
      exact ⟨v, rfl, h1⟩
    | succ i => exact Reps.get (i := i) h2 (by simpa using e)
theorem Reps.append : ∀ {ds es : List D} {vs us : List V}, Reps G B H ds vs → Reps G B H es us → Reps G B H (ds ++ es) (vs ++ us)
  | [], _, _, _, h, t => by simp only [Reps] at h; subst h; exact t
  | d :: ds, es, vs, us, h, t => by
    simp only [Reps] at h
    obtain ⟨v, r, rfl, h1, h2⟩ := h
    exact Reps.cons h1 (Reps.append h2 t)
theorem Reps.take : ∀ {ds : List D} {vs : List V} (n : Nat), Reps G B H ds vs → Reps G B H (ds.take n) (vs.take n)
  | _, _, 0, _ => by simp [Reps]
  | [], _, n + 1, h => by simp only [Reps] at h; subst h; simp [Reps]
  | d :: ds, vs, n + 1, h => by
    simp only [Reps] at h
    obtain ⟨v, r, rfl, h1, h2⟩ := h
    exact Reps.cons h1 (Reps.take n h2)
theorem Reps.drop : ∀ {ds : List D} {vs : List V} (n : Nat), Reps G B H ds vs → Reps G B H (ds.drop n) (vs.drop n)
  | _, _, 0, h => h
  | [], _, n + 1, h => by simp only [Reps] at h; subst h; simp [Reps]
  | d :: ds, vs, n + 1, h => by
    simp only [Reps] at h
    obtain ⟨v, r, rfl, h1, h2⟩ := h
    exact Reps.drop n h2
theorem Reps.ints : ∀ {ns : List Int} {vs : List V}, Reps G B H (ns.map PyData.int) vs → vs = ns.map V.int
  | [], _, h => by simpa only [Reps, List.map_nil] using h
  | n :: ns, vs, h => by
    simp only [Reps, Rep, List.map_cons] at h
    obtain ⟨v, r, rfl, rfl, h2⟩ := h
    rw [Reps.ints h2]
    rfl
theorem Reps.strs : ∀ {ns : List Str} {vs : List V}, Reps G B H (ns.map PyData.str) vs → vs = ns.map V.str
  | [], _, h => by simpa only [Reps, List.map_nil] using h
  | n :: ns, vs, h => by
    simp only [Reps, Rep, List.map_cons] at h
    obtain ⟨v, r, rfl, rfl, h2⟩ := h
    rw [Reps.strs h2]
    rfl
theorem Reps.bools : ∀ {ns : List Bool} {vs : List V}, Reps G B H (ns.map PyData.bool) vs → vs = ns.map V.bl
  | [], _, h => by simpa only [Reps, List.map_nil] using h
  | n :: ns, vs, h => by
    simp only [Reps, Rep, List.map_cons] at h
    obtain ⟨v, r, rfl, rfl, h2⟩ := h
    rw [Reps.bools h2]
    rfl
theorem reps_ints : ∀ {ns : List Int}, Reps G B H (ns.map PyData.int) (ns.map V.int)
  | [] => Reps.nil
  | n :: ns => Reps.cons (by simp only [Rep]) reps_ints
theorem reps_strs : ∀ {ns : List Str}, Reps G B H (ns.map PyData.str) (ns.map V.str)
  | [] => Reps.nil
  | n :: ns => Reps.cons (by simp only [Rep]) reps_strs
/-- a tuple is to be read -/
theorem Rep.sqT {ds : List D} {v : V} (h : Rep G B H (.tuple ds) v) : ∃ a vs, v = .ref a ∧ SqT G.K H a vs ∧ Reps G B H ds vs := by
  simp only [Rep] at h
  obtain ⟨a, vs, e, h1, h3⟩ := h
  refine ⟨a, vs, e, ?_, h3⟩
  rcases h1 with ⟨h1, _⟩ | h1
  · exact .inl (.inl h1)
  · exact .inr h1
theorem Rep.sqL {ds : List D} {v : V} (h : Rep G B H (.list ds) v) : ∃ a vs, v = .ref a ∧ H a = some (.lst vs) ∧ SqL G.K H a vs ∧ Reps G B H ds vs := by
  simp only [Rep] at h
  obtain ⟨a, vs, e, h1, h2, h3⟩ := h
  exact ⟨a, vs, e, h1, .inl (.inl h1), h3⟩
mutual
theorem Rep.dp : ∀ (d : D) (v : V), PyData.canLay0 d = true → Rep G B H d v → Dp G.K H v d
  | .none, _, _, h => by simp only [Rep] at h; subst h; exact .non
  | .bool _, _, _, h => by simp only [Rep] at h; subst h; exact .bl _
  | .int _, _, _, h => by simp only [Rep] at h; subst h; exact .int _
  | .str _, _, _, h => by simp only [Rep] at h; subst h; exact .str _
  | .list ds, v, c, h => by
    obtain ⟨a, vs, rfl, _, h1, h2⟩ := h.sqL
    exact .lst h1 (Reps.dp ds vs (by simpa [PyData.canLay0] using c) h2)
  | .tuple ds, v, c, h => by
    obtain ⟨a, vs, rfl, h1, h2⟩ := h.sqT
    exact .tup h1 (Reps.dp ds vs (by simpa [PyData.canLay0] using c) h2)
  | .dict _, _, c, _ => by simp [PyData.canLay0] at c
theorem Reps.dp : ∀ (ds : List D) (vs : List V), PyData.canLayAll0 ds = true → Reps G B H ds vs → DpAll G.K H vs ds
  | [], vs, _, h => by simp only [Reps] at h; subst h; exact .nil
  | d :: ds, vs, c, h => by
    simp only [Reps] at h
    obtain ⟨v, r, rfl, h1, h2⟩ := h
    have c' : d.canLay0 = true ∧ PyData.canLayAll0 ds = true := by simpa [PyData.canLayAll0] using c
    exact .cons (Rep.dp d v c'.1 h1) (Reps.dp ds r c'.2 h2)
end
end
/-! ### what is shared, and the slots -/
structure Zk (S : Type) where
  M : Bar
  R : Hp → S → Prop
  dom : ∀ H s a, R H s → M a → H a ≠ none
  loc : ∀ H H' s, R H s → (∀ a, M a → H' a = H a) → R H' s
theorem Zk.same {S : Type} (Z : Zk S) {H H' : Hp} {s : S} (r : Z.R H s) (e : Same H H') : Z.R H' s := Z.loc H H' s r fun a m => by
  cases q : H a with
  | none => exact absurd q (Z.dom H s a r m)
  | some o => exact e a o q
abbrev Rho := List (Option D)
abbrev Ev (S : Type) := Rho → S → Option (D × S)
abbrev Ea (S : Type) := Rho → S → Option (List D × S)
structure Er (G : Kx) (W : List Nat) (B O : Bar) (H : Hp) (σ : L2.St) (ρ : Rho) : Prop where
  len : σ.length = ρ.length
  pl : ∀ i d, i ∉ W → ρ[i]? = some (some d) → ∃ v, σ[i]? = some (some v) ∧ Rep G (fun a => B a ∨ O a) H d v
  ow : ∃ om : Nat → Addr, (∀ i j d e, i ∈ W → j ∈ W → ρ[i]? = some (some d) → ρ[j]? = some (some e) → om i = om j → i = j) ∧
    ∀ i d, i ∈ W → ρ[i]? = some (some d) → ∃ ds vs, d = .list ds ∧ σ[i]? = some (some (.ref (om i))) ∧ O (om i) ∧ H (om i) = some (.lst vs) ∧ Reps G (fun a => B a ∨ O a) H ds vs
structure Eo {S : Type} (G : Kx) (Z : Zk S) (W : List Nat) (B O : Bar) (H : Hp) (σ : L2.St) (ρ : Rho) : Prop where
  er : Er G W B O H σ ρ
  bd : ∀ a, B a → H a ≠ none
  ol : ∀ a, O a → ∃ vs, H a = some (.lst vs)
  mb : ∀ a, Z.M a → B a
  ob : ∀ a, O a → ¬ B a
section
variable {S : Type} {G : Kx} {Z : Zk S} {W : List Nat} {B O : Bar} {H H' : Hp} {σ : L2.St} {ρ : Rho}
theorem some_of_ne {α : Type} {o : Option α} (h : o ≠ none) : ∃ x, o = some x := by
  cases o with
  | none => exact absurd rfl h
  | some x => exact ⟨x, rfl⟩
theorem ne_fr {M : Bar} {a : Addr} (f : Lc.Fr M H H') (h : H a ≠ none) : H' a ≠ none := by
  obtain ⟨o, e⟩ := some_of_ne h
  obtain ⟨o', e', _⟩ := f a o e
  rw [e']
  simp
theorem Er.fr {M : Bar} (e : Er G W B O H σ ρ) (f : Lc.Fr M H H') (m : ∀ a, M a → B a) (ob : ∀ a, O a → ¬ B a) : Er G W B O H' σ ρ where
  len := e.len
  pl := fun i d hi hd => by
    obtain ⟨v, h1, h2⟩ := e.pl i d hi hd
    exact ⟨v, h1, h2.fr f fun a z => .inl (m a z)⟩
  ow := by
    obtain ⟨om, h1, h2⟩ := e.ow
    refine ⟨om, h1, fun i d hi hd => ?_⟩
    obtain ⟨ds, vs, a1, a2, a3, a4, a5⟩ := h2 i d hi hd
    exact ⟨ds, vs, a1, a2, a3, f.at a4 fun z => ob _ a3 (m _ z), a5.fr f fun a z => .inl (m a z)⟩
theorem Eo.od (e : Eo G Z W B O H σ ρ) : ∀ a, O a → H a ≠ none := fun a h => by
  obtain ⟨vs, h⟩ := e.ol a h
  rw [h]
  simp
theorem Eo.fr (e : Eo G Z W B O H σ ρ) (f : Lc.Fr Z.M H H') : Eo G Z W B O H' σ ρ where
  er := e.er.fr f e.mb e.ob
  bd := fun a h => ne_fr f (e.bd a h)
  ol := fun a h => by
    obtain ⟨vs, h2⟩ := e.ol a h
    exact ⟨vs, f.at h2 fun z => e.ob a h (e.mb a z)⟩
  mb := e.mb
  ob := e.ob
theorem Eo.new (e : Eo G Z W B O H σ ρ) {p : Addr} (h : H p = none) : ¬ (B p ∨ O p) := fun z => z.elim (fun z => e.bd p z h) fun z => e.od p z h
end
/-! ### readings of expressions by functions on data -/
def tEx {S : Type} (G : Kx) (Z : Zk S) (W : List Nat) (f : Ev S) : TE := fun σ H Q =>
  ∃ (B O : Bar) (ρ : Rho) (s : S) (d : D) (s' : S), Eo G Z W B O H σ ρ ∧ Z.R H s ∧ f ρ s = some (d, s') ∧
    ∀ v H', Lc.Fr Z.M H H' → Rep G (fun a => B a ∨ O a) H' d v → Z.R H' s' → Q v H'
def tEa {S : Type} (G : Kx) (Z : Zk S) (W : List Nat) (f : Ea S) : TA := fun σ H Q =>
  ∃ (B O : Bar) (ρ : Rho) (s : S) (d : List D) (s' : S), Eo G Z W B O H σ ρ ∧ Z.R H s ∧ f ρ s = some (d, s') ∧
    ∀ v H', Lc.Fr Z.M H H' → Reps G (fun a => B a ∨ O a) H' d v → Z.R H' s' → Q v H'
def tEt {S : Type} (G : Kx) (Z : Zk S) (W : List Nat) (f : Rho → S → Option (Bool × S)) : TT := fun σ H Q =>
  ∃ (B O : Bar) (ρ : Rho) (s : S) (d : Bool) (s' : S), Eo G Z W B O H σ ρ ∧ Z.R H s ∧ f ρ s = some (d, s') ∧
    ∀ H', Lc.Fr Z.M H H' → Z.R H' s' → Q d H'
theorem imp_pe {X : Cx} {e : Expr} {t t' : TE} (h : PE X e t) (m : ∀ σ H Q, t' σ H Q → t σ H Q) : PE X e t' := ⟨fun pins s σ H Q I q => h.run pins s σ H Q I (m σ H Q q)⟩
theorem imp_pa {X : Cx} {e : List Expr} {t t' : TA} (h : PA X e t) (m : ∀ σ H Q, t' σ H Q → t σ H Q) : PA X e t' := ⟨fun pos pins s σ H Q I q => h.run pos pins s σ H Q I (m σ H Q q)⟩
theorem imp_pt {X : Cx} {e : Expr} {t t' : TT} (h : PT X e t) (m : ∀ σ H Q, t' σ H Q → t σ H Q) : PT X e t' := ⟨fun pins s σ H Q I q => h.run pins s σ H Q I (m σ H Q q)⟩
theorem imp_pw {X : Cx} {e : Expr} {t t' : TT} (h : PW X e t) (m : ∀ σ H Q, t' σ H Q → t σ H Q) : PW X e t' := ⟨fun wh pins s σ H Q I q => h.run wh pins s σ H Q I (m σ H Q q)⟩
theorem imp_ps {X : Cx} {e : Stmt} {t t' : TS} (h : PS X e t) (m : ∀ D σ H, t' D σ H → t D σ H) : PS X e t' := ⟨fun pins s σ H D I q => h.run pins s σ H D I (m D σ H q)⟩
theorem imp_pss {X : Cx} {e : List Stmt} {t t' : TS} (h : PSs X e t) (m : ∀ D σ H, t' D σ H → t D σ H) : PSs X e t' := ⟨fun pins s σ H D I q => h.run pins s σ H D I (m D σ H q)⟩
end Dl
set_option Elab.async false
set_option linter.all false
set_option maxRecDepth 100000
set_option maxHeartbeats 4000000
namespace Dl
open PySem PySem.Spec PyProof.Rows L2
def bnd {S α β : Type} (f : Option (α × S)) (k : α → S → Option (β × S)) : Option (β × S) := match f with
  | none => none
  | some (a, s) => k a s
theorem bnd_some {S α β : Type} {f : Option (α × S)} {k : α → S → Option (β × S)} {r : β × S} (h : bnd f k = some r) : ∃ a s, f = some (a, s) ∧ k a s = some r := by
  unfold bnd at h
  split at h
  · cases h
  · exact ⟨_, _, rfl, h⟩
@[simp] theorem bnd_of {S α β : Type} {a : α} {s : S} {k : α → S → Option (β × S)} : bnd (some (a, s)) k = k a s := rfl
@[simp] theorem bnd_no {S α β : Type} {k : α → S → Option (β × S)} : bnd (none : Option (α × S)) k = none := rfl
/-- a value without a change of what is shared -/
def put {S α : Type} (o : Option α) (s : S) : Option (α × S) := match o with
  | none => none
  | some a => some (a, s)
@[simp] theorem put_of {S α : Type} {a : α} {s : S} : put (some a) s = some (a, s) := rfl
@[simp] theorem put_no {S α : Type} {s : S} : put (none : Option α) s = none := rfl
theorem put_some {S α : Type} {o : Option α} {s s' : S} {a : α} (h : put o s = some (a, s')) : o = some a ∧ s' = s := by
  unfold put at h
  split at h
  · cases h
  · cases h
    exact ⟨rfl, rfl⟩
section
variable {S : Type}
def cVar (i : Nat) : Ev S := fun ρ s => match ρ[i]? with
  | some (some d) => some (d, s)
  | _ => none
def cK (d : D) : Ev S := fun _ s => some (d, s)
def cB (p : D → D → Option D) (f g : Ev S) : Ev S := fun ρ s => bnd (f ρ s) fun x s => bnd (g ρ s) fun y s => put (p x y) s
def cU (p : D → Option D) (f : Ev S) : Ev S := fun ρ s => bnd (f ρ s) fun x s => put (p x) s
def aNil : Ea S := fun _ s => some ([], s)
def aCons (f : Ev S) (g : Ea S) : Ea S := fun ρ s => bnd (f ρ s) fun x s => bnd (g ρ s) fun xs s => some (x :: xs, s)
def cN (p : List D → Option D) (f : Ea S) : Ev S := fun ρ s => bnd (f ρ s) fun xs s => put (p xs) s
def pTup (ds : List D) : Option D := if ds.length ≤ sizeLine then some (.tuple ds) else none
def pLst (ds : List D) : Option D := if ds.length ≤ sizeLine then some (.list ds) else none
abbrev Fn (S : Type) := List D → S → Option (D × S)
def cCall (n : Nat) (F : Fn S) (f : Ea S) : Ev S := fun ρ s => bnd (f ρ s) fun xs s => if xs.length = n then F xs s else none
end
def truth : D → Option Bool
  | .none => some false
  | .bool b => some b
  | .int i => some (i != 0)
  | .str x => if x.length ≤ sizeLine then some ((x.length : Int) != 0) else none
  | .list ds => some (!ds.isEmpty)
  | .tuple ds => some (!ds.isEmpty)
  | .dict _ => none
section
variable {S : Type}
abbrev Et (S : Type) := Rho → S → Option (Bool × S)
def qT (f : Ev S) : Et S := fun ρ s => bnd (f ρ s) fun x s => put (truth x) s
def qNot (f : Et S) : Et S := fun ρ s => bnd (f ρ s) fun b s => some (!b, s)
def qAnd (f g : Et S) : Et S := fun ρ s => bnd (f ρ s) fun b s => if b = true then g ρ s else some (false, s)
def qOr (f g : Et S) : Et S := fun ρ s => bnd (f ρ s) fun b s => if b = true then some (true, s) else g ρ s
def cAnd (f g : Ev S) : Ev S := fun ρ s => bnd (f ρ s) fun x s => bnd (put (truth x) s) fun b s => if b = true then g ρ s else some (x, s)
def cOr (f g : Ev S) : Ev S := fun ρ s => bnd (f ρ s) fun x s => bnd (put (truth x) s) fun b s => if b = true then some (x, s) else g ρ s
def cNot (f : Ev S) : Ev S := fun ρ s => bnd (f ρ s) fun x s => bnd (put (truth x) s) fun b s => some (.bool (!b), s)
def cIf (c : Et S) (f g : Ev S) : Ev S := fun ρ s => bnd (c ρ s) fun b s => if b = true then f ρ s else g ρ s
def asB : D → Option Bool
  | .bool b => some b
  | _ => none
/-- a < b < c -/
def cCh (p q : D → D → Option D) (f g h : Ev S) : Ev S := fun ρ s => bnd (f ρ s) fun x s => bnd (g ρ s) fun y s => bnd (put (p x y) s) fun z s => bnd (put (asB z) s) fun b s =>
  if b = true then bnd (h ρ s) fun w s => put (q y w) s else some (.bool false, s)
end
/-! ### the rules -/
section
variable {S : Type} {X : Cx} {G : Kx} {Z : Zk S} {W : List Nat} {f g : Ev S} {fa : Ea S} {a b c e : Expr} {es : List Expr} {pos p : Pos} {x : Str}
theorem ex_var (i : Nat) (hw : W.contains i = false := by rfl) (hN : X.N[i]? = some x := by rfl) (hv : Vis X.env.scope x := by first | exact Or.inl rfl | exact Or.inr (Or.inl rfl) | exact Or.inr (Or.inr rfl)) (hd : (x == ("__debug__" : Str)) = false := by decide)
    (hcd : (x == ("__classdict__" : Str)) = false := by decide) : PE X (.Name x pos) (tEx G Z W (cVar i)) :=
  imp_pe (pe_var hN hv hd hcd) fun σ H Q ⟨B, O, ρ, s, d, s', eo, hR, hf, q⟩ => by
    unfold cVar at hf
    split at hf
    · rename_i e
      cases hf
      obtain ⟨v, h1, h2⟩ := eo.er.pl i d (by simpa using hw) e
      exact ⟨v, h1, q v H (Lc.Fr.refl H) h2 hR⟩
    · cases hf
theorem ex_of {v : V} {d : D} (h : PE X e (tC v)) (r : ∀ B H, Rep G B H d v) : PE X e (tEx G Z W (cK d)) :=
  imp_pe h fun σ H Q ⟨B, O, ρ, s, d', s', eo, hR, hf, q⟩ => by
    cases hf
    exact q v H (Lc.Fr.refl H) (r _ H) hR
theorem ex_int {i : Int} {j} : PE X (.Constant (.int i) j pos) (tEx G Z W (cK (.int i))) := ex_of pe_int fun B H => by simp only [Rep]
theorem ex_str {i : Str} {j} : PE X (.Constant (.str i) j pos) (tEx G Z W (cK (.str i))) := ex_of pe_str fun B H => by simp only [Rep]
theorem ex_bl {i : Bool} {j} : PE X (.Constant (.bool i) j pos) (tEx G Z W (cK (.bool i))) := ex_of pe_bl fun B H => by simp only [Rep]
theorem ex_non {j} : PE X (.Constant .none j pos) (tEx G Z W (cK .none)) := ex_of pe_non fun B H => by simp only [Rep]
/-- an operation on values, by one on data -/
def OpS (G : Kx) (r : R2) (p : D → D → Option D) : Prop := ∀ (B : Bar) (H : Hp) (x y : V) (dx dy d : D) (Q : VK), (∀ a, B a → H a ≠ none) → Rep G B H dx x → Rep G B H dy y → p dx dy = some d →
  (∀ v H', Same H H' → Rep G B H' d v → Q v H') → r x y H Q
theorem top_ex {r : R2} {p : D → D → Option D} (hs : OpS G r p) {σ : L2.St} {H : Hp} {Q : VK} (h : tEx G Z W (cB p f g) σ H Q) : tOp r (tEx G Z W f) (tEx G Z W g) σ H Q := by
  obtain ⟨B, O, ρ, s, d, s', eo, hR, hf, q⟩ := h
  unfold cB at hf
  obtain ⟨x, s1, h1, hf⟩ := bnd_some hf
  obtain ⟨y, s2, h2, hf⟩ := bnd_some hf
  obtain ⟨h3, rfl⟩ := put_some hf
  refine ⟨B, O, ρ, s, x, s1, eo, hR, h1, fun v H1 f1 r1 R1 => ⟨B, O, ρ, s1, y, _, eo.fr f1, R1, h2, fun u H2 f2 r2 R2 => ?_⟩⟩
  have e2 := (eo.fr f1).fr f2
  refine hs _ H2 v u x y d Q (fun a z => z.elim (e2.bd a) (e2.od a)) (r1.fr f2 fun a z => .inl (eo.mb a z)) r2 h3 fun w H3 sm r3 => ?_
  exact q w H3 ((f1.trans f2).trans (Lc.Fr.of sm)) r3 (Z.same R2 sm)
theorem ex_bin {op : Operator} {r : R2} {q : D → D → Option D} (ho : OpR X (binaryOp op) r) (hs : OpS G r q) (ha : PE X a (tEx G Z W f)) (hb : PE X b (tEx G Z W g)) : PE X (.BinOp a op b pos) (tEx G Z W (cB q f g)) :=
  imp_pe (pe_op ho ha hb) fun σ H Q h => top_ex hs h
theorem ex_cmp {op : CmpOp} {r : R2} {q : D → D → Option D} (ho : OpR X (compareOp op) r) (hs : OpS G r q) (ha : PE X a (tEx G Z W f)) (hb : PE X b (tEx G Z W g)) (hm : behindInMarks op b = false) : PE X (.Compare a [op] [b] pos) (tEx G Z W (cB q f g)) :=
  imp_pe (pe_cmpR ho ha hb hm) fun σ H Q h => top_ex hs h
theorem ex_ix {r : R2} {q : D → D → Option D} (ho : IxR X r) (hs : OpS G r q) (ha : PE X a (tEx G Z W f)) (hb : PE X b (tEx G Z W g)) (hp : PlainIx b) : PE X (.Subscript a b pos) (tEx G Z W (cB q f g)) :=
  imp_pe (pe_ix ho ha hb hp) fun σ H Q h => top_ex hs h
def UnS (G : Kx) (r : V → Hp → VK → Prop) (p : D → Option D) : Prop := ∀ (B : Bar) (H : Hp) (x : V) (dx d : D) (Q : VK), (∀ a, B a → H a ≠ none) → Rep G B H dx x → p dx = some d →
  (∀ v H', Same H H' → Rep G B H' d v → Q v H') → r x H Q
theorem tun_ex {r : V → Hp → VK → Prop} {p : D → Option D} (hs : UnS G r p) {σ : L2.St} {H : Hp} {Q : VK} (h : tEx G Z W (cU p f) σ H Q) : tUn r (tEx G Z W f) σ H Q := by
  obtain ⟨B, O, ρ, s, d, s', eo, hR, hf, q⟩ := h
  unfold cU at hf
  obtain ⟨x, s1, h1, hf⟩ := bnd_some hf
  obtain ⟨h3, rfl⟩ := put_some hf
  refine ⟨B, O, ρ, s, x, _, eo, hR, h1, fun v H1 f1 r1 R1 => ?_⟩
  have e2 := eo.fr f1
  refine hs _ H1 v x d Q (fun a z => z.elim (e2.bd a) (e2.od a)) r1 h3 fun w H3 sm r3 => ?_
  exact q w H3 (f1.trans (Lc.Fr.of sm)) r3 (Z.same R1 sm)
theorem ex_un {op : UnaryOp} {r : V → Hp → VK → Prop} {q : D → Option D} (ho : UnR X (unaryOp op) r) (hs : UnS G r q) (ha : PE X a (tEx G Z W f)) : PE X (.UnaryOp op a pos) (tEx G Z W (cU q f)) :=
  imp_pe (pe_un ho ha) fun σ H Q h => tun_ex hs h
/-! arguments -/
theorem ea_nil : PA X [] (tEa G Z W aNil) := imp_pa pa_nil fun σ H Q ⟨B, O, ρ, s, d, s', eo, hR, hf, q⟩ => by
  cases hf
  exact q [] H (Lc.Fr.refl H) Reps.nil hR
theorem ea_cons (ha : PE X e (tEx G Z W f)) (hr : PA X es (tEa G Z W fa)) (hs : starEach (e :: es) X.env = (false, eval e X.env) :: starEach es X.env := by rfl) : PA X (e :: es) (tEa G Z W (aCons f fa)) :=
  imp_pa (pa_cons ha hr hs) fun σ H Q ⟨B, O, ρ, s, d, s', eo, hR, hf, q⟩ => by
    unfold aCons at hf
    obtain ⟨x, s1, h1, hf⟩ := bnd_some hf
    obtain ⟨y, s2, h2, hf⟩ := bnd_some hf
    cases hf
    refine ⟨B, O, ρ, s, x, s1, eo, hR, h1, fun v H1 f1 r1 R1 => ⟨B, O, ρ, s1, y, _, eo.fr f1, R1, h2, fun u H2 f2 r2 R2 => ?_⟩⟩
    exact q _ H2 (f1.trans f2) (Reps.cons (r1.fr f2 fun a z => .inl (eo.mb a z)) r2) R2
/-- a call of something built in, by a function on data -/
def CaS (G : Kx) (r : List V → Hp → VK → Prop) (p : List D → Option D) : Prop := ∀ (B : Bar) (H : Hp) (xs : List V) (ds : List D) (d : D) (Q : VK), (∀ a, B a → H a ≠ none) → Reps G B H ds xs → p ds = some d →
  (∀ v H', Same H H' → Rep G B H' d v → Q v H') → r xs H Q
theorem tcb_ex {r : List V → Hp → VK → Prop} {p : List D → Option D} (hs : CaS G r p) {σ : L2.St} {H : Hp} {Q : VK} (h : tEx G Z W (cN p fa) σ H Q) : tCB r (tEa G Z W fa) σ H Q := by
  obtain ⟨B, O, ρ, s, d, s', eo, hR, hf, q⟩ := h
  unfold cN at hf
  obtain ⟨x, s1, h1, hf⟩ := bnd_some hf
  obtain ⟨h3, rfl⟩ := put_some hf
  refine ⟨B, O, ρ, s, x, _, eo, hR, h1, fun v H1 f1 r1 R1 => ?_⟩
  have e2 := eo.fr f1
  refine hs _ H1 v x d Q (fun a z => z.elim (e2.bd a) (e2.od a)) r1 h3 fun w H3 sm r3 => ?_
  exact q w H3 (f1.trans (Lc.Fr.of sm)) r3 (Z.same R1 sm)
theorem ex_callB {id : String} {r : List V → Hp → VK → Prop} {q : List D → Option D} (hc : CallR X (.builtin id) r) (hS : CaS G r q) (hg : Gl X x) (hm : X.mg x = none) (hv : bootBuiltins x = some (.builtin id)) (ha : PA X (e :: es) (tEa G Z W fa)) (hn : x ≠ "__name__" := by decide) (hdb : (x == ("__debug__" : Str)) = false := by decide)
    (he : starEach (e :: es) X.env = (false, eval e X.env) :: starEach es X.env := by rfl) (hpl : (backTo pos (starEach es X.env)).any (·.1) = false := by rfl) : PE X (.Call (.Name x p) (e :: es) [] pos) (tEx G Z W (cN q fa)) :=
  imp_pe (pe_callB hc hg hm hv ha hn hdb he hpl) fun σ H Q h => tcb_ex hS h
theorem ex_callTy {T : String} {r : List V → Hp → VK → Prop} {q : List D → Option D} (hc : CallR X (.type T) r) (hS : CaS G r q) (hg : Gl X x) (hm : X.mg x = none) (hv : bootBuiltins x = some (.type T)) (ha : PA X (e :: es) (tEa G Z W fa)) (hn : x ≠ "__name__" := by decide) (hdb : (x == ("__debug__" : Str)) = false := by decide)
    (he : starEach (e :: es) X.env = (false, eval e X.env) :: starEach es X.env := by rfl) (hpl : (backTo pos (starEach es X.env)).any (·.1) = false := by rfl) : PE X (.Call (.Name x p) (e :: es) [] pos) (tEx G Z W (cN q fa)) :=
  imp_pe (pe_callTy hc hg hm hv ha hn hdb he hpl) fun σ H Q h => tcb_ex hS h
theorem ttup_ex {σ : L2.St} {H : Hp} {Q : VK} (h : tEx G Z W (cN pTup fa) σ H Q) : tTup (tEa G Z W fa) σ H Q := by
  obtain ⟨B, O, ρ, s, d, s', eo, hR, hf, q⟩ := h
  unfold cN at hf
  obtain ⟨x, s1, h1, hf⟩ := bnd_some hf
  obtain ⟨h3, rfl⟩ := put_some hf
  unfold pTup at h3
  split at h3
  · cases h3
    refine ⟨B, O, ρ, s, x, _, eo, hR, h1, fun v H1 f1 r1 R1 => ⟨by rw [r1.len]; assumption, fun p hp => ?_⟩⟩
    have e2 := eo.fr f1
    refine q _ _ (f1.trans (Lc.Fr.new hp)) ?_ (Z.same R1 (Lc.same_new hp))
    simp only [Rep]
    exact ⟨p, v, rfl, .inl ⟨upd_same, e2.new hp⟩, r1.same (Lc.same_new hp)⟩
  · cases h3
theorem ex_tup {x1} (h : PA X es (tEa G Z W fa)) : PE X (.Tuple es x1 pos) (tEx G Z W (cN pTup fa)) := imp_pe (pe_tup h) fun σ H Q h => ttup_ex h
theorem tlst_ex {σ : L2.St} {H : Hp} {Q : VK} (h : tEx G Z W (cN pLst fa) σ H Q) : tLst (tEa G Z W fa) σ H Q := by
  obtain ⟨B, O, ρ, s, d, s', eo, hR, hf, q⟩ := h
  unfold cN at hf
  obtain ⟨x, s1, h1, hf⟩ := bnd_some hf
  obtain ⟨h3, rfl⟩ := put_some hf
  unfold pLst at h3
  split at h3
  · cases h3
    refine ⟨B, O, ρ, s, x, _, eo, hR, h1, fun v H1 f1 r1 R1 => ⟨by rw [r1.len]; assumption, fun p hp => ?_⟩⟩
    have e2 := eo.fr f1
    refine q _ _ (f1.trans (Lc.Fr.new hp)) ?_ (Z.same R1 (Lc.same_new hp))
    simp only [Rep]
    exact ⟨p, v, rfl, upd_same, e2.new hp, r1.same (Lc.same_new hp)⟩
  · cases h3
theorem ex_lst (h : PA X es (tEa G Z W fa)) : PE X (.List es pos) (tEx G Z W (cN pLst fa)) := imp_pe (pe_lst h) fun σ H Q h => tlst_ex h
/-! a def by a function on data -/
def spD (G : Kx) (Z : Zk S) (n : Nat) (F : Fn S) : Sp := fun vs H Q _ => ∃ (B : Bar) (ds : List D) (s : S) (d : D) (s' : S), ds.length = n ∧ (∀ a, B a → H a ≠ none) ∧ (∀ a, Z.M a → B a) ∧ Reps G B H ds vs ∧ Z.R H s ∧ F ds s = some (d, s') ∧
  ∀ v H', Lc.Fr Z.M H H' → Rep G B H' d v → Z.R H' s' → Q v H'
theorem tcall_ex {n : Nat} {F : Fn S} {σ : L2.St} {H : Hp} {Q : VK} (h : tEx G Z W (cCall n F fa) σ H Q) : tCall (spD G Z n F) [] E0 (tEa G Z W fa) σ H Q := by
  obtain ⟨B, O, ρ, s, d, s', eo, hR, hf, q⟩ := h
  unfold cCall at hf
  obtain ⟨x, s1, h1, hf⟩ := bnd_some hf
  split at hf
  · refine ⟨B, O, ρ, s, x, s1, eo, hR, h1, fun v H1 f1 r1 R1 => ?_⟩
    have e2 := eo.fr f1
    show spD G Z n F (v ++ []) H1 Q E0
    rw [List.append_nil]
    exact ⟨_, x, s1, d, s', by assumption, fun a z => z.elim (e2.bd a) (e2.od a), fun a z => .inl (eo.mb a z), r1, R1, hf, fun w H2 f2 r2 R2 => q w H2 (f1.trans f2) r2 R2⟩
  · cases hf
theorem ex_call {ps : List Str} {k n : Nat} {F : Fn S} (C : Lc.Dn X.prog X.w X.K X.mg X.base x ps k (spD G Z n F)) (hr : Room k X.A) (hg : Gl X x) (ha : PA X (e :: es) (tEa G Z W fa)) (hdb : (x == ("__debug__" : Str)) = false := by decide)
    (he : starEach (e :: es) X.env = (false, eval e X.env) :: starEach es X.env := by rfl) (hpl : (backTo pos (starEach es X.env)).any (·.1) = false := by rfl) : PE X (.Call (.Name x p) (e :: es) [] pos) (tEx G Z W (cCall n F fa)) :=
  imp_pe (Lc.pe_dn C hr hg ha hdb he hpl) fun σ H Q h => tcall_ex h
theorem ex_call0 {ps : List Str} {k : Nat} {F : Fn S} (C : Lc.Dn X.prog X.w X.K X.mg X.base x ps k (spD G Z 0 F)) (hr : Room k X.A) (hg : Gl X x) (hdb : (x == ("__debug__" : Str)) = false := by decide) : PE X (.Call (.Name x p) [] [] pos) (tEx G Z W (cCall 0 F aNil)) :=
  imp_pe (Lc.pe_dn0 C hr hg hdb) fun σ H Q h => by
    have h2 := tcall_ex h
    obtain ⟨B, O, ρ, s, d, s', eo, hR, hf, q⟩ := h2
    cases hf
    exact q [] H (Lc.Fr.refl H) Reps.nil hR
/-! tests -/
theorem tru_of {B : Bar} {H : Hp} : ∀ {d : D} {v : V} {k : Bool}, Rep G B H d v → truth d = some k → TruV G.K v H k
  | .none, v, k, h, e => by simp only [Rep] at h; subst h; cases e; rfl
  | .bool b, v, k, h, e => by simp only [Rep] at h; subst h; cases e; rfl
  | .int i, v, k, h, e => by simp only [Rep] at h; subst h; cases e; rfl
  | .str x, v, k, h, e => by
    simp only [Rep] at h
    subst h
    have e : (if x.length ≤ sizeLine then some ((x.length : Int) != 0) else none) = some k := e
    split at e
    · cases e
      exact ⟨by assumption, rfl⟩
    · cases e
  | .list ds, v, k, h, e => by
    obtain ⟨a, vs, rfl, _, h1, h2⟩ := h.sqL
    cases e
    refine .inl ⟨vs, h1, ?_⟩
    have := h2.len
    cases ds <;> cases vs <;> simp_all
  | .tuple ds, v, k, h, e => by
    obtain ⟨a, vs, rfl, h1, h2⟩ := h.sqT
    cases e
    refine .inr (.inl ⟨vs, h1, ?_⟩)
    have := h2.len
    cases ds <;> cases vs <;> simp_all
  | .dict _, v, k, h, e => by cases e
theorem et_val (ha : PE X a (tEx G Z W f)) (he : ∀ whole, isTrue a X.env whole = (do let v ← whole; standAt a.pos; holding [v] (truthy v)) := by intro _; rfl) (hK : X.K = G.K := by rfl) : PT X a (tEt G Z W (qT f)) :=
  imp_pt (pt_truth ha he) fun σ H Q ⟨B, O, ρ, s, d, s', eo, hR, hf, q⟩ => by
    unfold qT at hf
    obtain ⟨x, s1, h1, hf⟩ := bnd_some hf
    obtain ⟨h3, rfl⟩ := put_some hf
    refine ⟨B, O, ρ, s, x, _, eo, hR, h1, fun v H1 f1 r1 R1 => ⟨d, ?_, q H1 f1 R1⟩⟩
    rw [hK]
    exact tru_of r1 h3
theorem et_cmp {op : CmpOp} {r : R2} {q : D → D → Option D} (ho : OpR X (compareOp op) r) (hs : OpS G r q) (ha : PE X a (tEx G Z W f)) (hb : PE X b (tEx G Z W g)) (hm : behindInMarks op b = false) (hq : ∀ x y z, q x y = some z → ∃ k, z = .bool k := by intro x y z h; first | exact qb h | simp_all) :
    PT X (.Compare a [op] [b] pos) (tEt G Z W (qT (cB q f g))) :=
  imp_pt (pt_cmpR ho ha hb hm) fun σ H Q ⟨B, O, ρ, s, d, s', eo, hR, hf, h⟩ => by
    unfold qT at hf
    obtain ⟨x, s1, h1, hf⟩ := bnd_some hf
    obtain ⟨h3, rfl⟩ := put_some hf
    have hx : ∃ k, x = .bool k := by
      unfold cB at h1
      obtain ⟨x', s1, h1, hf⟩ := bnd_some h1
      obtain ⟨y', s2, h2, hf⟩ := bnd_some hf
      obtain ⟨h3, h4⟩ := put_some hf
      exact hq _ _ _ h3
    obtain ⟨k, rfl⟩ := hx
    cases h3
    refine top_ex hs ⟨B, O, ρ, s, .bool d, _, eo, hR, h1, fun v H1 f1 r1 R1 => ?_⟩
    simp only [Rep] at r1
    exact ⟨d, r1, h H1 f1 R1⟩
theorem et_not {t : Et S} (ha : PT X a (tEt G Z W t)) : PT X (.UnaryOp .Not a pos) (tEt G Z W (qNot t)) :=
  imp_pt (pt_not ha) fun σ H Q ⟨B, O, ρ, s, d, s', eo, hR, hf, h⟩ => by
    unfold qNot at hf
    obtain ⟨x, s1, h1, hf⟩ := bnd_some hf
    cases hf
    exact ⟨B, O, ρ, s, x, _, eo, hR, h1, fun H1 f1 R1 => h H1 f1 R1⟩
theorem ew_and {t u : Et S} {rest : List Expr} (ha : PT X a (tEt G Z W t)) (hb : PW X (.BoolOp .And (b :: rest) pos) (tEt G Z W u)) : PW X (.BoolOp .And (a :: b :: rest) pos) (tEt G Z W (qAnd t u)) :=
  imp_pw (pw_and ha hb) fun σ H Q ⟨B, O, ρ, s, d, s', eo, hR, hf, h⟩ => by
    unfold qAnd at hf
    obtain ⟨x, s1, h1, hf⟩ := bnd_some hf
    refine ⟨B, O, ρ, s, x, s1, eo, hR, h1, fun H1 f1 R1 => ?_⟩
    cases x with
    | true => exact ⟨B, O, ρ, s1, d, s', eo.fr f1, R1, hf, fun H2 f2 R2 => h H2 (f1.trans f2) R2⟩
    | false =>
      cases hf
      exact h H1 f1 R1
theorem ew_or {t u : Et S} {rest : List Expr} (ha : PT X a (tEt G Z W t)) (hb : PW X (.BoolOp .Or (b :: rest) pos) (tEt G Z W u)) : PW X (.BoolOp .Or (a :: b :: rest) pos) (tEt G Z W (qOr t u)) :=
  imp_pw (pw_or ha hb) fun σ H Q ⟨B, O, ρ, s, d, s', eo, hR, hf, h⟩ => by
    unfold qOr at hf
    obtain ⟨x, s1, h1, hf⟩ := bnd_some hf
    refine ⟨B, O, ρ, s, x, s1, eo, hR, h1, fun H1 f1 R1 => ?_⟩
    cases x with
    | false => exact ⟨B, O, ρ, s1, d, s', eo.fr f1, R1, hf, fun H2 f2 R2 => h H2 (f1.trans f2) R2⟩
    | true =>
      cases hf
      exact h H1 f1 R1
/-! and, or, not, if as values -/
theorem ex_one {op} (h : PE X a (tEx G Z W f)) : PE X (.BoolOp op [a] pos) (tEx G Z W f) := pe_one h
theorem ex_and {rest : List Expr} (ha : PE X a (tEx G Z W f)) (hb : PE X (.BoolOp .And (b :: rest) pos) (tEx G Z W g)) (hK : X.K = G.K := by rfl) : PE X (.BoolOp .And (a :: b :: rest) pos) (tEx G Z W (cAnd f g)) :=
  imp_pe (pe_andT ha hb) fun σ H Q ⟨B, O, ρ, s, d, s', eo, hR, hf, h⟩ => by
    unfold cAnd at hf
    obtain ⟨x, s1, h1, hf⟩ := bnd_some hf
    obtain ⟨k, s2, h2, hf⟩ := bnd_some hf
    obtain ⟨h3, rfl⟩ := put_some h2
    refine ⟨B, O, ρ, s, x, _, eo, hR, h1, fun v H1 f1 r1 R1 => ⟨k, by rw [hK]; exact tru_of r1 h3, ?_⟩⟩
    cases k with
    | true => exact ⟨B, O, ρ, _, d, s', eo.fr f1, R1, hf, fun w H2 f2 r2 R2 => h w H2 (f1.trans f2) r2 R2⟩
    | false =>
      cases hf
      exact h v H1 f1 r1 R1
theorem ex_or {rest : List Expr} (ha : PE X a (tEx G Z W f)) (hb : PE X (.BoolOp .Or (b :: rest) pos) (tEx G Z W g)) (hK : X.K = G.K := by rfl) : PE X (.BoolOp .Or (a :: b :: rest) pos) (tEx G Z W (cOr f g)) :=
  imp_pe (pe_orT ha hb) fun σ H Q ⟨B, O, ρ, s, d, s', eo, hR, hf, h⟩ => by
    unfold cOr at hf
    obtain ⟨x, s1, h1, hf⟩ := bnd_some hf
    obtain ⟨k, s2, h2, hf⟩ := bnd_some hf
    obtain ⟨h3, rfl⟩ := put_some h2
    refine ⟨B, O, ρ, s, x, _, eo, hR, h1, fun v H1 f1 r1 R1 => ⟨k, by rw [hK]; exact tru_of r1 h3, ?_⟩⟩
    cases k with
    | false => exact ⟨B, O, ρ, _, d, s', eo.fr f1, R1, hf, fun w H2 f2 r2 R2 => h w H2 (f1.trans f2) r2 R2⟩
    | true =>
      cases hf
      exact h v H1 f1 r1 R1
theorem ex_not (ha : PE X a (tEx G Z W f)) (hK : X.K = G.K := by rfl) : PE X (.UnaryOp .Not a pos) (tEx G Z W (cNot f)) :=
  imp_pe (pe_notT ha) fun σ H Q ⟨B, O, ρ, s, d, s', eo, hR, hf, h⟩ => by
    unfold cNot at hf
    obtain ⟨x, s1, h1, hf⟩ := bnd_some hf
    obtain ⟨k, s2, h2, hg⟩ := bnd_some hf
    obtain ⟨h3, rfl⟩ := put_some h2
    cases hg
    exact ⟨B, O, ρ, s, x, _, eo, hR, h1, fun v H1 f1 r1 R1 => ⟨k, by rw [hK]; exact tru_of r1 h3, h _ H1 f1 (by simp only [Rep]) R1⟩⟩
theorem ex_if {t : Et S} (hc : PT X c (tEt G Z W t)) (ha : PE X a (tEx G Z W f)) (hb : PE X b (tEx G Z W g)) : PE X (.IfExp c a b pos) (tEx G Z W (cIf t f g)) :=
  imp_pe (pe_ifExp hc ha hb) fun σ H Q ⟨B, O, ρ, s, d, s', eo, hR, hf, h⟩ => by
    unfold cIf at hf
    obtain ⟨x, s1, h1, hf⟩ := bnd_some hf
    refine ⟨B, O, ρ, s, x, s1, eo, hR, h1, fun H1 f1 R1 => ?_⟩
    cases x with
    | true => exact ⟨B, O, ρ, s1, d, s', eo.fr f1, R1, hf, fun w H2 f2 r2 R2 => h w H2 (f1.trans f2) r2 R2⟩
    | false => exact ⟨B, O, ρ, s1, d, s', eo.fr f1, R1, hf, fun w H2 f2 r2 R2 => h w H2 (f1.trans f2) r2 R2⟩
theorem tch_ex {h : Ev S} {r r' : R2} {q q' : D → D → Option D} (hs : OpS G r q) (hs' : OpS G r' q') {σ : L2.St} {H : Hp} {Q : VK} (hh : tEx G Z W (cCh q q' f g h) σ H Q) : tChain r r' (tEx G Z W f) (tEx G Z W g) (tEx G Z W h) σ H Q := by
  obtain ⟨B, O, ρ, s, d, s', eo, hR, hf, k⟩ := hh
  unfold cCh at hf
  obtain ⟨x, s1, h1, hf⟩ := bnd_some hf
  obtain ⟨y, s2, h2, hf⟩ := bnd_some hf
  obtain ⟨z, s3, h3, hf⟩ := bnd_some hf
  obtain ⟨b, s4, h4, hf⟩ := bnd_some hf
  obtain ⟨h5, rfl⟩ := put_some h3
  obtain ⟨h7, rfl⟩ := put_some h4
  refine ⟨B, O, ρ, s, x, s1, eo, hR, h1, fun v H1 f1 r1 R1 => ⟨B, O, ρ, s1, y, _, eo.fr f1, R1, h2, fun u H2 f2 r2 R2 => ?_⟩⟩
  have e2 := (eo.fr f1).fr f2
  refine hs _ H2 v u x y z _ (fun a z => z.elim (e2.bd a) (e2.od a)) (r1.fr f2 fun a z => .inl (eo.mb a z)) r2 h5 fun w H3 sm r3 => ?_
  have hz : z = .bool b := by
    unfold asB at h7
    split at h7
    · cases h7; rfl
    · cases h7
  subst hz
  simp only [Rep] at r3
  refine ⟨b, r3, ?_⟩
  cases b with
  | false =>
    cases hf
    exact k _ H3 ((f1.trans f2).trans (Lc.Fr.of sm)) (by simp only [Rep]) (Z.same R2 sm)
  | true =>
    obtain ⟨w2, s5, h9, hf⟩ := bnd_some (show bnd (h ρ _) (fun w s => put (q' y w) s) = some (d, s') from hf)
    obtain ⟨h10, rfl⟩ := put_some hf
    have e3 := e2.fr (Lc.Fr.of sm)
    refine ⟨B, O, ρ, _, w2, _, e3, Z.same R2 sm, h9, fun u4 H4 f4 r4 R4 => ?_⟩
    have e4 := e3.fr f4
    refine hs' _ H4 u u4 y w2 d Q (fun a z => z.elim (e4.bd a) (e4.od a)) ((r2.same sm).fr f4 fun a z => .inl (eo.mb a z)) r4 h10 fun w5 H5 sm5 r5 => ?_
    exact k w5 H5 ((((f1.trans f2).trans (Lc.Fr.of sm)).trans f4).trans (Lc.Fr.of sm5)) r5 (Z.same R4 sm5)
theorem ex_chain {h : Ev S} {op op' : CmpOp} {r r' : R2} {q q' : D → D → Option D} (ho : OpR X (compareOp op) r) (hs : OpS G r q) (ho' : OpR X (compareOp op') r') (hs' : OpS G r' q') (ha : PE X a (tEx G Z W f)) (hb : PE X b (tEx G Z W g)) (hc : PE X c (tEx G Z W h))
    (hm : lastMarks [op, op'] [b, c] = false := by with_unfolding_all rfl) : PE X (.Compare a [op, op'] [b, c] pos) (tEx G Z W (cCh q q' f g h)) :=
  imp_pe (pe_chain ho ho' ha hb hc hm) fun σ H Q hh => tch_ex hs hs' hh
end
end Dl
set_option Elab.async false
set_option linter.all false
set_option maxRecDepth 100000
set_option maxHeartbeats 4000000
namespace Dl
open PySem PySem.Spec PyProof.Rows L2
/-! ### flat data: no list within -/
mutual
def flatD : D → Bool
  | .none => true
  | .bool _ => true
  | .int _ => true
  | .str _ => true
  | .list _ => false
  | .tuple ds => flatDs ds
  | .dict _ => true
def flatDs : List D → Bool
  | [] => true
  | d :: ds => flatD d && flatDs ds
end
section
variable {G : Kx} {B O : Bar} {H : Hp}
mutual
theorem Rep.flat (ol : ∀ a, O a → ∃ vs, H a = some (.lst vs)) : ∀ (d : D) (v : V), flatD d = true → Rep G B H d v → Rep G (fun a => B a ∨ O a) H d v
  | .none, _, _, h => by simpa only [Rep] using h
  | .bool _, _, _, h => by simpa only [Rep] using h
  | .int _, _, _, h => by simpa only [Rep] using h
  | .str _, _, _, h => by simpa only [Rep] using h
  | .list _, _, c, _ => by simp [flatD] at c
  | .tuple ds, v, c, h => by
    simp only [Rep] at h ⊢
    obtain ⟨a, vs, e, h1, h3⟩ := h
    refine ⟨a, vs, e, ?_, Reps.flat ol ds vs (by simpa only [flatD] using c) h3⟩
    rcases h1 with ⟨h1, h2⟩ | h1
    · refine .inl ⟨h1, fun z => z.elim h2 fun z => ?_⟩
      obtain ⟨us, z⟩ := ol a z
      rw [h1] at z
      cases z
    · exact .inr h1
  | .dict _, _, _, h => by simpa only [Rep] using h
theorem Reps.flat (ol : ∀ a, O a → ∃ vs, H a = some (.lst vs)) : ∀ (ds : List D) (vs : List V), flatDs ds = true → Reps G B H ds vs → Reps G (fun a => B a ∨ O a) H ds vs
  | [], _, _, h => by simpa only [Reps] using h
  | d :: ds, vs, c, h => by
    simp only [Reps] at h ⊢
    obtain ⟨v, r, e, h1, h2⟩ := h
    have c' : flatD d = true ∧ flatDs ds = true := by simpa [flatDs] using c
    exact ⟨v, r, e, Rep.flat ol d v c'.1 h1, Reps.flat ol ds r c'.2 h2⟩
end
end
section
variable {S : Type} {G : Kx} {Z : Zk S} {W : List Nat} {B O : Bar} {H : Hp} {σ : L2.St} {ρ : Rho}
theorem Eo.weak (e : Eo G Z W B O H σ ρ) : Eo G Z [] B (fun _ => False) H σ ρ where
  er := by
    refine ⟨e.er.len, fun i d _ hd => ?_, fun _ => 0, (fun _ _ _ _ z => by cases z), (fun _ _ z => by cases z)⟩
    by_cases hi : i ∈ W
    · obtain ⟨om, _, h2⟩ := e.er.ow
      obtain ⟨ds, vs, rfl, a2, a3, a4, a5⟩ := h2 i d hi hd
      refine ⟨_, a2, ?_⟩
      simp only [Rep]
      exact ⟨_, vs, rfl, a4, fun z => z.elim (e.ob _ a3) id, a5.sub fun a z _ => .inl (z.elim id False.elim)⟩
    · obtain ⟨v, h1, h2⟩ := e.er.pl i d hi hd
      exact ⟨v, h1, h2.sub fun a z _ => .inl (z.elim id False.elim)⟩
  bd := e.bd
  ol := fun _ z => z.elim
  mb := e.mb
  ob := fun _ z => z.elim
end
def cFl {S : Type} (f : Ev S) : Ev S := fun ρ s => bnd (f ρ s) fun d s => if flatD d = true then some (d, s) else none
theorem ex_weak {S : Type} {X : Cx} {G : Kx} {Z : Zk S} {W : List Nat} {f : Ev S} {e : Expr} (h : PE X e (tEx G Z [] f)) : PE X e (tEx G Z W (cFl f)) :=
  imp_pe h fun σ H Q ⟨B, O, ρ, s, d, s', eo, hR, hf, q⟩ => by
    unfold cFl at hf
    obtain ⟨x, s1, h1, hf⟩ := bnd_some hf
    split at hf
    · rename_i hfl
      cases hf
      refine ⟨B, fun _ => False, ρ, s, d, _, eo.weak, hR, h1, fun v H' f1 r1 R1 => q v H' f1 ?_ R1⟩
      have e2 := eo.fr f1
      exact Rep.flat e2.ol d v hfl (r1.sub fun a z _ => .inl z)
    · cases hf
/-! ### statements -/
inductive Rs where
  | nx (ρ : Rho) | rt (d : D) | bk (ρ : Rho) | ct (ρ : Rho)
abbrev Sv (S : Type) := Rho → S → Option (Rs × S)
structure Sr {S : Type} (G : Kx) (Z : Zk S) (W : List Nat) (B : Bar) (H0 : Hp) (O : Bar) (H : Hp) (σ : L2.St) (ρ : Rho) (s : S) : Prop where
  eo : Eo G Z W B O H σ ρ
  fr : Lc.Fr Z.M H0 H
  b0 : ∀ a, B a → H0 a ≠ none
  o0 : ∀ a, O a → H0 a = none
  r : Z.R H s
/-- what a statement may have changed: what is shared, the own lists -/
structure Ch {S : Type} (Z : Zk S) (O O' : Bar) (H H' : Hp) : Prop where
  fr : Lc.Fr (fun a => Z.M a ∨ O a) H H'
  up : ∀ a, O a → O' a
  nw : ∀ a, O' a → O a ∨ H a = none
section
variable {S : Type} {G : Kx} {Z : Zk S} {W : List Nat} {B O O1 O2 : Bar} {H H1 H2 H0 : Hp} {σ σ1 : L2.St} {ρ ρ1 : Rho} {s s1 : S}
theorem Ch.refl : Ch Z O O H H := ⟨Lc.Fr.refl H, fun _ h => h, fun _ h => .inl h⟩
theorem Ch.of (f : Lc.Fr Z.M H H1) : Ch Z O O H H1 := ⟨fun b o e => by
  obtain ⟨o', h1, h2⟩ := f b o e
  exact ⟨o', h1, fun n => h2 fun z => n (.inl z)⟩, fun _ h => h, fun _ h => .inl h⟩
theorem Ch.trans (a : Ch Z O O1 H H1) (b : Ch Z O1 O2 H1 H2) : Ch Z O O2 H H2 where
  fr := fun c o e => by
    obtain ⟨o1, e1, k1⟩ := a.fr c o e
    obtain ⟨o2, e2, k2⟩ := b.fr c o1 e1
    refine ⟨o2, e2, fun n => (k2 fun z => ?_).trans (k1 n)⟩
    rcases z with z | z
    · exact n (.inl z)
    · rcases a.nw c z with z | z
      · exact n (.inr z)
      · rw [e] at z; cases z
  up := fun c h => b.up c (a.up c h)
  nw := fun c h => by
    rcases b.nw c h with h | h
    · exact a.nw c h
    · right
      cases q : H c with
      | none => rfl
      | some o =>
        obtain ⟨o1, e1, _⟩ := a.fr c o q
        rw [h] at e1
        cases e1
theorem Sr.mb (r : Sr G Z W B H0 O H σ ρ s) : ∀ a, Z.M a → B a := r.eo.mb
theorem Sr.step (r : Sr G Z W B H0 O H σ ρ s) (f : Lc.Fr Z.M H H1) (hs : Z.R H1 s1) : Sr G Z W B H0 O H1 σ ρ s1 := ⟨r.eo.fr f, r.fr.trans f, r.b0, r.o0, hs⟩
/-- a slot that is no own list is set -/
theorem Er.set (e : Er G W B O H σ ρ) {i : Nat} {d : D} {v : V} (hi : i ∉ W) (h : Rep G (fun a => B a ∨ O a) H d v) : Er G W B O H (σ.set i (some v)) (ρ.set i (some d)) where
  len := by simp [e.len]
  pl := fun j x hj hx => by
    by_cases hij : i = j
    · subst hij
      rw [List.getElem?_set] at hx
      simp only [if_true] at hx
      split at hx
      · cases hx
        refine ⟨v, ?_, h⟩
        rw [List.getElem?_set]
        simp only [if_true]
        rw [if_pos (by rw [e.len]; assumption)]
      · cases hx
    · rw [List.getElem?_set_ne hij] at hx
      obtain ⟨u, h1, h2⟩ := e.pl j x hj hx
      exact ⟨u, by rw [List.getElem?_set_ne hij]; exact h1, h2⟩
  ow := by
    obtain ⟨om, h1, h2⟩ := e.ow
    have ne : ∀ j, j ∈ W → i ≠ j := fun j hj z => hi (z ▸ hj)
    refine ⟨om, fun j k x y hj hk hx hy => ?_, fun j x hj hx => ?_⟩
    · rw [List.getElem?_set_ne (ne j hj)] at hx
      rw [List.getElem?_set_ne (ne k hk)] at hy
      exact h1 j k x y hj hk hx hy
    · rw [List.getElem?_set_ne (ne j hj)] at hx
      obtain ⟨ds, vs, a1, a2, a3, a4, a5⟩ := h2 j x hj hx
      exact ⟨ds, vs, a1, by rw [List.getElem?_set_ne (ne j hj)]; exact a2, a3, a4, a5⟩
theorem Eo.set (e : Eo G Z W B O H σ ρ) {i : Nat} {d : D} {v : V} (hi : i ∉ W) (h : Rep G (fun a => B a ∨ O a) H d v) : Eo G Z W B O H (σ.set i (some v)) (ρ.set i (some d)) := ⟨e.er.set hi h, e.bd, e.ol, e.mb, e.ob⟩
end
def tSt {S : Type} (G : Kx) (Z : Zk S) (W : List Nat) (F : Sv S) : TS := fun E σ H =>
  ∃ (B : Bar) (H0 : Hp) (O : Bar) (ρ : Rho) (s : S) (r : Rs) (s' : S), Sr G Z W B H0 O H σ ρ s ∧ F ρ s = some (r, s') ∧
    match r with
    | .nx ρ' => ∀ O' σ' H', Sr G Z W B H0 O' H' σ' ρ' s' → Ch Z O O' H H' → E.nx σ' H'
    | .rt d => ∀ v H', Lc.Fr Z.M H0 H' → Rep G B H' d v → Z.R H' s' → E.rt v H'
    | .bk ρ' => ∀ O' σ' H', Sr G Z W B H0 O' H' σ' ρ' s' → Ch Z O O' H H' → E.bk σ' H'
    | .ct ρ' => ∀ O' σ' H', Sr G Z W B H0 O' H' σ' ρ' s' → Ch Z O O' H H' → E.ct σ' H'
section
variable {S : Type}
def sNx : Sv S := fun ρ s => some (.nx ρ, s)
def sBk : Sv S := fun ρ s => some (.bk ρ, s)
def sCt : Sv S := fun ρ s => some (.ct ρ, s)
def sSeq (F F' : Sv S) : Sv S := fun ρ s => match F ρ s with
  | some (.nx ρ', s') => F' ρ' s'
  | r => r
def sSet (i : Nat) (f : Ev S) : Sv S := fun ρ s => bnd (f ρ s) fun d s => some (.nx (ρ.set i (some d)), s)
def sRet (f : Ev S) : Sv S := fun ρ s => bnd (f ρ s) fun d s => some (.rt d, s)
def sIf (c : Et S) (F F' : Sv S) : Sv S := fun ρ s => bnd (c ρ s) fun b s => if b = true then F ρ s else F' ρ s
def sExpr (f : Ev S) : Sv S := fun ρ s => bnd (f ρ s) fun d s => some (.nx ρ, s)
/-- a target: how it sets slots -/
abbrev Tg := D → Rho → Option Rho
def gNm (i : Nat) : Tg := fun d ρ => some (ρ.set i (some d))
abbrev Tgs := List D → Rho → Option Rho
def gN0 : Tgs := fun ds ρ => match ds with
  | [] => some ρ
  | _ => none
def gC (t : Tg) (u : Tgs) : Tgs := fun ds ρ => match ds with
  | d :: ds => (t d ρ).bind fun ρ => u ds ρ
  | _ => none
def gTp (u : Tgs) : Tg := fun d ρ => match d with
  | .tuple ds => u ds ρ
  | _ => none
def sAsg (f : Ev S) (t : Tg) : Sv S := fun ρ s => bnd (f ρ s) fun d s => match t d ρ with
  | none => none
  | some ρ' => some (.nx ρ', s)
def loopF (t : Tg) (body : Sv S) : List D → Rho → S → Option (Rs × S)
  | [], ρ, s => some (.nx ρ, s)
  | d :: ds, ρ, s => match t d ρ with
    | none => none
    | some ρ1 => match body ρ1 s with
      | some (.nx ρ', s') => loopF t body ds ρ' s'
      | some (.ct ρ', s') => loopF t body ds ρ' s'
      | some (.bk ρ', s') => some (.nx ρ', s')
      | r => r
def sFor (fi : Ea S) (t : Tg) (body : Sv S) : Sv S := fun ρ s => bnd (fi ρ s) fun ds s => loopF t body ds ρ s
def whileF (c : Et S) (body : Sv S) : Nat → Rho → S → Option (Rs × S)
  | 0, _, _ => none
  | n + 1, ρ, s => bnd (c ρ s) fun b s => if b = true then
      match body ρ s with
      | some (.nx ρ', s') => whileF c body n ρ' s'
      | some (.ct ρ', s') => whileF c body n ρ' s'
      | some (.bk ρ', s') => some (.nx ρ', s')
      | r => r
    else some (.nx ρ, s)
/-- a while that ends: n, the turns that it may take at most, told by the slots -/
def sWh (n : Rho → Nat) (c : Et S) (body : Sv S) : Sv S := fun ρ s => whileF c body (n ρ) ρ s
end
section
variable {S : Type} {X : Cx} {G : Kx} {Z : Zk S} {W : List Nat} {f g : Ev S} {F F' : Sv S} {a b c e : Expr} {es : List Expr} {st : Stmt} {rest : List Stmt} {pos p : Pos} {x : Str}
theorem es_nil : PSs X [] (tSt G Z W sNx) := imp_pss pss_nil fun E σ H ⟨B, H0, O, ρ, s, r, s', sr, hf, q⟩ => by
  cases hf
  exact q O σ H sr Ch.refl
theorem es_pass : PS X (.Pass pos) (tSt G Z W sNx) := imp_ps ps_pass fun E σ H ⟨B, H0, O, ρ, s, r, s', sr, hf, q⟩ => by
  cases hf
  exact q O σ H sr Ch.refl
theorem es_break : PS X (.Break pos) (tSt G Z W sBk) := imp_ps ps_break fun E σ H ⟨B, H0, O, ρ, s, r, s', sr, hf, q⟩ => by
  cases hf
  exact q O σ H sr Ch.refl
theorem es_continue : PS X (.Continue pos) (tSt G Z W sCt) := imp_ps ps_continue fun E σ H ⟨B, H0, O, ρ, s, r, s', sr, hf, q⟩ => by
  cases hf
  exact q O σ H sr Ch.refl
theorem es_one (h : PS X st (tSt G Z W F)) : PSs X [st] (tSt G Z W F) := pss_one h
theorem es_cons (h : PS X st (tSt G Z W F)) (h2 : PSs X rest (tSt G Z W F')) : PSs X (st :: rest) (tSt G Z W (sSeq F F')) :=
  imp_pss (pss_cons h h2) fun E σ H ⟨B, H0, O, ρ, s, r, s', sr, hf, q⟩ => by
    unfold sSeq at hf
    split at hf
    · rename_i ρ1 s1 e1
      refine ⟨B, H0, O, ρ, s, .nx ρ1, s1, sr, e1, fun O1 σ1 H1 sr1 ch => ⟨B, H0, O1, ρ1, s1, r, s', sr1, hf, ?_⟩⟩
      cases r with
      | rt d => exact q
      | nx ρ2 => exact fun O2 σ2 H2 sr2 ch2 => q O2 σ2 H2 sr2 (ch.trans ch2)
      | bk ρ2 => exact fun O2 σ2 H2 sr2 ch2 => q O2 σ2 H2 sr2 (ch.trans ch2)
      | ct ρ2 => exact fun O2 σ2 H2 sr2 ch2 => q O2 σ2 H2 sr2 (ch.trans ch2)
    · rename_i hn
      refine ⟨B, H0, O, ρ, s, r, s', sr, hf, ?_⟩
      cases r with
      | rt d => exact q
      | nx ρ2 => exact absurd hf (hn ρ2 s')
      | bk ρ2 => exact q
      | ct ρ2 => exact q
theorem es_set {i : Nat} {pos' : Pos} (hN : X.N.Nodup) (hi : X.N[i]? = some x) (hx : Loc X.env.scope x) (he : PE X e (tEx G Z W f)) (hw : W.contains i = false := by rfl) (hs : swapsWith e (some (.Name x pos')) pos.line X.env = pure false := by rfl) (hf : X.fn x = true ∨ X.env.scope.names.lookup x = some .local := by first | exact .inl rfl | exact .inr rfl | assumption) :
    PS X (.Assign [.Name x pos'] e pos) (tSt G Z W (sSet i f)) :=
  imp_ps (ps_set hN hi hx he hs hf) fun E σ H ⟨B, H0, O, ρ, s, r, s', sr, hf, q⟩ => by
    unfold sSet at hf
    obtain ⟨d, s1, h1, hf⟩ := bnd_some hf
    cases hf
    refine ⟨B, O, ρ, s, d, _, sr.eo, sr.r, h1, fun v H1 f1 r1 R1 => ?_⟩
    have sr1 := sr.step f1 R1
    exact q O _ H1 ⟨sr1.eo.set (by simpa using hw) r1, sr1.fr, sr1.b0, sr1.o0, R1⟩ (Ch.of f1)
theorem es_ret (he : PE X e (tEx G Z [] f)) : PS X (.Return (some e) pos) (tSt G Z W (sRet f)) :=
  imp_ps (ps_ret he) fun E σ H ⟨B, H0, O, ρ, s, r, s', sr, hf, q⟩ => by
    unfold sRet at hf
    obtain ⟨d, s1, h1, hf⟩ := bnd_some hf
    cases hf
    exact ⟨B, fun _ => False, ρ, s, d, _, sr.eo.weak, sr.r, h1, fun v H1 f1 r1 R1 => q v H1 (sr.fr.trans f1) (r1.sub fun a z _ => .inl z) R1⟩
theorem es_if {t : Et S} {body orelse : List Stmt} (hc : PT X c (tEt G Z W t)) (ha : PSs X body (tSt G Z W F)) (hb : PSs X orelse (tSt G Z W F')) : PS X (.If c body orelse pos) (tSt G Z W (sIf t F F')) :=
  imp_ps (ps_if hc ha hb) fun E σ H ⟨B, H0, O, ρ, s, r, s', sr, hf, q⟩ => by
    unfold sIf at hf
    obtain ⟨d, s1, h1, hf⟩ := bnd_some hf
    refine ⟨B, O, ρ, s, d, s1, sr.eo, sr.r, h1, fun H1 f1 R1 => ?_⟩
    have sr1 := sr.step f1 R1
    have go : ∀ F : Sv S, F ρ s1 = some (r, s') → tSt G Z W F E σ H1 := fun F hF => by
      refine ⟨B, H0, O, ρ, s1, r, s', sr1, hF, ?_⟩
      cases r with
      | rt d => exact q
      | nx ρ2 => exact fun O2 σ2 H2 sr2 ch2 => q O2 σ2 H2 sr2 ((Ch.of f1).trans ch2)
      | bk ρ2 => exact fun O2 σ2 H2 sr2 ch2 => q O2 σ2 H2 sr2 ((Ch.of f1).trans ch2)
      | ct ρ2 => exact fun O2 σ2 H2 sr2 ch2 => q O2 σ2 H2 sr2 ((Ch.of f1).trans ch2)
    cases d with
    | true => exact go F hf
    | false => exact go F' hf
theorem es_expr (he : PE X e (tEx G Z [] f)) (hs : swapsWith e none pos.line X.env = pure false := by rfl) : PS X (.Expr e pos) (tSt G Z W (sExpr f)) :=
  imp_ps (ps_expr he hs) fun E σ H ⟨B, H0, O, ρ, s, r, s', sr, hf, q⟩ => by
    unfold sExpr at hf
    obtain ⟨d, s1, h1, hf⟩ := bnd_some hf
    cases hf
    exact ⟨B, fun _ => False, ρ, s, d, _, sr.eo.weak, sr.r, h1, fun v H1 f1 r1 R1 => q O σ H1 (sr.step f1 R1) (Ch.of f1)⟩
/-! targets -/
def tTg (G : Kx) (Z : Zk S) (W vs : List Nat) (t : Tg) : TG := fun v σ H Q => ∃ (B O : Bar) (ρ : Rho) (d : D) (ρ' : Rho), Eo G Z W B O H σ ρ ∧ Rep G (fun a => B a ∨ O a) H d v ∧ t d ρ = some ρ' ∧
  ∀ σ', Eo G Z W B O H σ' ρ' → (σ'.length = σ.length ∧ ∀ i, i ∉ vs → σ'[i]? = σ[i]?) → Q σ' H
def tTgs (G : Kx) (Z : Zk S) (W vs : List Nat) (t : Tgs) : TGs := fun v σ H Q => ∃ (B O : Bar) (ρ : Rho) (d : List D) (ρ' : Rho), Eo G Z W B O H σ ρ ∧ Reps G (fun a => B a ∨ O a) H d v ∧ t d ρ = some ρ' ∧
  ∀ σ', Eo G Z W B O H σ' ρ' → (σ'.length = σ.length ∧ ∀ i, i ∉ vs → σ'[i]? = σ[i]?) → Q σ' H
theorem imp_pg {t t' : TG} (h : PG X e t) (m : ∀ v σ H Q, t' v σ H Q → t v σ H Q) : PG X e t' := ⟨fun pins s σ H v u Q I r q => h.run pins s σ H v u Q I r (m v σ H Q q)⟩
theorem imp_pgs {t t' : TGs} (h : PGs X es t) (m : ∀ v σ H Q, t' v σ H Q → t v σ H Q) : PGs X es t' := ⟨fun pins s σ H v u Q I r q => h.run pins s σ H v u Q I r (m v σ H Q q)⟩
theorem eg_name {i : Nat} (hN : X.N.Nodup) (hi : X.N[i]? = some x) (hx : Loc X.env.scope x) (hw : W.contains i = false := by rfl) (hf : X.fn x = true ∨ X.env.scope.names.lookup x = some .local := by first | exact .inl rfl | exact .inr rfl | assumption) : PG X (.Name x pos) (tTg G Z W [i] (gNm i)) :=
  imp_pg (pg_name hN hi hx hf) fun v σ H Q ⟨B, O, ρ, d, ρ', eo, hr, ht, q⟩ => by
    cases ht
    exact q _ (eo.set (by simpa using hw) hr) ⟨by simp, fun j hj => List.getElem?_set_ne fun z => hj (by simp [z])⟩
theorem egs_nil : PGs X [] (tTgs G Z W [] gN0) := imp_pgs pgs_nil fun v σ H Q ⟨B, O, ρ, d, ρ', eo, hr, ht, q⟩ => by
  unfold gN0 at ht
  split at ht
  · cases ht
    simp only [Reps] at hr
    exact ⟨hr, q σ eo ⟨rfl, fun _ _ => rfl⟩⟩
  · cases ht
theorem egs_cons {t : Tg} {u : Tgs} {vs us : List Nat} (h1 : PG X e (tTg G Z W vs t)) (h2 : PGs X es (tTgs G Z W us u)) (hs : (assignEach (e :: es) X.env).map (·.2) = assign e X.env :: (assignEach es X.env).map (·.2) := by rfl) : PGs X (e :: es) (tTgs G Z W (vs ++ us) (gC t u)) :=
  imp_pgs (pgs_cons h1 h2 hs) fun v σ H Q ⟨B, O, ρ, d, ρ', eo, hr, ht, q⟩ => by
    unfold gC at ht
    split at ht
    · rename_i d ds
      simp only [Reps] at hr
      obtain ⟨w, r, rfl, hr1, hr2⟩ := hr
      cases e1 : t d ρ with
      | none => rw [e1] at ht; cases ht
      | some ρ1 =>
        rw [e1] at ht
        have ht : u ds ρ1 = some ρ' := ht
        refine ⟨w, r, rfl, B, O, ρ, d, ρ1, eo, hr1, e1, fun σ1 eo1 k1 => ⟨B, O, ρ1, ds, ρ', eo1, hr2, ht, fun σ2 eo2 k2 => q σ2 eo2 ⟨k2.1.trans k1.1, fun i hi => ?_⟩⟩⟩
        rw [k2.2 i fun z => hi (List.mem_append_right _ z), k1.2 i fun z => hi (List.mem_append_left _ z)]
    · cases ht
theorem eg_tup {k n : Nat} {u : Tgs} {vs : List Nat} (hc : X.calm = true) (h : PGs X es (tTgs G Z W vs u)) (hl : ∀ ds ρ ρ', u ds ρ = some ρ' → ds.length = n) (hK : X.K = G.K := by rfl)
    (hn : (assignEach es X.env).length = n := by rfl) (hst : (assignEach es X.env).findIdx? (·.1) = none := by rfl) : PG X (.Tuple es k pos) (tTg G Z W vs (gTp u)) :=
  imp_pg (pg_tup hc h hn hst) fun v σ H Q ⟨B, O, ρ, d, ρ', eo, hr, ht, q⟩ => by
    unfold gTp at ht
    split at ht
    · rename_i ds
      obtain ⟨a, xs, rfl, h1, h2⟩ := hr.sqT
      refine ⟨a, xs, rfl, by rw [hK]; exact h1, by rw [h2.len]; exact hl _ _ _ ht, B, O, ρ, ds, ρ', eo, h2, ht, q⟩
    · cases ht
theorem gl0 {ds : List D} {ρ ρ' : Rho} (h : gN0 ds ρ = some ρ') : ds.length = 0 := by
  unfold gN0 at h
  split at h
  · rfl
  · cases h
theorem glC {t : Tg} {u : Tgs} {n : Nat} (hu : ∀ ds ρ ρ', u ds ρ = some ρ' → ds.length = n) {ds : List D} {ρ ρ' : Rho} (h : gC t u ds ρ = some ρ') : ds.length = n + 1 := by
  unfold gC at h
  split at h
  · rename_i d ds
    cases e1 : t d ρ with
    | none => rw [e1] at h; cases h
    | some ρ1 =>
      rw [e1] at h
      have := hu ds ρ1 ρ' h
      simp [this]
  · cases h
theorem es_asg {t : Tg} {vs : List Nat} {tg : Expr} (he : PE X e (tEx G Z W f)) (hg : PG X tg (tTg G Z W vs t)) (h : PS X (.Assign [tg] e pos) (tAsg (tEx G Z W f) (tTg G Z W vs t))) : PS X (.Assign [tg] e pos) (tSt G Z W (sAsg f t)) :=
  imp_ps h fun E σ H ⟨B, H0, O, ρ, s, r, s', sr, hf, q⟩ => by
    unfold sAsg at hf
    obtain ⟨d, s1, h1, hf⟩ := bnd_some hf
    split at hf
    · cases hf
    · rename_i ρ1 e1
      cases hf
      refine ⟨B, O, ρ, s, d, _, sr.eo, sr.r, h1, fun v H1 f1 r1 R1 => ?_⟩
      have sr1 := sr.step f1 R1
      exact ⟨B, O, ρ, d, ρ1, sr1.eo, r1, e1, fun σ2 eo2 _ => q O _ H1 ⟨eo2, sr1.fr, sr1.b0, sr1.o0, R1⟩ (Ch.of f1)⟩
end
end Dl
set_option Elab.async false
set_option linter.all false
set_option maxRecDepth 100000
set_option maxHeartbeats 4000000
namespace Dl
open PySem PySem.Spec PyProof.Rows L2
/-! ### what is walked -/
def Wk (G : Kx) (B : Bar) (H1 : Hp) (J : It) (ds : List D) : Prop := ∃ (Gd : Hp → Prop) (Y : Nat → Hp → V → Hp → Prop), Walk J ds.length Gd Y ∧
  ∀ (B2 : Bar) (H2 : Hp), (∀ a o, H1 a = some o → ¬ B a → H2 a = some o ∧ ¬ B2 a) → (∀ a, B2 a → H2 a ≠ none) → Gd H2 ∧ ∀ i d x H3, ds[i]? = some d → Y i H2 x H3 → Same H2 H3 ∧ Rep G B2 H3 d x
def tIt {S : Type} (G : Kx) (Z : Zk S) (W : List Nat) (f : Ea S) : TI := fun σ H R =>
  ∃ (B O : Bar) (ρ : Rho) (s : S) (d : List D) (s' : S), Eo G Z W B O H σ ρ ∧ Z.R H s ∧ f ρ s = some (d, s') ∧
    ∀ J H', Lc.Fr Z.M H H' → Wk G (fun a => B a ∨ O a) H' J d → Z.R H' s' → R J H'
theorem imp_pi {X : Cx} {tg e : Expr} {t t' : TI} (h : PI X tg e t) (m : ∀ σ H Q, t' σ H Q → t σ H Q) : PI X tg e t' := ⟨fun pins s σ H Q I q => h.run pins s σ H Q I (m σ H Q q)⟩
section
variable {S : Type} {X : Cx} {G : Kx} {Z : Zk S} {W : List Nat} {f g : Ev S} {F F' : Sv S} {a b c e tg : Expr} {es : List Expr} {st : Stmt} {rest : List Stmt} {pos p : Pos} {x : Str}
theorem es_for {iter : Expr} {body : List Stmt} {fi : Ea S} {t : Tg} {vs : List Nat} (hp : PassesOwn (model X.prog X.w) X.A X.env X.xe) (hc : X.calm = true) (hi : PI X tg iter (tIt G Z W fi)) (hg : PG X tg (tTg G Z W vs t)) (hb : PSs X body (tSt G Z W F))
    (hs : ∀ x, foldedSetIterable iter X.env x = pure x := by intro _; rfl) : PS X (.For tg iter body [] pos) (tSt G Z W (sFor fi t F)) :=
  imp_ps (ps_for hp hc hi hg hb hs) fun E σ H ⟨B, H0, O, ρ, s, r, s', sr, hf, q⟩ => by
    unfold sFor at hf
    obtain ⟨ds, s1, h1, hf⟩ := bnd_some hf
    refine ⟨B, O, ρ, s, ds, s1, sr.eo, sr.r, h1, fun J H1 f1 wk R1 => ?_⟩
    obtain ⟨Gd, Y, w, k⟩ := wk
    have sr1 := sr.step f1 R1
    have stay : ∀ {O2 : Bar} {H2 : Hp}, Ch Z O O2 H1 H2 → ∀ a o, H1 a = some o → ¬ (B a ∨ O a) → H2 a = some o ∧ ¬ (B a ∨ O2 a) := fun ch a o e n =>
      ⟨ch.fr.at e fun z => n (z.elim (fun z => .inl (sr.mb a z)) .inr), fun z => n (z.elim .inl fun z => (ch.nw a z).elim .inr fun z => by rw [e] at z; cases z)⟩
    have dom : ∀ {O2 : Bar} {H2 : Hp} {σ2 : L2.St} {ρ2 : Rho} {s2 : S}, Sr G Z W B H0 O2 H2 σ2 ρ2 s2 → ∀ a, (B a ∨ O2 a) → H2 a ≠ none := fun r a z => z.elim (r.eo.bd a) (r.eo.od a)
    refine for_it w (fun i σ2 H2 => ∃ O2 ρ2 s2, Sr G Z W B H0 O2 H2 σ2 ρ2 s2 ∧ Ch Z O O2 H1 H2 ∧ loopF t F (ds.drop i) ρ2 s2 = some (r, s')) ⟨O, ρ, s1, sr1, Ch.refl, hf⟩ ?_ ?_ ?_
    · rintro i σ2 H2 hi ⟨O2, ρ2, s2, sr2, ch, _⟩
      exact (k _ H2 (stay ch) (dom sr2)).1
    · rintro i x σ2 H2 H3 hi ⟨O2, ρ2, s2, sr2, ch, hl⟩ y
      have hd : ds[i]? = some ds[i] := by simp [hi]
      obtain ⟨sm, rp⟩ := (k _ H2 (stay ch) (dom sr2)).2 i ds[i] x H3 hd y
      rw [List.drop_eq_getElem_cons hi] at hl
      unfold loopF at hl
      split at hl
      · cases hl
      · rename_i ρ3 e1
        refine ⟨B, O2, ρ2, ds[i], ρ3, sr2.eo.fr (Lc.Fr.of sm), rp, e1, fun σ3 eo3 _ => ?_⟩
        have sr3 : Sr G Z W B H0 O2 H3 σ3 ρ3 s2 := ⟨eo3, sr2.fr.trans (Lc.Fr.of sm), sr2.b0, sr2.o0, Z.same sr2.r sm⟩
        have ch3 : Ch Z O O2 H1 H3 := ch.trans (Ch.of (Lc.Fr.of sm))
        split at hl
        · rename_i ρ4 s4 e4
          exact ⟨B, H0, O2, ρ3, s2, .nx ρ4, s4, sr3, e4, fun O5 σ5 H5 sr5 ch5 => ⟨O5, ρ4, s4, sr5, ch3.trans ch5, hl⟩⟩
        · rename_i ρ4 s4 e4
          exact ⟨B, H0, O2, ρ3, s2, .ct ρ4, s4, sr3, e4, fun O5 σ5 H5 sr5 ch5 => ⟨O5, ρ4, s4, sr5, ch3.trans ch5, hl⟩⟩
        · rename_i ρ4 s4 e4
          cases hl
          exact ⟨B, H0, O2, ρ3, s2, .bk ρ4, _, sr3, e4, fun O5 σ5 H5 sr5 ch5 => q O5 σ5 H5 sr5 ((Ch.of f1).trans (ch3.trans ch5))⟩
        · rename_i n1 n2 n3
          cases r with
          | rt d => exact ⟨B, H0, O2, ρ3, s2, .rt d, s', sr3, hl, q⟩
          | nx ρ4 => exact absurd hl (n1 ρ4 s')
          | ct ρ4 => exact absurd hl (n2 ρ4 s')
          | bk ρ4 => exact absurd hl (n3 ρ4 s')
    · rintro σ2 H2 ⟨O2, ρ2, s2, sr2, ch, hl⟩
      rw [List.drop_length] at hl
      cases hl
      exact q O2 σ2 H2 sr2 ((Ch.of f1).trans ch)
theorem es_while {body : List Stmt} {t : Et S} {n : Rho → Nat} (hp : PassesOwn (model X.prog X.w) X.A X.env X.xe) (hc : PT X c (tEt G Z W t)) (hb : PSs X body (tSt G Z W F)) : PS X (.While c body [] pos) (tSt G Z W (sWh n t F)) :=
  imp_ps (ps_while hp hc hb) fun E σ H ⟨B, H0, O, ρ, s, r, s', sr, hf, q⟩ => by
    unfold sWh at hf
    refine ⟨fun m σ2 H2 => ∃ O2 ρ2 s2, Sr G Z W B H0 O2 H2 σ2 ρ2 s2 ∧ Ch Z O O2 H H2 ∧ whileF t F m ρ2 s2 = some (r, s'), ⟨n ρ, O, ρ, s, sr, Ch.refl, hf⟩, ?_⟩
    rintro m σ2 H2 ⟨O2, ρ2, s2, sr2, ch, hl⟩
    cases m with
    | zero => cases hl
    | succ m =>
      unfold whileF at hl
      obtain ⟨d, s3, h3, hl⟩ := bnd_some hl
      refine ⟨B, O2, ρ2, s2, d, s3, sr2.eo, sr2.r, h3, fun H3 f3 R3 => ?_⟩
      have sr3 := sr2.step f3 R3
      have ch3 : Ch Z O O2 H H3 := ch.trans (Ch.of f3)
      cases d with
      | false =>
        cases hl
        exact q O2 σ2 H3 sr3 ch3
      | true =>
        rw [if_pos rfl] at hl
        refine ⟨fun σ4 H4 => ∃ O4 ρ4 s4, Sr G Z W B H0 O4 H4 σ4 ρ4 s4 ∧ Ch Z O O4 H H4 ∧ whileF t F m ρ4 s4 = some (r, s'), fun σ4 H4 h4 => ⟨m, Nat.lt_succ_self m, h4⟩, ?_⟩
        split at hl
        · rename_i ρ4 s4 e4
          exact ⟨B, H0, O2, ρ2, s3, .nx ρ4, s4, sr3, e4, fun O5 σ5 H5 sr5 ch5 => ⟨O5, ρ4, s4, sr5, ch3.trans ch5, hl⟩⟩
        · rename_i ρ4 s4 e4
          exact ⟨B, H0, O2, ρ2, s3, .ct ρ4, s4, sr3, e4, fun O5 σ5 H5 sr5 ch5 => ⟨O5, ρ4, s4, sr5, ch3.trans ch5, hl⟩⟩
        · rename_i ρ4 s4 e4
          cases hl
          exact ⟨B, H0, O2, ρ2, s3, .bk ρ4, _, sr3, e4, fun O5 σ5 H5 sr5 ch5 => q O5 σ5 H5 sr5 (ch3.trans ch5)⟩
        · rename_i n1 n2 n3
          cases r with
          | rt d => exact ⟨B, H0, O2, ρ2, s3, .rt d, s', sr3, hl, q⟩
          | nx ρ4 => exact absurd hl (n1 ρ4 s')
          | ct ρ4 => exact absurd hl (n2 ρ4 s')
          | bk ρ4 => exact absurd hl (n3 ρ4 s')
/-! what can be walked -/
def asL : D → Option (List D)
  | .list ds => some ds
  | _ => none
def asT : D → Option (List D)
  | .tuple ds => some ds
  | _ => none
/-- an iterable of an expression's value -/
def iOf (p : D → Option (List D)) (f : Ev S) : Ea S := fun ρ s => bnd (f ρ s) fun d s => put (p d) s
theorem wk_list {B : Bar} {H : Hp} {a : Addr} {vs : List V} {ds : List D} (hK : PySem.W.Frag) (h : H a = some (.lst vs)) (n : ¬ B a) (r : Reps G B H ds vs) : Wk G B H (Itl hK a) ds := by
  refine ⟨fun H => SqL hK H a vs, YAt vs, by rw [← r.len]; exact walk_list, fun B2 H2 st dm => ⟨.inl (.inl (st a _ h n).1), fun i d x H3 hd y => ?_⟩⟩
  obtain ⟨rfl, hx⟩ := y
  obtain ⟨v, h1, h2⟩ := (r.mv (B' := B2) (H' := H3) st).get hd
  rw [hx] at h1
  cases h1
  exact ⟨Same.refl _, h2⟩
theorem wk_tup {B : Bar} {H : Hp} {a : Addr} {vs : List V} {ds : List D} (h : (H a = some (.tup vs) ∧ ¬ B a) ∨ KT G.K a vs) (r : Reps G B H ds vs) : Wk G B H (Itt G.K a) ds := by
  refine ⟨fun H => SqT G.K H a vs, YAt vs, by rw [← r.len]; exact walk_tup, fun B2 H2 st dm => ⟨?_, fun i d x H3 hd y => ?_⟩⟩
  · rcases h with ⟨h, n⟩ | h
    · exact .inl (.inl (st a _ h n).1)
    · exact .inr h
  · obtain ⟨rfl, hx⟩ := y
    obtain ⟨v, h1, h2⟩ := (r.mv (B' := B2) (H' := H3) st).get hd
    rw [hx] at h1
    cases h1
    exact ⟨Same.refl _, h2⟩
theorem ei_list (he : PE X e (tEx G Z W f)) : PI X tg e (tIt G Z W (iOf asL f)) :=
  imp_pi (pi_list he) fun σ H Q ⟨B, O, ρ, s, d, s', eo, hR, hf, q⟩ => by
    unfold iOf at hf
    obtain ⟨y, s1, h1, hf⟩ := bnd_some hf
    obtain ⟨h3, rfl⟩ := put_some hf
    refine ⟨B, O, ρ, s, y, _, eo, hR, h1, fun v H1 f1 r1 R1 => ?_⟩
    unfold asL at h3
    split at h3
    · cases h3
      simp only [Rep] at r1
      obtain ⟨a, vs, rfl, h4, h5, h6⟩ := r1
      exact ⟨a, rfl, ⟨vs, .inl (.inl h4)⟩, q _ H1 f1 (wk_list _ h4 h5 h6) R1⟩
    · cases h3
theorem ei_tup (he : PE X e (tEx G Z W f)) (hK : X.K = G.K := by rfl) : PI X tg e (tIt G Z W (iOf asT f)) :=
  imp_pi (pi_tup he) fun σ H Q ⟨B, O, ρ, s, d, s', eo, hR, hf, q⟩ => by
    unfold iOf at hf
    obtain ⟨y, s1, h1, hf⟩ := bnd_some hf
    obtain ⟨h3, rfl⟩ := put_some hf
    refine ⟨B, O, ρ, s, y, _, eo, hR, h1, fun v H1 f1 r1 R1 => ?_⟩
    unfold asT at h3
    split at h3
    · cases h3
      obtain ⟨a0, vs0, e0, hT, _⟩ := r1.sqT
      simp only [Rep] at r1
      obtain ⟨a, vs, rfl, h4, h6⟩ := r1
      cases e0
      rw [hK]
      exact ⟨_, rfl, ⟨vs0, hT⟩, q _ H1 f1 (wk_tup h4 h6) R1⟩
    · cases h3
def asS : D → Option (List D)
  | .str z => some (z.cps.toList.map fun c => .str ⟨#[c]⟩)
  | _ => none
theorem wk_str {B : Bar} {H : Hp} {z : Str} : Wk G B H (Its z) (z.cps.toList.map fun c => .str ⟨#[c]⟩) := by
  refine ⟨fun _ => True, _, by rw [List.length_map, Array.length_toList]; exact walk_str, fun B2 H2 st dm => ⟨trivial, fun i d x H3 hd y => ?_⟩⟩
  obtain ⟨rfl, c, hc, rfl⟩ := y
  rw [List.getElem?_map, Array.getElem?_toList, hc] at hd
  cases hd
  exact ⟨Same.refl _, by simp only [Rep]⟩
theorem ei_str (he : PE X e (tEx G Z W f)) : PI X tg e (tIt G Z W (iOf asS f)) :=
  imp_pi (pi_str he) fun σ H Q ⟨B, O, ρ, s, d, s', eo, hR, hf, q⟩ => by
    unfold iOf at hf
    obtain ⟨y, s1, h1, hf⟩ := bnd_some hf
    obtain ⟨h3, rfl⟩ := put_some hf
    refine ⟨B, O, ρ, s, y, _, eo, hR, h1, fun v H1 f1 r1 R1 => ?_⟩
    unfold asS at h3
    split at h3
    · cases h3
      simp only [Rep] at r1
      exact ⟨_, r1, q _ H1 f1 wk_str R1⟩
    · cases h3
def rngD (lo : Int) (n : Nat) : List D := (List.range n).map fun (i : Nat) => .int (lo + i)
theorem wk_range {B : Bar} {H : Hp} {lo : Int} {n : Nat} : Wk G B H (Itr lo n) (rngD lo n) := by
  refine ⟨fun _ => True, _, by simp only [rngD, List.length_map, List.length_range]; exact walk_range, fun B2 H2 st dm => ⟨trivial, fun i d x H3 hd y => ?_⟩⟩
  obtain ⟨rfl, rfl⟩ := y
  simp only [rngD, List.getElem?_map] at hd
  by_cases hi : i < n
  · rw [List.getElem?_range hi] at hd
    cases hd
    exact ⟨Same.refl _, by simp only [Rep]⟩
  · rw [List.getElem?_eq_none (by simpa using hi)] at hd
    cases hd
def pR1 : List D → Option (List D)
  | [.int j] => if -(2 ^ 62) ≤ j ∧ j < 2 ^ 62 then some (rngD 0 j.toNat) else none
  | _ => none
def pR2 : List D → Option (List D)
  | [.int i, .int j] => if -(2 ^ 62) ≤ i ∧ i < 2 ^ 62 ∧ -(2 ^ 62) ≤ j ∧ j < 2 ^ 62 then some (rngD i (j - i).toNat) else none
  | _ => none
def iOfA (p : List D → Option (List D)) (f : Ea S) : Ea S := fun ρ s => bnd (f ρ s) fun d s => put (p d) s
theorem ei_range1 {fa : Ea S} (h : PI X tg (.Call (.Name "range" p) [a] [] pos) (iRng1 (tEa G Z W fa))) : PI X tg (.Call (.Name "range" p) [a] [] pos) (tIt G Z W (iOfA pR1 fa)) :=
  imp_pi h fun σ H Q ⟨B, O, ρ, s, d, s', eo, hR, hf, q⟩ => by
    unfold iOfA at hf
    obtain ⟨y, s1, h1, hf⟩ := bnd_some hf
    obtain ⟨h3, rfl⟩ := put_some hf
    refine ⟨B, O, ρ, s, y, _, eo, hR, h1, fun v H1 f1 r1 R1 => ?_⟩
    unfold pR1 at h3
    split at h3
    · split at h3
      · rename_i j hj
        cases h3
        simp only [Reps, Rep] at r1
        obtain ⟨v, r, rfl, rfl, rfl⟩ := r1
        exact ⟨j, rfl, hj.1, hj.2, q _ H1 f1 wk_range R1⟩
      · cases h3
    · cases h3
theorem ei_range2 {fa : Ea S} (h : PI X tg (.Call (.Name "range" p) [a, b] [] pos) (iRng2 (tEa G Z W fa))) : PI X tg (.Call (.Name "range" p) [a, b] [] pos) (tIt G Z W (iOfA pR2 fa)) :=
  imp_pi h fun σ H Q ⟨B, O, ρ, s, d, s', eo, hR, hf, q⟩ => by
    unfold iOfA at hf
    obtain ⟨y, s1, h1, hf⟩ := bnd_some hf
    obtain ⟨h3, rfl⟩ := put_some hf
    refine ⟨B, O, ρ, s, y, _, eo, hR, h1, fun v H1 f1 r1 R1 => ?_⟩
    unfold pR2 at h3
    split at h3
    · split at h3
      · rename_i i j hj
        cases h3
        simp only [Reps, Rep] at r1
        obtain ⟨v, r, rfl, rfl, w, r, rfl, rfl, rfl⟩ := r1
        exact ⟨i, j, rfl, hj, q _ H1 f1 wk_range R1⟩
      · cases h3
    · cases h3
/-! list comprehensions -/
def wipeR (ρ : Rho) : List Nat → Rho
  | [] => ρ
  | v :: vs => (wipeR ρ vs).set v none
def compF (t : Tg) (q : Et S) (f : Ev S) (ρ : Rho) : List D → S → Option (List D × S)
  | [], s => some ([], s)
  | d :: ds, s => match t d ρ with
    | none => none
    | some ρ1 => bnd (q ρ1 s) fun b s => if b = true then bnd (f ρ1 s) fun y s => bnd (compF t q f ρ ds s) fun ys s => some (y :: ys, s) else compF t q f ρ ds s
def lcF (fi : Ea S) (t : Tg) (q : Et S) (f : Ev S) (vs : List Nat) : Ea S := fun ρ s => bnd (fi ρ s) fun ds s => if ds.length ≤ sizeLine then compF t q f (wipeR ρ vs) ds s else none
def cLc (fi : Ea S) (t : Tg) (q : Et S) (f : Ev S) (vs : List Nat) : Ev S := fun ρ s => bnd (lcF fi t q f vs ρ s) fun ds s => some (.list ds, s)
def qYes : Et S := fun _ s => some (true, s)
theorem wipe_get {σ : L2.St} {i : Nat} : ∀ {vs : List Nat}, i ∉ vs → (wipe σ vs)[i]? = σ[i]?
  | [], _ => rfl
  | v :: vs, h => by
    unfold wipe
    rw [List.getElem?_set_ne fun z => h (by simp [z]), wipe_get fun z => h (List.mem_cons_of_mem _ z)]
theorem wipeR_get {ρ : Rho} {i : Nat} {d : D} : ∀ {vs : List Nat}, (wipeR ρ vs)[i]? = some (some d) → ρ[i]? = some (some d) ∧ i ∉ vs
  | [], h => ⟨h, by simp⟩
  | v :: vs, h => by
    unfold wipeR at h
    by_cases hi : v = i
    · subst hi
      rw [List.getElem?_set] at h
      simp only [if_true] at h
      split at h <;> cases h
    · rw [List.getElem?_set_ne hi] at h
      obtain ⟨h1, h2⟩ := wipeR_get h
      exact ⟨h1, fun z => (List.mem_cons.mp z).elim (fun z => hi z.symm) h2⟩
theorem wipeR_len {ρ : Rho} : ∀ {vs : List Nat}, (wipeR ρ vs).length = ρ.length
  | [] => rfl
  | v :: vs => by unfold wipeR; rw [List.length_set, wipeR_len]
theorem wipe_none {σ : L2.St} {i : Nat} : ∀ {vs : List Nat}, i ∈ vs → i < σ.length → (wipe σ vs)[i]? = some none
  | v :: vs, h, hl => by
    unfold wipe
    by_cases hi : v = i
    · subst hi
      rw [List.getElem?_set_self (by rw [wipe_length]; exact hl)]
    · rw [List.getElem?_set_ne hi]
      exact wipe_none ((List.mem_cons.mp h).elim (fun z => absurd z.symm hi) id) hl
theorem Eo.wipe {B O : Bar} {H : Hp} {σ : L2.St} {ρ : Rho} (e : Eo G Z W B O H σ ρ) (vs : List Nat) : Eo G Z W B O H (L2.wipe σ vs) (wipeR ρ vs) where
  er := by
    refine ⟨by rw [wipe_length, wipeR_len]; exact e.er.len, fun i d hi hd => ?_, ?_⟩
    · obtain ⟨h1, h2⟩ := wipeR_get hd
      rw [wipe_get h2]
      exact e.er.pl i d hi h1
    · obtain ⟨om, h1, h2⟩ := e.er.ow
      refine ⟨om, fun i j d d' hi hj hd hd' => h1 i j d d' hi hj (wipeR_get hd).1 (wipeR_get hd').1, fun i d hi hd => ?_⟩
      obtain ⟨h3, h4⟩ := wipeR_get hd
      rw [wipe_get h4]
      exact h2 i d hi h3
  bd := e.bd
  ol := e.ol
  mb := e.mb
  ob := e.ob
theorem wipe_ext {σ σ2 : L2.St} {us vs : List Nat} (hv : ∀ i ∈ us, i ∈ vs) (hl : σ2.length = σ.length) (k : ∀ i, i ∉ us → σ2[i]? = (wipe σ vs)[i]?) : wipe σ2 vs = wipe σ vs := by
  apply List.ext_getElem?
  intro i
  by_cases hi : i ∈ vs
  · by_cases hl2 : i < σ.length
    · rw [wipe_none hi (by omega), wipe_none hi hl2]
    · rw [List.getElem?_eq_none (by rw [wipe_length]; omega), List.getElem?_eq_none (by rw [wipe_length]; omega)]
  · rw [wipe_get hi, k i fun z => hi (hv i z)]
theorem Eo.bar {B O : Bar} {H : Hp} {σ : L2.St} {ρ : Rho} (e : Eo G Z W B O H σ ρ) {L : Addr} (h : H L = none) (o : HO) : Eo G Z W (fun a => B a ∨ a = L) O (upd H L o) σ ρ := by
  have k : ∀ a u, H a = some u → ¬ (B a ∨ O a) → upd H L o a = some u ∧ ¬ ((B a ∨ a = L) ∨ O a) := fun a u q n => by
    have ne : a ≠ L := ne_of_none q h
    exact ⟨by rw [upd_ne ne]; exact q, fun z => n (z.elim (fun z => z.elim .inl fun z => absurd z ne) .inr)⟩
  refine ⟨⟨e.er.len, fun i d hi hd => ?_, ?_⟩, fun a z => ?_, fun a z => ?_, fun a z => .inl (e.mb a z), fun a z y => ?_⟩
  · obtain ⟨v, h1, h2⟩ := e.er.pl i d hi hd
    exact ⟨v, h1, h2.mv k⟩
  · obtain ⟨om, h1, h2⟩ := e.er.ow
    refine ⟨om, h1, fun i d hi hd => ?_⟩
    obtain ⟨ds, vs, a1, a2, a3, a4, a5⟩ := h2 i d hi hd
    exact ⟨ds, vs, a1, a2, a3, by rw [upd_ne (ne_of_none a4 h)]; exact a4, a5.mv k⟩
  · rcases z with z | rfl
    · by_cases hq : a = L
      · subst hq; rw [upd_same]; simp
      · rw [upd_ne hq]; exact e.bd a z
    · rw [upd_same]; simp
  · obtain ⟨vs, hv⟩ := e.ol a z
    exact ⟨vs, by rw [upd_ne (ne_of_none hv h)]; exact hv⟩
  · rcases y with y | rfl
    · exact e.ob a z y
    · exact e.od a z h
theorem Eo.upd {B O : Bar} {H : Hp} {σ : L2.St} {ρ : Rho} (e : Eo G Z W B O H σ ρ) {L : Addr} (h : B L) (o : HO) : Eo G Z W B O (upd H L o) σ ρ := by
  have k : ∀ a u, H a = some u → ¬ (B a ∨ O a) → L2.upd H L o a = some u ∧ ¬ (B a ∨ O a) := fun a u q n => ⟨by rw [upd_ne fun z => n (.inl (by rw [z]; exact h))]; exact q, n⟩
  have nO : ∀ a, O a → a ≠ L := fun a z y => e.ob a z (by rw [y]; exact h)
  refine ⟨⟨e.er.len, fun i d hi hd => ?_, ?_⟩, fun a z => ?_, fun a z => ?_, e.mb, e.ob⟩
  · obtain ⟨v, h1, h2⟩ := e.er.pl i d hi hd
    exact ⟨v, h1, h2.mv k⟩
  · obtain ⟨om, h1, h2⟩ := e.er.ow
    refine ⟨om, h1, fun i d hi hd => ?_⟩
    obtain ⟨ds, vs, a1, a2, a3, a4, a5⟩ := h2 i d hi hd
    exact ⟨ds, vs, a1, a2, a3, by rw [upd_ne (nO _ a3)]; exact a4, a5.mv k⟩
  · by_cases hq : a = L
    · subst hq; rw [upd_same]; simp
    · rw [upd_ne hq]; exact e.bd a z
  · obtain ⟨vs, hv⟩ := e.ol a z
    exact ⟨vs, by rw [upd_ne (nO a z)]; exact hv⟩
/-- the core: a comprehension makes a new list -/
theorem lc_new {fi : Ea S} {t : Tg} {us vs : List Nat} {q : Et S} {tt : TT} {B O : Bar} {ρ : Rho} {s s' : S} {ds : List D} {σ : L2.St} {H : Hp} {Q : VK} (hu : ∀ i ∈ us, i ∈ vs) (hq : ∀ σ H Q, tEt G Z W q σ H Q → tt σ H Q) (eo : Eo G Z W B O H σ ρ) (hR : Z.R H s) (hf : lcF fi t q f vs ρ s = some (ds, s'))
    (h : ∀ p vs H', H p = none → Lc.Fr Z.M H H' → H' p = some (.lst vs) → Reps G (fun a => (B a ∨ a = p) ∨ O a) H' ds vs → Z.R H' s' → Q (.ref p) H') :
    tLc (tIt G Z W fi) (tTg G Z W us t) tt (tEx G Z W f) vs σ H Q := by
  unfold lcF at hf
  obtain ⟨xs, s1, h1, hf⟩ := bnd_some hf
  split at hf
  · rename_i hsz
    refine ⟨B, O, ρ, s, xs, s1, eo, hR, h1, fun J H1 f1 wk R1 => fun L hL => ?_⟩
    obtain ⟨Gd, Y, w, k⟩ := wk
    have eo1 := eo.fr f1
    have nL : ¬ (B L ∨ O L) := eo1.new hL
    have nM : ¬ Z.M L := fun z => nL (.inl (eo.mb L z))
    have hL0 : H L = none := f1.free hL
    have dm : ∀ {H2 : Hp}, Eo G Z W (fun a => B a ∨ a = L) O H2 σ ρ → ∀ a, ((B a ∨ a = L) ∨ O a) → H2 a ≠ none := fun e2 a z => z.elim (e2.bd a) (e2.od a)
    have st : ∀ {H2 : Hp}, Lc.Fr Z.M H1 H2 → ∀ a o, H1 a = some o → ¬ (B a ∨ O a) → H2 a = some o ∧ ¬ ((B a ∨ a = L) ∨ O a) := fun f2 a o e n =>
      ⟨f2.at e fun z => n (.inl (eo.mb a z)), fun z => n (z.elim (fun z => z.elim .inl fun z => absurd z (ne_of_none e hL)) .inr)⟩
    refine lc_it w (fun i H2 => ∃ acc as rest s2, Eo G Z W (fun a => B a ∨ a = L) O H2 σ ρ ∧ Lc.Fr Z.M H1 H2 ∧ H2 L = some (.lst as) ∧ Reps G (fun a => (B a ∨ a = L) ∨ O a) H2 acc as ∧ acc.length ≤ i ∧ Z.R H2 s2 ∧ compF t q f (wipeR ρ vs) (xs.drop i) s2 = some (rest, s') ∧ acc ++ rest = ds) ?_ ?_ ?_ ?_
    · exact ⟨[], [], ds, s1, eo1.bar hL _, Lc.Fr.new hL, upd_same, Reps.nil, Nat.le_refl _, Z.same R1 (Lc.same_new hL), hf, rfl⟩
    · rintro i H2 hi ⟨acc, as, rest, s2, eo2, f2, _⟩
      exact (k _ H2 (st f2) (dm eo2)).1
    · rintro i x H2 H3 hi ⟨acc, as, rest, s2, eo2, f2, hLs, ra, hn, R2, hc, hds⟩ y
      have hd : xs[i]? = some xs[i] := by simp [hi]
      obtain ⟨sm, rp⟩ := (k _ H2 (st f2) (dm eo2)).2 i xs[i] x H3 hd y
      rw [List.drop_eq_getElem_cons hi] at hc
      unfold compF at hc
      split at hc
      · cases hc
      · rename_i ρ3 e1
        have eo3 := (eo2.fr (Lc.Fr.of sm)).wipe vs
        refine ⟨_, O, wipeR ρ vs, xs[i], ρ3, eo3, rp, e1, fun σ3 eo4 kk => ⟨wipe_ext hu (by rw [kk.1, wipe_length]) kk.2, ?_⟩⟩
        obtain ⟨b, s3, h3, hc⟩ := bnd_some hc
        refine hq _ _ _ ⟨_, O, ρ3, s2, b, s3, eo4, Z.same R2 sm, h3, fun H4 f4 R4 => ?_⟩
        have f24 : Lc.Fr Z.M H2 H4 := (Lc.Fr.of sm).trans f4
        have mb : ∀ a, Z.M a → (B a ∨ a = L) ∨ O a := fun a z => .inl (.inl (eo.mb a z))
        have hL4 : H4 L = some (.lst as) := f24.at hLs nM
        cases b with
        | false =>
          rw [if_neg (by simp)] at hc
          refine iteF ?_
          exact ⟨acc, as, rest, s3, eo2.fr f24, f2.trans f24, hL4, ra.fr f24 mb, by omega, R4, hc, hds⟩
        | true =>
          rw [if_pos rfl] at hc
          refine iteT ?_
          obtain ⟨y1, s4, h4, hc⟩ := bnd_some hc
          obtain ⟨ys, s5, h5, hc⟩ := bnd_some hc
          cases hc
          refine ⟨_, O, ρ3, s3, y1, s4, eo4.fr f4, R4, h4, fun u H5 f5 r5 R5 => ?_⟩
          have f25 := f24.trans f5
          have hL5 : H5 L = some (.lst as) := f25.at hLs nM
          have ra5 := ra.fr f25 mb
          refine ⟨as, hL5, by have := ra.len; omega, ?_⟩
          have up : ∀ a o, H5 a = some o → ¬ ((B a ∨ a = L) ∨ O a) → L2.upd H5 L (.lst (as ++ [u])) a = some o ∧ ¬ ((B a ∨ a = L) ∨ O a) := fun a o e n => ⟨by rw [upd_ne fun z => n (.inl (.inr z))]; exact e, n⟩
          refine ⟨acc ++ [y1], as ++ [u], ys, s4, (eo2.fr f25).upd (.inr rfl) _, Lc.Fr.own (f2.trans f25) hL, upd_same, (ra5.append (Reps.cons r5 Reps.nil)).mv up, by simp; omega, Z.loc H5 _ s4 R5 fun a z => upd_ne fun e => nM (by rw [← e]; exact z), h5, by simpa using hds⟩
    · rintro H2 ⟨acc, as, rest, s2, eo2, f2, hLs, ra, hn, R2, hc, hds⟩
      rw [List.drop_length] at hc
      cases hc
      rw [List.append_nil] at hds
      subst hds
      exact h L as H2 hL0 (f1.trans f2) hLs ra R2
  · cases hf
end
end Dl
set_option Elab.async false
set_option linter.all false
set_option maxRecDepth 100000
set_option maxHeartbeats 4000000
namespace Dl
open PySem PySem.Spec PyProof.Rows L2
/-! ### new lists, and slots that own them -/
/-- a reading whose value is a new list -/
def tNl {S : Type} (G : Kx) (Z : Zk S) (W : List Nat) (f : Ea S) : TE := fun σ H Q =>
  ∃ (B O : Bar) (ρ : Rho) (s : S) (d : List D) (s' : S), Eo G Z W B O H σ ρ ∧ Z.R H s ∧ f ρ s = some (d, s') ∧
    ∀ p vs H', H p = none → Lc.Fr Z.M H H' → H' p = some (.lst vs) → Reps G (fun a => (B a ∨ a = p) ∨ O a) H' d vs → Z.R H' s' → Q (.ref p) H'
def cNl {S : Type} (f : Ea S) : Ev S := fun ρ s => bnd (f ρ s) fun ds s => some (.list ds, s)
section
variable {S : Type} {X : Cx} {G : Kx} {Z : Zk S} {W : List Nat} {f g : Ev S} {fa : Ea S} {F F' : Sv S} {a b c e tg : Expr} {es : List Expr} {st : Stmt} {rest : List Stmt} {pos p : Pos} {x : Str}
theorem ex_nl (h : PE X e (tNl G Z W fa)) : PE X e (tEx G Z W (cNl fa)) :=
  imp_pe h fun σ H Q ⟨B, O, ρ, s, d, s', eo, hR, hf, q⟩ => by
    unfold cNl at hf
    obtain ⟨y, s1, h1, hf⟩ := bnd_some hf
    cases hf
    refine ⟨B, O, ρ, s, y, _, eo, hR, h1, fun p vs H' hp f1 h2 h3 R1 => q _ H' f1 ?_ R1⟩
    simp only [Rep]
    exact ⟨p, vs, rfl, h2, eo.new hp, h3.sub fun a z _ => z.elim (fun z => .inl (.inl z)) .inr⟩
theorem nl_lc {iter : Expr} {ifs : List Expr} {scope : Scope} {own : List (Str × Nat)} {fi : Ea S} {t : Tg} {us : List Nat} {q : Et S} {tt : TT} (hc : X.calm = true) (hN : X.N.Nodup) (hi : PI X tg iter (tIt G Z W fi)) (ok : BlkOk X.N X.env.scope scope own)
    (hg : ∀ (s : Shared) (H : Hp) (C : Addr) (cl : List (Str × Addr)) (fp : List Addr), PG (X.blk s H scope (compEnvC scope cl C X.env) fp) tg (tTg G Z W us t)) (ht : ∀ (s : Shared) (H : Hp) (C : Addr) (cl : List (Str × Addr)) (fp : List Addr), PTs (X.blk s H scope (compEnvC scope cl C X.env) fp) ifs tt)
    (hq : ∀ σ H Q, tEt G Z W q σ H Q → tt σ H Q)
    (he : ∀ (s : Shared) (H : Hp) (C : Addr) (cl : List (Str × Addr)) (fp : List Addr), PE (X.blk s H scope (compEnvC scope cl C X.env) fp) e (tEx G Z W f)) (hu : ∀ i ∈ us, i ∈ own.map (·.2) := by decide) (hs : ∀ x, foldedSetIterable iter X.env x = pure x := by intro _; rfl) :
    PE X (.ListComp e [⟨tg, iter, ifs, 0⟩] scope pos) (tNl G Z W (lcF fi t q f (own.map (·.2)))) :=
  imp_pe (pe_lc hc hN hi ok hg ht he hs) fun σ H Q ⟨B, O, ρ, s, d, s', eo, hR, hf, k⟩ => lc_new hu hq eo hR hf k
theorem yes_of {σ : L2.St} {H : Hp} {Q : Bool → Hp → Prop} (h : tEt G Z W qYes σ H Q) : tYes σ H Q := by
  obtain ⟨B, O, ρ, s, d, s', eo, hR, hf, q⟩ := h
  cases hf
  exact q H (Lc.Fr.refl H) hR
/-- name = [..], the name no own list -/
theorem es_setLc {i : Nat} {y : Str} {py : Pos} {iter : Expr} {ifs : List Expr} {scope : Scope} {own : List (Str × Nat)} {spos : Pos} {fi : Ea S} {t : Tg} {us : List Nat} {q : Et S} {tt : TT} (hc : X.calm = true) (hN : X.N.Nodup) (hy : X.N[i]? = some y) (hyl : X.env.scope.names.lookup y = some .local)
    (hsw : swapsWith (.ListComp e [⟨tg, iter, ifs, 0⟩] scope pos) (some (.Name y py)) spos.line X.env = pure true) (hi : PI X tg iter (tIt G Z W fi)) (ok : BlkOk X.N X.env.scope scope own)
    (hg : ∀ (s : Shared) (H : Hp) (C : Addr) (cl : List (Str × Addr)) (fp : List Addr), PG (X.blk s H scope (compEnvC scope cl C X.env) fp) tg (tTg G Z W us t)) (ht : ∀ (s : Shared) (H : Hp) (C : Addr) (cl : List (Str × Addr)) (fp : List Addr), PTs (X.blk s H scope (compEnvC scope cl C X.env) fp) ifs tt)
    (hq : ∀ σ H Q, tEt G Z W q σ H Q → tt σ H Q)
    (he : ∀ (s : Shared) (H : Hp) (C : Addr) (cl : List (Str × Addr)) (fp : List Addr), PE (X.blk s H scope (compEnvC scope cl C X.env) fp) e (tEx G Z W f)) (hw : W.contains i = false := by rfl) (hu : ∀ i ∈ us, i ∈ own.map (·.2) := by decide) (hs : ∀ x, foldedSetIterable iter X.env x = pure x := by intro _; rfl) :
    PS X (.Assign [.Name y py] (.ListComp e [⟨tg, iter, ifs, 0⟩] scope pos) spos) (tSt G Z W (sSet i (cNl (lcF fi t q f (own.map (·.2)))))) :=
  imp_ps (ps_setLc hc hN hy hyl hsw hi ok hg ht he hs) fun E σ H ⟨B, H0, O, ρ, s, r, s', sr, hf, k⟩ => by
    unfold sSet cNl at hf
    obtain ⟨d, s1, h1, hf⟩ := bnd_some hf
    obtain ⟨y, s2, h2, h1⟩ := bnd_some h1
    cases h1
    cases hf
    refine lc_new hu hq sr.eo sr.r h2 fun p vs H' hp f1 h2 h3 R1 => ?_
    have sr1 := sr.step f1 R1
    refine k O _ H' ⟨sr1.eo.set (by simpa using hw) ?_, sr1.fr, sr1.b0, sr1.o0, R1⟩ (Ch.of f1)
    simp only [Rep]
    exact ⟨p, vs, rfl, h2, sr.eo.new hp, h3.sub fun a z _ => z.elim (fun z => .inl (.inl z)) .inr⟩
/-- an own slot is set to a new list -/
theorem Sr.own {B O : Bar} {H0 H H' : Hp} {σ : L2.St} {ρ : Rho} {s s' : S} {P : Addr} {vs : List V} {ds : List D} {i : Nat} (sr : Sr G Z W B H0 O H σ ρ s) (hi : i ∈ W) (hp : H P = none) (f1 : Lc.Fr Z.M H H') (h1 : H' P = some (.lst vs))
    (h2 : Reps G (fun a => (B a ∨ a = P) ∨ O a) H' ds vs) (R1 : Z.R H' s') : Sr G Z W B H0 (fun a => O a ∨ a = P) H' (σ.set i (some (.ref P))) (ρ.set i (some (.list ds))) s' ∧ Ch Z O (fun a => O a ∨ a = P) H H' := by
  have eo1 := sr.eo.fr f1
  have nB : ¬ B P := fun z => sr.eo.bd P z hp
  have k : ∀ a o, H a = some o → ¬ (B a ∨ O a) → H' a = some o ∧ ¬ (B a ∨ (O a ∨ a = P)) := fun a o e n =>
    ⟨f1.at e fun z => n (.inl (sr.mb a z)), fun z => n (z.elim .inl fun z => z.elim .inr fun z => absurd z (ne_of_none e hp))⟩
  obtain ⟨om, o1, o2⟩ := sr.eo.er.ow
  refine ⟨⟨⟨?_, eo1.bd, fun a z => ?_, sr.mb, fun a z => ?_⟩, sr.fr.trans f1, sr.b0, fun a z => ?_, R1⟩, ⟨fun b o e => ?_, fun _ z => .inl z, fun a z => ?_⟩⟩
  · have base : Er G W B (fun a => O a ∨ a = P) H' (σ.set i (some (.ref P))) (ρ.set i (some (.list ds))) := by
      have e' : Er G W B O H' σ ρ := eo1.er
      -- the old slots, by what they were in H
      refine ⟨by simp [e'.len], fun j d hj hd => ?_, ?_⟩
      · have ne : i ≠ j := fun z => hj (z ▸ hi)
        rw [List.getElem?_set_ne ne] at hd
        obtain ⟨v, h3, h4⟩ := sr.eo.er.pl j d hj hd
        exact ⟨v, by rw [List.getElem?_set_ne ne]; exact h3, h4.mv k⟩
      · have at_ : ∀ j d, (ρ.set i (some (.list ds)))[j]? = some (some d) → (j = i ∧ i < ρ.length ∧ d = .list ds) ∨ (j ≠ i ∧ ρ[j]? = some (some d)) := fun j d hd => by
          by_cases hij : i = j
          · subst hij
            rw [List.getElem?_set] at hd
            simp only [if_true] at hd
            split at hd
            · cases hd
              exact .inl ⟨rfl, by assumption, rfl⟩
            · cases hd
          · rw [List.getElem?_set_ne hij] at hd
            exact .inr ⟨Ne.symm hij, hd⟩
        have old : ∀ j d, j ∈ W → ρ[j]? = some (some d) → om j ≠ P := fun j d hj hd z => by
          obtain ⟨ds', vs', a1, a2, a3, a4, a5⟩ := o2 j d hj hd
          rw [z, hp] at a4
          cases a4
        refine ⟨fun j => if j = i then P else om j, fun j m d d' hj hm hd hd' hh => ?_, fun j d hj hd => ?_⟩
        · rcases at_ j d hd with ⟨z1, z2, z3⟩ | ⟨z1, z2⟩
          · rcases at_ m d' hd' with ⟨y1, y2, y3⟩ | ⟨y1, y2⟩
            · rw [z1, y1]
            · simp only [if_pos z1, if_neg y1] at hh
              exact absurd hh.symm (old m d' hm y2)
          · rcases at_ m d' hd' with ⟨y1, y2, y3⟩ | ⟨y1, y2⟩
            · simp only [if_neg z1, if_pos y1] at hh
              exact absurd hh (old j d hj z2)
            · simp only [if_neg z1, if_neg y1] at hh
              exact o1 j m d d' hj hm z2 y2 hh
        · rcases at_ j d hd with ⟨rfl, z2, rfl⟩ | ⟨z1, z2⟩
          · simp only [if_true]
            refine ⟨ds, vs, rfl, ?_, (by first | exact .inr rfl | exact .inr trivial), h1, h2.sub fun a z _ => z.elim (fun z => .inl (.inl z)) fun z => z.elim .inr fun z => .inl (.inr z)⟩
            rw [List.getElem?_set_self (by rw [e'.len]; exact z2)]
          · simp only [if_neg z1]
            obtain ⟨ds', vs', a1, a2, a3, a4, a5⟩ := o2 j d hj z2
            exact ⟨ds', vs', a1, by rw [List.getElem?_set_ne (Ne.symm z1)]; exact a2, .inl a3, f1.at a4 fun z => sr.eo.ob _ a3 (sr.mb _ z), a5.mv k⟩
    exact base
  · rcases z with z | rfl
    · exact eo1.ol a z
    · exact ⟨vs, h1⟩
  · rcases z with z | rfl
    · exact sr.eo.ob a z
    · exact nB
  · rcases z with z | rfl
    · exact sr.o0 a z
    · exact sr.fr.free hp
  · obtain ⟨o', q1, q2⟩ := f1 b o e
    exact ⟨o', q1, fun n => q2 fun z => n (.inl z)⟩
  · rcases z with z | rfl
    · exact .inl z
    · exact .inr hp
def sOwn (i : Nat) (f : Ea S) : Sv S := fun ρ s => bnd (f ρ s) fun ds s => some (.nx (ρ.set i (some (.list ds))), s)
theorem es_own {i : Nat} {pos' : Pos} (hN : X.N.Nodup) (hi : X.N[i]? = some x) (hx : Loc X.env.scope x) (he : PE X e (tNl G Z W fa)) (hw : W.contains i = true := by rfl) (hs : swapsWith e (some (.Name x pos')) pos.line X.env = pure false := by rfl) (hf : X.fn x = true ∨ X.env.scope.names.lookup x = some .local := by first | exact .inl rfl | exact .inr rfl | assumption) :
    PS X (.Assign [.Name x pos'] e pos) (tSt G Z W (sOwn i fa)) :=
  imp_ps (ps_set hN hi hx he hs hf) fun E σ H ⟨B, H0, O, ρ, s, r, s', sr, hf, q⟩ => by
    unfold sOwn at hf
    obtain ⟨d, s1, h1, hf⟩ := bnd_some hf
    cases hf
    refine ⟨B, O, ρ, s, d, _, sr.eo, sr.r, h1, fun p vs H' hp f1 h2 h3 R1 => ?_⟩
    obtain ⟨sr2, ch2⟩ := sr.own (i := i) (by simpa using hw) hp f1 h2 h3 R1
    exact q _ _ H' sr2 ch2
theorem es_ownLc {i : Nat} {y : Str} {py : Pos} {iter : Expr} {ifs : List Expr} {scope : Scope} {own : List (Str × Nat)} {spos : Pos} {fi : Ea S} {t : Tg} {us : List Nat} {q : Et S} {tt : TT} (hc : X.calm = true) (hN : X.N.Nodup) (hy : X.N[i]? = some y) (hyl : X.env.scope.names.lookup y = some .local)
    (hsw : swapsWith (.ListComp e [⟨tg, iter, ifs, 0⟩] scope pos) (some (.Name y py)) spos.line X.env = pure true) (hi : PI X tg iter (tIt G Z W fi)) (ok : BlkOk X.N X.env.scope scope own)
    (hg : ∀ (s : Shared) (H : Hp) (C : Addr) (cl : List (Str × Addr)) (fp : List Addr), PG (X.blk s H scope (compEnvC scope cl C X.env) fp) tg (tTg G Z W us t)) (ht : ∀ (s : Shared) (H : Hp) (C : Addr) (cl : List (Str × Addr)) (fp : List Addr), PTs (X.blk s H scope (compEnvC scope cl C X.env) fp) ifs tt)
    (hq : ∀ σ H Q, tEt G Z W q σ H Q → tt σ H Q)
    (he : ∀ (s : Shared) (H : Hp) (C : Addr) (cl : List (Str × Addr)) (fp : List Addr), PE (X.blk s H scope (compEnvC scope cl C X.env) fp) e (tEx G Z W f)) (hw : W.contains i = true := by rfl) (hu : ∀ i ∈ us, i ∈ own.map (·.2) := by decide) (hs : ∀ x, foldedSetIterable iter X.env x = pure x := by intro _; rfl) :
    PS X (.Assign [.Name y py] (.ListComp e [⟨tg, iter, ifs, 0⟩] scope pos) spos) (tSt G Z W (sOwn i (lcF fi t q f (own.map (·.2))))) :=
  imp_ps (ps_setLc hc hN hy hyl hsw hi ok hg ht he hs) fun E σ H ⟨B, H0, O, ρ, s, r, s', sr, hf, k⟩ => by
    unfold sOwn at hf
    obtain ⟨d, s1, h1, hf⟩ := bnd_some hf
    cases hf
    refine lc_new hu hq sr.eo sr.r h1 fun p vs H' hp f1 h2 h3 R1 => ?_
    obtain ⟨sr2, ch2⟩ := sr.own (i := i) (by simpa using hw) hp f1 h2 h3 R1
    exact k _ _ H' sr2 ch2
/-- the own list of slot i becomes another one -/
theorem Sr.mut {B O : Bar} {H0 H : Hp} {σ : L2.St} {ρ : Rho} {s : S} {i : Nat} {d : D} (sr : Sr G Z W B H0 O H σ ρ s) (hi : i ∈ W) (hd : ρ[i]? = some (some d)) : ∃ P ds vs, d = .list ds ∧ σ[i]? = some (some (.ref P)) ∧ H P = some (.lst vs) ∧ Reps G (fun a => B a ∨ O a) H ds vs ∧ O P ∧
    ∀ es us, Reps G (fun a => B a ∨ O a) H es us → Sr G Z W B H0 O (upd H P (.lst us)) σ (ρ.set i (some (.list es))) s ∧ Ch Z O O H (upd H P (.lst us)) := by
  obtain ⟨om, o1, o2⟩ := sr.eo.er.ow
  obtain ⟨ds, vs, a1, a2, a3, a4, a5⟩ := o2 i d hi hd
  refine ⟨om i, ds, vs, a1, a2, a4, a5, a3, fun es us hr => ?_⟩
  have k : ∀ a o, H a = some o → ¬ (B a ∨ O a) → upd H (om i) (.lst us) a = some o ∧ ¬ (B a ∨ O a) := fun a o e n => ⟨by rw [upd_ne fun z => n (.inr (by rw [z]; exact a3))]; exact e, n⟩
  have nM : ∀ a, Z.M a → a ≠ om i := fun a z y => sr.eo.ob _ a3 (sr.mb _ (by rw [← y]; exact z))
  have hl : i < ρ.length := by
    rcases Nat.lt_or_ge i ρ.length with h | h
    · exact h
    · rw [List.getElem?_eq_none h] at hd; cases hd
  refine ⟨⟨⟨⟨by simp [sr.eo.er.len], fun j d' hj hd' => ?_, om, ?_, ?_⟩, fun a z => ?_, fun a z => ?_, sr.mb, sr.eo.ob⟩, ?_, sr.b0, sr.o0, Z.loc H _ s sr.r fun a z => upd_ne (nM a z)⟩, ⟨Lc.Fr.mut (.inr a3), fun _ z => z, fun _ z => .inl z⟩⟩
  · have ne : i ≠ j := fun z => hj (z ▸ hi)
    rw [List.getElem?_set_ne ne] at hd'
    obtain ⟨v, h3, h4⟩ := sr.eo.er.pl j d' hj hd'
    exact ⟨v, h3, h4.mv k⟩
  · intro j m e1 e2 hj hm h1 h2 hh
    have g : ∀ j e, (ρ.set i (some (.list es)))[j]? = some (some e) → ∃ e', ρ[j]? = some (some e') := fun j e h => by
      by_cases hij : i = j
      · subst hij; exact ⟨d, hd⟩
      · rw [List.getElem?_set_ne hij] at h; exact ⟨e, h⟩
    obtain ⟨e1', h1⟩ := g j e1 h1
    obtain ⟨e2', h2⟩ := g m e2 h2
    exact o1 j m e1' e2' hj hm h1 h2 hh
  · intro j e hj h
    by_cases hij : i = j
    · subst hij
      rw [List.getElem?_set_self hl] at h
      cases h
      exact ⟨es, us, rfl, a2, a3, upd_same, hr.mv k⟩
    · rw [List.getElem?_set_ne hij] at h
      obtain ⟨ds', vs', b1, b2, b3, b4, b5⟩ := o2 j e hj h
      have ne : om j ≠ om i := fun z => hij (o1 j i e d hj hi h hd z).symm
      exact ⟨ds', vs', b1, b2, b3, by rw [upd_ne ne]; exact b4, b5.mv k⟩
  · by_cases hq : a = om i
    · subst hq; rw [upd_same]; simp
    · rw [upd_ne hq]; exact sr.eo.bd a z
  · by_cases hq : a = om i
    · subst hq; exact ⟨us, upd_same⟩
    · obtain ⟨ws, hw⟩ := sr.eo.ol a z
      exact ⟨ws, by rw [upd_ne hq]; exact hw⟩
  · exact Lc.Fr.own sr.fr (sr.o0 _ a3)
def sApp (i : Nat) (f : Ev S) : Sv S := fun ρ s => match ρ[i]? with
  | some (some (.list ds)) => bnd (f ρ s) fun d s => if ds.length < sizeLine then some (.nx (ρ.set i (some (.list (ds ++ [d])))), s) else none
  | _ => none
theorem es_app {i : Nat} {apos cpos : Pos} {px : Pos} (hN : X.N[i]? = some x) (hv : Vis X.env.scope x) (he : PE X e (tEx G Z W f)) (h : PS X (.Expr (.Call (.Attribute (.Name x px) "append" apos) [e] [] cpos) pos) (tDrop (tBM X.K "list" rAppend (tVar i) (tCons (tEx G Z W f) tNil)))) (hw : W.contains i = true := by rfl) :
    PS X (.Expr (.Call (.Attribute (.Name x px) "append" apos) [e] [] cpos) pos) (tSt G Z W (sApp i f)) :=
  imp_ps h fun E σ H ⟨B, H0, O, ρ, s, r, s', sr, hf, q⟩ => by
    unfold sApp at hf
    split at hf
    · rename_i ds hd
      obtain ⟨d, s1, h1, hf⟩ := bnd_some hf
      split at hf
      · rename_i hl
        cases hf
        have hi : i ∈ W := by simpa using hw
        obtain ⟨P, ds', vs, hds, a2, a4, a5, a3, mu⟩ := sr.mut hi hd
        refine ⟨.ref P, a2, .inl ⟨rfl, vs, .inl (.inl a4)⟩, B, O, ρ, s, d, _, sr.eo, sr.r, h1, fun v H1 f1 r1 R1 => ?_⟩
        have sr1 := sr.step f1 R1
        obtain ⟨P1, ds1, vs1, hds1, b2, b4, b5, b3, mu1⟩ := sr1.mut hi hd
        rw [a2] at b2
        cases b2
        cases hds1
        refine ⟨P, vs1, v, rfl, rfl, b4, by rw [b5.len]; exact hl, ?_⟩
        obtain ⟨sr2, ch2⟩ := mu1 (ds ++ [d]) (vs1 ++ [v]) (b5.append (Reps.cons r1 Reps.nil))
        exact q O σ _ sr2 ((Ch.of f1).trans ch2)
      · cases hf
    · cases hf
def sExt (i : Nat) (f : Ev S) : Sv S := fun ρ s => match ρ[i]? with
  | some (some (.list ds)) => bnd (f ρ s) fun d s => match d with
    | .list es => if ds.length + es.length ≤ sizeLine then some (.nx (ρ.set i (some (.list (ds ++ es)))), s) else none
    | _ => none
  | _ => none
/-! ### a def -/
def startR (n : Nat) (ds : List D) : Rho := ds.map some ++ List.replicate (n - ds.length) none
/-- what a def computes: its body over n slots -/
def fnD (n : Nat) (F : Sv S) : Fn S := fun ds s => match F (startR n ds) s with
  | some (.rt d, s') => some (d, s')
  | some (.nx _, s') => some (.none, s')
  | _ => none
theorem eo_start {B : Bar} {H : Hp} {N : List Str} {vs : List V} {ds : List D} {n : Nat} (hn : N.length = n) (bd : ∀ a, B a → H a ≠ none) (mb : ∀ a, Z.M a → B a) (hr : Reps G B H ds vs) (hl : ds.length ≤ n) (hW : ∀ i ∈ W, ds.length ≤ i) : Eo G Z W B (fun _ => False) H (L2.start N vs) (startR n ds) where
  er := by
    have len := hr.len
    refine ⟨by unfold L2.start startR; simp [len, hn], fun i d hi hd => ?_, fun _ => 0, ?_, ?_⟩
    · unfold startR at hd
      by_cases h : i < ds.length
      · rw [List.getElem?_append_left (by simpa using h), List.getElem?_map] at hd
        cases hd' : ds[i]? with
        | none => rw [hd'] at hd; cases hd
        | some d' =>
          rw [hd'] at hd
          cases hd
          obtain ⟨v, h1, h2⟩ := hr.get hd'
          refine ⟨v, ?_, h2.sub fun a z _ => z.elim id False.elim⟩
          unfold L2.start
          rw [List.getElem?_append_left (by simpa [len] using h), List.getElem?_map, h1]
          rfl
      · rw [List.getElem?_append_right (by simpa using h), List.getElem?_replicate] at hd
        split at hd <;> cases hd
    · intro i j d e hi hj hd
      exfalso
      have := hW i hi
      unfold startR at hd
      rw [List.getElem?_append_right (by simpa using this), List.getElem?_replicate] at hd
      split at hd <;> cases hd
    · intro i d hi hd
      exfalso
      have := hW i hi
      unfold startR at hd
      rw [List.getElem?_append_right (by simpa using this), List.getElem?_replicate] at hd
      split at hd <;> cases hd
  bd := bd
  ol := fun _ z => z.elim
  mb := mb
  ob := fun _ z => z.elim
variable {P : Program} {w : World} {K : PySem.W.Frag} {mg : Str → Option Value} {base : Heap}
/-- THE RULE: a def whose body reads as F computes fnD F -/
theorem fn_ok {nm qual : Str} {st : Stmt} {fad : Addr} {fd : FuncData} {N ps : List Str} {k n m : Nat} (U : Fun K nm qual st fad fd) (sc : FnScope N ps (defScope st)) (hn : N.length = n) (hm : ps.length = m) (hmn : m ≤ n) (hW : ∀ i ∈ W, m ≤ i)
    (hb : ∀ (cdv : Value) (A : Around) (outer : List Env) (s : Shared) (H : Hp) (E : XK), Room k (A.deeper (envOfC qual (defScope st) s.heap.objs.size fad cdv)) → PSs (cxOf CX0 P w K mg base N qual (defScope st) fad cdv A outer s H E).nox (defBody st) (tSt G Z W F)) :
    FnOk P w K mg base CX0 (k + 1) fad fd ps (spD G Z m (fnD n F)) := by
  refine U.ok sc (fun vs H Q E h => ?_) (fun cdv A outer s H vs Q E hr h => ⟨_, hb cdv A outer s H E hr, ?_⟩)
  · obtain ⟨B, ds, s, d, s', h1, _, _, h2, _⟩ := h
    rw [h2.len, h1, hm]
  · obtain ⟨B, ds, s0, d, s', h1, bd, mb, h2, R0, hF, q⟩ := h
    have eo := eo_start (W := W) (Z := Z) (N := N) hn bd mb h2 (by omega) (by rw [h1]; exact hW)
    unfold fnD at hF
    have sr : Sr G Z W B H (fun _ => False) H (L2.start N vs) (startR n ds) s0 := ⟨eo, Lc.Fr.refl H, bd, fun _ z => z.elim, R0⟩
    split at hF
    · rename_i d' s1 e1
      cases hF
      exact ⟨B, H, fun _ => False, startR n ds, s0, .rt d, _, sr, e1, q⟩
    · rename_i ρ' s1 e1
      cases hF
      exact ⟨B, H, fun _ => False, startR n ds, s0, .nx ρ', _, sr, e1, fun O' σ' H' sr' _ => q .non H' sr'.fr (by simp only [Rep]) sr'.r⟩
    · cases hF
end
end Dl
set_option Elab.async false
set_option linter.all false
set_option maxRecDepth 100000
set_option maxHeartbeats 4000000
namespace Dl
open PySem PySem.Spec PyProof.Rows L2
/-! ### operators on data -/
def orR (r1 r2 : R2) : R2 := fun x y H Q => r1 x y H Q ∨ r2 x y H Q
theorem or_op {X : Cx} {f : Value → Value → Sem Value} {r1 r2 : R2} (h1 : OpR X f r1) (h2 : OpR X f r2) : OpR X f (orR r1 r2) := fun pins s σ H x y v u Q I rx ry h => h.elim (h1 pins s σ H x y v u Q I rx ry) (h2 pins s σ H x y v u Q I rx ry)
def orC (r1 r2 : List V → Hp → VK → Prop) : List V → Hp → VK → Prop := fun x H Q => r1 x H Q ∨ r2 x H Q
theorem or_ca {X : Cx} {f : Value} {r1 r2 : List V → Hp → VK → Prop} (h1 : CallR X f r1) (h2 : CallR X f r2) : CallR X f (orC r1 r2) := fun pins s σ H x v Q I rx h => h.elim (h1 pins s σ H x v Q I rx) (h2 pins s σ H x v Q I rx)
theorem or_ix {X : Cx} {r1 r2 : R2} (h1 : IxR X r1) (h2 : IxR X r2) : IxR X (orR r1 r2) := h1.or h2
def pAdd : D → D → Option D
  | .int i, .int j => some (.int (i + j))
  | .str a, .str b => if a.length + b.length ≤ sizeLine then some (.str (a ++ b)) else none
  | .list a, .list b => if a.length + b.length ≤ sizeLine then some (.list (a ++ b)) else none
  | .tuple a, .tuple b => if a.length + b.length ≤ sizeLine then some (.tuple (a ++ b)) else none
  | _, _ => none
abbrev rAddD (K : PySem.W.Frag) : R2 := orR (rI0 fun i j => .int (i + j)) (orR (fun x y H Q => ∃ i j, x = .str i ∧ y = .str j ∧ i.length + j.length ≤ sizeLine ∧ Q (.str (i ++ j)) H) (orR rCat (rCatA K)))
theorem od_add {X : Cx} : OpR X (binaryOp .Add) (rAddD X.K) := or_op op_add (or_op op_add_str (or_op op_cat op_catA))
theorem nb_of {B : Bar} {H : Hp} {p : Addr} (bd : ∀ a, B a → H a ≠ none) (hp : H p = none) : ¬ B p := fun z => bd p z hp
section
variable {G : Kx} {B : Bar} {H : Hp}
/-- a new list, a new tuple -/
theorem rep_lst {p : Addr} {vs : List V} {ds : List D} (bd : ∀ a, B a → H a ≠ none) (hp : H p = none) (h : Reps G B H ds vs) : Rep G B (upd H p (.lst vs)) (.list ds) (.ref p) := by
  simp only [Rep]
  exact ⟨p, vs, rfl, upd_same, nb_of bd hp, h.same (Lc.same_new hp)⟩
theorem rep_tup {p : Addr} {vs : List V} {ds : List D} (bd : ∀ a, B a → H a ≠ none) (hp : H p = none) (h : Reps G B H ds vs) : Rep G B (upd H p (.tup vs)) (.tuple ds) (.ref p) := by
  simp only [Rep]
  exact ⟨p, vs, rfl, .inl ⟨upd_same, nb_of bd hp⟩, h.same (Lc.same_new hp)⟩
theorem reps_nil_iff {vs : List V} (h : Reps G B H [] vs) : vs = [] := by simpa only [Reps] using h
theorem reps_ne {ds : List D} {vs : List V} (h : Reps G B H ds vs) : (vs = [] ↔ ds = []) := by
  have := h.len
  cases ds <;> cases vs <;> simp_all
end
theorem os_add {G : Kx} : OpS G (rAddD G.K) pAdd := by
  intro B H x y dx dy d Q bd hx hy hp q
  unfold pAdd at hp
  split at hp
  · cases hp
    simp only [Rep] at hx hy
    subst hx hy
    exact .inl ⟨_, _, rfl, rfl, q _ H (Same.refl H) (by simp only [Rep])⟩
  · split at hp
    · cases hp
      simp only [Rep] at hx hy
      subst hx hy
      exact .inr (.inl ⟨_, _, rfl, rfl, by assumption, q _ H (Same.refl H) (by simp only [Rep])⟩)
    · cases hp
  · split at hp
    · cases hp
      obtain ⟨a, us, rfl, h1, _, h2⟩ := hx.sqL
      obtain ⟨b, vs, rfl, h3, _, h4⟩ := hy.sqL
      exact .inr (.inr (.inl ⟨a, b, us, vs, rfl, rfl, h1, h3, by rw [h2.len, h4.len]; assumption, fun p hp => q _ _ (Lc.same_new hp) (rep_lst bd hp (h2.append h4))⟩))
    · cases hp
  · split at hp
    · cases hp
      rename_i as bs hsz
      obtain ⟨a, us, rfl, h1, h2⟩ := hx.sqT
      obtain ⟨b, vs, rfl, h3, h4⟩ := hy.sqT
      refine .inr (.inr (.inr ⟨a, b, us, vs, rfl, rfl, h1, h3, by rw [h2.len, h4.len]; assumption, fun e => ?_, fun _ e => ?_, fun _ _ p hp => q _ _ (Lc.same_new hp) (rep_tup bd hp (h2.append h4))⟩))
      · have : as = [] := (reps_ne h2).mp e
        subst this
        exact q _ H (Same.refl H) hy
      · have : bs = [] := (reps_ne h4).mp e
        subst this
        rw [List.append_nil] at q
        exact q _ H (Same.refl H) hx
    · cases hp
  · cases hp
/-- two dInts in -/
def pI (C : Int → Int → Bool) (g : Int → Int → D) : D → D → Option D
  | .int i, .int j => if C i j = true then some (g i j) else none
  | _, _ => none
theorem os_I {G : Kx} {C : Int → Int → Prop} {c : Int → Int → Bool} {g : Int → Int → V} {g' : Int → Int → D} (hc : ∀ i j, c i j = true → C i j) (hg : ∀ B H i j, Rep G B H (g' i j) (g i j)) : OpS G (rI C g) (pI c g') := by
  intro B H x y dx dy d Q bd hx hy hp q
  unfold pI at hp
  split at hp
  · split at hp
    · cases hp
      simp only [Rep] at hx hy
      subst hx hy
      exact ⟨_, _, rfl, rfl, hc _ _ (by assumption), q _ H (Same.refl H) (hg B H _ _)⟩
    · cases hp
  · cases hp
def pI0 (g : Int → Int → D) : D → D → Option D
  | .int i, .int j => some (g i j)
  | _, _ => none
theorem os_I0 {G : Kx} {g : Int → Int → V} {g' : Int → Int → D} (hg : ∀ B H i j, Rep G B H (g' i j) (g i j)) : OpS G (rI0 g) (pI0 g') := by
  intro B H x y dx dy d Q bd hx hy hp q
  unfold pI0 at hp
  split at hp
  · cases hp
    simp only [Rep] at hx hy
    subst hx hy
    exact ⟨_, _, rfl, rfl, q _ H (Same.refl H) (hg B H _ _)⟩
  · cases hp
def pSub : D → D → Option D := pI0 fun i j => .int (i - j)
theorem os_sub {G : Kx} : OpS G (rI0 fun i j => .int (i - j)) pSub := os_I0 fun B H i j => by simp only [Rep]
def pMul : D → D → Option D := pI (fun i j => decide (i.natAbs.log2 + j.natAbs.log2 < 1000000)) fun i j => .int (i * j)
theorem os_mul {G : Kx} : OpS G (rI CMulW fun i j => .int (i * j)) pMul := os_I (fun i j h => show i.natAbs.log2 + j.natAbs.log2 < 1000000 from of_decide_eq_true h) fun B H i j => by simp only [Rep]
def pMod : D → D → Option D := pI (fun _ j => decide (0 < j)) fun i j => .int (i % j)
theorem os_mod {G : Kx} : OpS G (rI (fun _ j => 0 < j) fun i j => .int (i % j)) pMod := os_I (fun i j h => of_decide_eq_true h) fun B H i j => by simp only [Rep]
def pFdiv : D → D → Option D := pI (fun i j => decide (0 < j ∧ j.natAbs.log2 < 9000)) fun i j => .int (i / j)
theorem os_fdiv {G : Kx} : OpS G (rI CDivW fun i j => .int (i / j)) pFdiv := os_I (fun i j h => show 0 < j ∧ j.natAbs.log2 < 9000 from of_decide_eq_true h) fun B H i j => by simp only [Rep]
def pPow : D → D → Option D := pI (fun i j => decide (0 ≤ j ∧ j ≤ 1000000 ∧ i.natAbs < 2 ^ 64)) fun i j => .int (i ^ j.toNat)
theorem os_pow {G : Kx} : OpS G (rI CPow fun i j => .int (i ^ j.toNat)) pPow := os_I (fun i j h => show 0 ≤ j ∧ j ≤ 1000000 ∧ i.natAbs < 2 ^ 64 from of_decide_eq_true h) fun B H i j => by simp only [Rep]
def pBand : D → D → Option D := pI0 fun i j => .int (Builtin.bitAnd i j)
theorem os_band {G : Kx} : OpS G (rI0 fun i j => .int (Builtin.bitAnd i j)) pBand := os_I0 fun B H i j => by simp only [Rep]
def pShr : D → D → Option D := pI (fun _ j => decide (0 ≤ j)) fun i j => .int (i / 2 ^ j.toNat)
theorem os_shr {G : Kx} : OpS G (rI (fun _ j => 0 ≤ j) fun i j => .int (i / 2 ^ j.toNat)) pShr := os_I (fun i j h => of_decide_eq_true h) fun B H i j => by simp only [Rep]
/-! ### comparisons -/
def pEq : D → D → Option D
  | .int i, .int j => some (.bool (decide (i = j)))
  | .str i, .str j => some (.bool (decide (i = j)))
  | .bool i, .bool j => some (.bool (decide (i = j)))
  | .list a, .list [] => some (.bool a.isEmpty)
  | .tuple a, .tuple [] => some (.bool a.isEmpty)
  | x, y => if SeqAt.shaped x = true ∧ SeqAt.shaped y = true then some (.bool (PyData.eqv x y)) else none
def pNe (x y : D) : Option D := match pEq x y with
  | some (.bool b) => some (.bool (!b))
  | _ => none
abbrev rEqA (K : PySem.W.Frag) : R2 := orR rEq (orR (Lc.rEqNil K false) (orR (Lc.rEqNilT K false) (rEqD K)))
abbrev rNeA (K : PySem.W.Frag) : R2 := orR rNe (orR (Lc.rEqNil K true) (orR (Lc.rEqNilT K true) (rNeD K)))
theorem od_eq {X : Cx} (hu : X.A.units + 64 < cLine) : OpR X (compareOp .Eq) (rEqA X.K) := or_op op_eq (or_op (Lc.op_eqNil (by omega)) (or_op (Lc.op_eqNilT (by omega)) (op_eqD hu)))
theorem od_ne {X : Cx} (hu : X.A.units + 64 < cLine) : OpR X (compareOp .NotEq) (rNeA X.K) := or_op op_ne (or_op (Lc.op_neNil (by omega)) (or_op (Lc.op_neNilT (by omega)) (op_neD hu)))
theorem isEmpty_reps {G : Kx} {B : Bar} {H : Hp} {ds : List D} {vs : List V} (h : Reps G B H ds vs) : vs.isEmpty = ds.isEmpty := by
  have := h.len
  cases ds <;> cases vs <;> simp_all
theorem eq_core {G : Kx} {B : Bar} {H : Hp} {x y : V} {dx dy : D} {b : Bool} (hx : Rep G B H dx x) (hy : Rep G B H dy y) (hp : pEq dx dy = some (.bool b)) :
    (scal x y = true ∧ decide (x = y) = b) ∨ (∃ p q xs, x = .ref p ∧ y = .ref q ∧ SqL G.K H p xs ∧ SqL G.K H q [] ∧ xs.isEmpty = b) ∨ (∃ p q xs, x = .ref p ∧ y = .ref q ∧ SqT G.K H p xs ∧ SqT G.K H q [] ∧ xs.isEmpty = b) ∨
      (∃ d e, Dp G.K H x d ∧ Dp G.K H y e ∧ SeqAt.shaped d = true ∧ SeqAt.shaped e = true ∧ PyData.eqv d e = b) := by
  unfold pEq at hp
  split at hp
  · cases hp
    simp only [Rep] at hx hy
    subst hx hy
    exact .inl ⟨rfl, by simp only [V.int.injEq]⟩
  · cases hp
    simp only [Rep] at hx hy
    subst hx hy
    exact .inl ⟨rfl, by simp only [V.str.injEq]⟩
  · cases hp
    simp only [Rep] at hx hy
    subst hx hy
    exact .inl ⟨rfl, by simp only [V.bl.injEq]⟩
  · cases hp
    obtain ⟨p, xs, rfl, _, h1, h2⟩ := hx.sqL
    obtain ⟨q, ys, rfl, _, h3, h4⟩ := hy.sqL
    rw [reps_nil_iff h4] at h3
    exact .inr (.inl ⟨p, q, xs, rfl, rfl, h1, h3, isEmpty_reps h2⟩)
  · cases hp
    obtain ⟨p, xs, rfl, h1, h2⟩ := hx.sqT
    obtain ⟨q, ys, rfl, h3, h4⟩ := hy.sqT
    rw [reps_nil_iff h4] at h3
    exact .inr (.inr (.inl ⟨p, q, xs, rfl, rfl, h1, h3, isEmpty_reps h2⟩))
  · split at hp
    · rename_i h
      cases hp
      exact .inr (.inr (.inr ⟨_, _, hx.dp _ _ (SeqAt.canLay_of_shaped h.1), hy.dp _ _ (SeqAt.canLay_of_shaped h.2), h.1, h.2, rfl⟩))
    · cases hp
theorem pEq_bool {x y z : D} (h : pEq x y = some z) : ∃ k, z = .bool k := by
  unfold pEq at h
  split at h
  · cases h; exact ⟨_, rfl⟩
  · cases h; exact ⟨_, rfl⟩
  · cases h; exact ⟨_, rfl⟩
  · cases h; exact ⟨_, rfl⟩
  · cases h; exact ⟨_, rfl⟩
  · split at h
    · cases h; exact ⟨_, rfl⟩
    · cases h
theorem pNe_bool {x y z : D} (h : pNe x y = some z) : ∃ k, z = .bool k := by
  unfold pNe at h
  split at h
  · cases h; exact ⟨_, rfl⟩
  · cases h
theorem os_eq {G : Kx} : OpS G (rEqA G.K) pEq := by
  intro B H x y dx dy d Q bd hx hy hp q
  obtain ⟨b, rfl⟩ := pEq_bool hp
  have q := q (.bl b) H (Same.refl H) (by simp only [Rep])
  rcases eq_core hx hy hp with ⟨h1, rfl⟩ | ⟨p, r, xs, h1, h2, h3, h4, rfl⟩ | ⟨p, r, xs, h1, h2, h3, h4, rfl⟩ | ⟨d, e, h1, h2, h3, h4, rfl⟩
  · exact .inl ⟨h1, q⟩
  · exact .inr (.inl ⟨p, r, xs, h1, h2, h3, h4, by simpa using q⟩)
  · exact .inr (.inr (.inl ⟨p, r, xs, h1, h2, h3, h4, by simpa using q⟩))
  · exact .inr (.inr (.inr ⟨d, e, h1, h2, h3, h4, q⟩))
theorem os_ne {G : Kx} : OpS G (rNeA G.K) pNe := by
  intro B H x y dx dy d Q bd hx hy hp q
  unfold pNe at hp
  split at hp
  · rename_i b hb
    cases hp
    have q := q (.bl (!b)) H (Same.refl H) (by simp only [Rep])
    rcases eq_core hx hy hb with ⟨h1, rfl⟩ | ⟨p, r, xs, h1, h2, h3, h4, rfl⟩ | ⟨p, r, xs, h1, h2, h3, h4, rfl⟩ | ⟨d, e, h1, h2, h3, h4, rfl⟩
    · exact .inl ⟨h1, q⟩
    · exact .inr (.inl ⟨p, r, xs, h1, h2, h3, h4, by simpa using q⟩)
    · exact .inr (.inr (.inl ⟨p, r, xs, h1, h2, h3, h4, by simpa using q⟩))
    · exact .inr (.inr (.inr ⟨d, e, h1, h2, h3, h4, q⟩))
  · cases hp
def dInts : List D → Option (List Int)
  | [] => some []
  | .int i :: ds => (dInts ds).map (i :: ·)
  | _ => none
theorem ints_some : ∀ {ds : List D} {ns : List Int}, dInts ds = some ns → ds = ns.map .int
  | [], ns, h => by simp [dInts] at h; subst h; rfl
  | .int i :: ds, ns, h => by
    simp only [dInts, Option.map_eq_some_iff] at h
    obtain ⟨ms, h1, rfl⟩ := h
    rw [ints_some h1]
    rfl
  | .none :: _, _, h => by simp [dInts] at h
  | .bool _ :: _, _, h => by simp [dInts] at h
  | .str _ :: _, _, h => by simp [dInts] at h
  | .list _ :: _, _, h => by simp [dInts] at h
  | .tuple _ :: _, _, h => by simp [dInts] at h
  | .dict _ :: _, _, h => by simp [dInts] at h
def dStrs : List D → Option (List Str)
  | [] => some []
  | .str i :: ds => (dStrs ds).map (i :: ·)
  | _ => none
theorem strs_some : ∀ {ds : List D} {ns : List Str}, dStrs ds = some ns → ds = ns.map .str
  | [], ns, h => by simp [dStrs] at h; subst h; rfl
  | .str i :: ds, ns, h => by
    simp only [dStrs, Option.map_eq_some_iff] at h
    obtain ⟨ms, h1, rfl⟩ := h
    rw [strs_some h1]
    rfl
  | .none :: _, _, h => by simp [dStrs] at h
  | .bool _ :: _, _, h => by simp [dStrs] at h
  | .int _ :: _, _, h => by simp [dStrs] at h
  | .list _ :: _, _, h => by simp [dStrs] at h
  | .tuple _ :: _, _, h => by simp [dStrs] at h
  | .dict _ :: _, _, h => by simp [dStrs] at h
@[simp] theorem ints_map (ns : List Int) : dInts (ns.map .int) = some ns := by
  induction ns with
  | nil => rfl
  | cons n ns ih => simp [dInts, ih]
@[simp] theorem strs_map (ns : List Str) : dStrs (ns.map .str) = some ns := by
  induction ns with
  | nil => rfl
  | cons n ns ih => simp [dStrs, ih]
def pLt : D → D → Option D
  | .int i, .int j => some (.bool (decide (i < j)))
  | .str i, .str j => some (.bool (decide (i.cps.toList < j.cps.toList)))
  | .tuple a, .tuple b => match dInts a, dInts b with
    | some ns, some ms => some (.bool (HT.lexLt ns ms))
    | _, _ => none
  | _, _ => none
abbrev rLtA (K : PySem.W.Frag) : R2 := orR (rI0 fun i j => .bl (decide (i < j))) (orR (fun x y H Q => ∃ i j, x = .str i ∧ y = .str j ∧ Q (.bl (decide (i.cps.toList < j.cps.toList))) H) (rLtT K))
theorem od_lt {X : Cx} (hu : X.A.units + 64 < cLine) : OpR X (compareOp .Lt) (rLtA X.K) := or_op op_lt (or_op op_lt_str (op_ltT (by omega)))
theorem pLt_bool {x y z : D} (h : pLt x y = some z) : ∃ k, z = .bool k := by
  unfold pLt at h
  split at h
  · cases h; exact ⟨_, rfl⟩
  · cases h; exact ⟨_, rfl⟩
  · split at h
    · cases h; exact ⟨_, rfl⟩
    · cases h
  · cases h
theorem os_lt {G : Kx} : OpS G (rLtA G.K) pLt := by
  intro B H x y dx dy d Q bd hx hy hp q
  unfold pLt at hp
  split at hp
  · cases hp
    simp only [Rep] at hx hy
    subst hx hy
    exact .inl ⟨_, _, rfl, rfl, q _ H (Same.refl H) (by simp only [Rep])⟩
  · cases hp
    simp only [Rep] at hx hy
    subst hx hy
    exact .inr (.inl ⟨_, _, rfl, rfl, q _ H (Same.refl H) (by simp only [Rep])⟩)
  · split at hp
    · rename_i ns ms h1 h2
      cases hp
      obtain ⟨a, us, rfl, h3, h4⟩ := hx.sqT
      obtain ⟨b, vs, rfl, h5, h6⟩ := hy.sqT
      rw [ints_some h1] at h4
      rw [ints_some h2] at h6
      rw [h4.ints] at h3
      rw [h6.ints] at h5
      exact .inr (.inr ⟨a, b, ns, ms, rfl, rfl, h3, h5, q _ H (Same.refl H) (by simp only [Rep])⟩)
    · cases hp
  · cases hp
def pIB (g : Int → Int → Bool) : D → D → Option D
  | .int i, .int j => some (.bool (g i j))
  | _, _ => none
theorem pIB_bool {g : Int → Int → Bool} {x y z : D} (h : pIB g x y = some z) : ∃ k, z = .bool k := by
  unfold pIB at h
  split at h
  · cases h; exact ⟨_, rfl⟩
  · cases h
theorem os_IB {G : Kx} {g : Int → Int → Bool} : OpS G (rI0 fun i j => .bl (g i j)) (pIB g) := by
  intro B H x y dx dy d Q bd hx hy hp q
  unfold pIB at hp
  split at hp
  · cases hp
    simp only [Rep] at hx hy
    subst hx hy
    exact ⟨_, _, rfl, rfl, q _ H (Same.refl H) (by simp only [Rep])⟩
  · cases hp
def pLe : D → D → Option D := pIB fun i j => decide (i ≤ j)
def pGt : D → D → Option D := pIB fun i j => decide (j < i)
def pGe : D → D → Option D := pIB fun i j => decide (j ≤ i)
theorem os_le {G : Kx} : OpS G (rI0 fun i j => .bl (decide (i ≤ j))) pLe := os_IB
theorem os_gt {G : Kx} : OpS G (rI0 fun i j => .bl (decide (j < i))) pGt := os_IB
theorem os_ge {G : Kx} : OpS G (rI0 fun i j => .bl (decide (j ≤ i))) pGe := os_IB
/-- x is None -/
def nonD : D → Bool
  | .none => true
  | _ => false
def pIs (x y : D) : Option D := match y with
  | .none => some (.bool (nonD x))
  | _ => none
def pIsNot (x y : D) : Option D := match y with
  | .none => some (.bool (!nonD x))
  | _ => none
theorem rep_non {G : Kx} {B : Bar} {H : Hp} {d : D} {v : V} (h : Rep G B H d v) : decide (v = .non) = nonD d := by
  cases d <;> simp only [Rep] at h
  · subst h; rfl
  · subst h; rfl
  · subst h; rfl
  · subst h; rfl
  · obtain ⟨a, vs, rfl, _⟩ := h; rfl
  · obtain ⟨a, vs, rfl, _⟩ := h; rfl
  · obtain ⟨a, vs, rfl, _⟩ := h; rfl
theorem os_is {G : Kx} : OpS G (fun x y H Q => y = .non ∧ Q (.bl (decide (x = .non))) H) pIs := by
  intro B H x y dx dy d Q bd hx hy hp q
  unfold pIs at hp
  split at hp
  · cases hp
    simp only [Rep] at hy
    exact ⟨hy, q _ H (Same.refl H) (by simp only [Rep]; rw [rep_non hx])⟩
  · cases hp
theorem os_isNot {G : Kx} : OpS G (fun x y H Q => y = .non ∧ Q (.bl (!decide (x = .non))) H) pIsNot := by
  intro B H x y dx dy d Q bd hx hy hp q
  unfold pIsNot at hp
  split at hp
  · cases hp
    simp only [Rep] at hy
    refine ⟨hy, q _ H (Same.refl H) ?_⟩
    simp only [Rep]
    rw [rep_non hx]
  · cases hp
theorem pIs_bool {x y z : D} (h : pIs x y = some z) : ∃ k, z = .bool k := by
  unfold pIs at h
  split at h
  · cases h; exact ⟨_, rfl⟩
  · cases h
theorem pIsNot_bool {x y z : D} (h : pIsNot x y = some z) : ∃ k, z = .bool k := by
  unfold pIsNot at h
  split at h
  · cases h; exact ⟨_, rfl⟩
  · cases h
end Dl
set_option Elab.async false
set_option linter.all false
set_option maxRecDepth 100000
set_option maxHeartbeats 4000000
namespace Dl
open PySem PySem.Spec PyProof.Rows L2
/-! ### in -/
def scalD : D → Bool
  | .none => true
  | .bool _ => true
  | .int _ => true
  | .str _ => true
  | _ => false
/-- == of plain things -/
def eqS : D → D → Bool
  | .none, .none => true
  | .bool a, .bool b => a == b
  | .bool a, .int b => (if a then 1 else 0) == b
  | .int a, .bool b => a == (if b then 1 else 0)
  | .int a, .int b => a == b
  | .str a, .str b => a == b
  | _, _ => false
theorem flat_of {G : Kx} {B : Bar} {H : Hp} {d : D} {v : V} (h : Rep G B H d v) (hs : scalD d = true) : flatV v = true := by
  cases d <;> simp only [Rep] at h <;> first
    | (subst h; rfl)
    | (simp [scalD] at hs)
theorem eqS_of {G : Kx} {B : Bar} {H : Hp} {d e : D} {v u : V} (h : Rep G B H d v) (g : Rep G B H e u) (hs : scalD d = true) (hs' : scalD e = true) : eqV v u = eqS d e := by
  cases d <;> simp only [Rep] at h <;> first
    | (subst h
       cases e <;> simp only [Rep] at g <;> first
         | (subst g; rfl)
         | (simp [scalD] at hs'))
    | (simp [scalD] at hs)
theorem any_of {G : Kx} {B : Bar} {H : Hp} {d : D} {v : V} (h : Rep G B H d v) (hs : scalD d = true) : ∀ {ds : List D} {vs : List V}, Reps G B H ds vs → ds.all scalD = true → vs.all flatV = true ∧ inV v vs = ds.any fun e => eqS e d
  | [], vs, hr, ha => by
    simp only [Reps] at hr
    subst hr
    exact ⟨rfl, rfl⟩
  | e :: ds, vs, hr, ha => by
    simp only [Reps] at hr
    obtain ⟨u, r, rfl, h1, h2⟩ := hr
    rw [List.all_cons, Bool.and_eq_true] at ha
    obtain ⟨g1, g2⟩ := any_of h hs h2 ha.2
    refine ⟨by rw [List.all_cons, flat_of h1 ha.1, g1]; rfl, ?_⟩
    unfold inV at g2 ⊢
    rw [List.any_cons, List.any_cons, g2, eqS_of h1 h ha.1 hs]
def sign1 (x : Str) : Option Nat := match x.cps.toList with
  | [c] => some c
  | _ => none
theorem sign1_some {x : Str} {c : Nat} (h : sign1 x = some c) : x = ⟨#[c]⟩ := by
  unfold sign1 at h
  split at h
  · rename_i c' e
    cases h
    obtain ⟨a⟩ := x
    have : a = #[c] := by
      apply Array.toList_inj.mp
      exact e
    rw [this]
  · cases h
def memD (x : D) (ds : List D) : Option Bool :=
  if scalD x = true ∧ ds.all scalD = true then some (ds.any fun e => eqS e x) else none
def deepIn (x : D) (ds : List D) : Option Bool :=
  if SeqAt.shaped x = true ∧ SeqAt.shaped (.list ds) = true then some (ds.any fun z => PyData.eqv z x) else none
def inD (x y : D) : Option Bool := match y with
  | .str z => match x with
    | .str c => (sign1 c).map fun c => decide (c ∈ z.cps.toList)
    | _ => none
  | .tuple ds => memD x ds
  | .list ds => match memD x ds with
    | some b => some b
    | none => deepIn x ds
  | _ => none
def pIn (x y : D) : Option D := (inD x y).map .bool
def pNotIn (x y : D) : Option D := (inD x y).map fun b => .bool (!b)
abbrev rInA (K : PySem.W.Frag) : R2 := orR (rIn K false) (orR (fun x y H Q => ∃ (c : Nat) (z : Str), x = .str ⟨#[c]⟩ ∧ y = .str z ∧ Q (.bl (decide (c ∈ z.cps.toList))) H) (rInD K))
abbrev rNotInA (K : PySem.W.Frag) : R2 := orR (rIn K true) (orR (fun x y H Q => ∃ (c : Nat) (z : Str), x = .str ⟨#[c]⟩ ∧ y = .str z ∧ Q (.bl (!decide (c ∈ z.cps.toList))) H) (rNotInD K))
theorem od_in {X : Cx} (hu : X.A.units + 65 < cLine) : OpR X (compareOp .In) (rInA X.K) := or_op op_in_seq (or_op op_in_sign (op_inD hu))
theorem od_notIn {X : Cx} (hu : X.A.units + 65 < cLine) : OpR X (compareOp .NotIn) (rNotInA X.K) := or_op op_notIn_seq (or_op op_notIn_sign (op_notInD hu))
theorem pIn_bool {x y z : D} (h : pIn x y = some z) : ∃ k, z = .bool k := by
  unfold pIn at h
  rw [Option.map_eq_some_iff] at h
  obtain ⟨k, _, rfl⟩ := h
  exact ⟨k, rfl⟩
theorem pNotIn_bool {x y z : D} (h : pNotIn x y = some z) : ∃ k, z = .bool k := by
  unfold pNotIn at h
  rw [Option.map_eq_some_iff] at h
  obtain ⟨k, _, rfl⟩ := h
  exact ⟨!k, rfl⟩
theorem in_core {G : Kx} {B : Bar} {H : Hp} {x y : V} {dx dy : D} {b : Bool} (hx : Rep G B H dx x) (hy : Rep G B H dy y) (hp : inD dx dy = some b) :
    (∃ p xs, y = .ref p ∧ (SqL G.K H p xs ∨ SqT G.K H p xs) ∧ flatV x = true ∧ xs.all flatV = true ∧ inV x xs = b) ∨ (∃ (c : Nat) (z : Str), x = .str ⟨#[c]⟩ ∧ y = .str z ∧ decide (c ∈ z.cps.toList) = b) ∨
      (∃ d ds, Dp G.K H x d ∧ Dp G.K H y (.list ds) ∧ SeqAt.shaped d = true ∧ SeqAt.shaped (.list ds) = true ∧ (ds.any fun z => PyData.eqv z d) = b) := by
  unfold inD at hp
  split at hp
  · split at hp
    · rw [Option.map_eq_some_iff] at hp
      obtain ⟨c, hc, rfl⟩ := hp
      simp only [Rep] at hx hy
      subst hx hy
      exact .inr (.inl ⟨c, _, by rw [sign1_some hc], rfl, rfl⟩)
    · cases hp
  · obtain ⟨a, vs, rfl, h1, h2⟩ := hy.sqT
    unfold memD at hp
    split at hp
    · rename_i hc
      cases hp
      obtain ⟨g1, g2⟩ := any_of hx hc.1 h2 hc.2
      exact .inl ⟨a, vs, rfl, .inr h1, flat_of hx hc.1, g1, g2⟩
    · cases hp
  · rename_i ds
    split at hp
    · rename_i b' hm
      cases hp
      obtain ⟨a, vs, rfl, _, h1, h2⟩ := hy.sqL
      unfold memD at hm
      split at hm
      · rename_i hc
        cases hm
        obtain ⟨g1, g2⟩ := any_of hx hc.1 h2 hc.2
        exact .inl ⟨a, vs, rfl, .inl h1, flat_of hx hc.1, g1, g2⟩
      · cases hm
    · unfold deepIn at hp
      split at hp
      · rename_i hc
        cases hp
        exact .inr (.inr ⟨dx, ds, hx.dp _ _ (SeqAt.canLay_of_shaped hc.1), hy.dp _ _ (SeqAt.canLay_of_shaped hc.2), hc.1, hc.2, rfl⟩)
      · cases hp
  · cases hp
theorem os_in {G : Kx} : OpS G (rInA G.K) pIn := by
  intro B H x y dx dy d Q bd hx hy hp q
  unfold pIn at hp
  rw [Option.map_eq_some_iff] at hp
  obtain ⟨b, hb, rfl⟩ := hp
  have q := q (.bl b) H (Same.refl H) (by simp only [Rep])
  rcases in_core hx hy hb with ⟨p, xs, h1, h2, h3, h4, rfl⟩ | ⟨c, z, h1, h2, rfl⟩ | ⟨d, ds, h1, h2, h3, h4, rfl⟩
  · exact .inl ⟨p, xs, h1, h2, h3, h4, q⟩
  · exact .inr (.inl ⟨c, z, h1, h2, q⟩)
  · exact .inr (.inr ⟨d, ds, h1, h2, h3, h4, q⟩)
theorem os_notIn {G : Kx} : OpS G (rNotInA G.K) pNotIn := by
  intro B H x y dx dy d Q bd hx hy hp q
  unfold pNotIn at hp
  rw [Option.map_eq_some_iff] at hp
  obtain ⟨b, hb, rfl⟩ := hp
  have q := q (.bl (!b)) H (Same.refl H) (by simp only [Rep])
  rcases in_core hx hy hb with ⟨p, xs, h1, h2, h3, h4, rfl⟩ | ⟨c, z, h1, h2, rfl⟩ | ⟨d, ds, h1, h2, h3, h4, rfl⟩
  · exact .inl ⟨p, xs, h1, h2, h3, h4, q⟩
  · exact .inr (.inl ⟨c, z, h1, h2, q⟩)
  · exact .inr (.inr ⟨d, ds, h1, h2, h3, h4, q⟩)
/-! ### subscripts, slices -/
def pIx : D → D → Option D
  | .list ds, .int i => atI ds i
  | .tuple ds, .int i => atI ds i
  | .str z, .int i => if z.length ≤ sizeLine then (atI z.cps.toList i).map fun c => .str ⟨#[c]⟩ else none
  | _, _ => none
theorem Reps.atI {G : Kx} {B : Bar} {H : Hp} {ds : List D} {vs : List V} {i : Int} {d : D} (h : Reps G B H ds vs) (e : L2.atI ds i = some d) : ∃ v, L2.atI vs i = some v ∧ Rep G B H d v := by
  unfold L2.atI at e ⊢
  rw [h.len]
  rw [Option.bind_eq_some_iff] at e
  obtain ⟨j, h1, h2⟩ := e
  obtain ⟨v, h3, h4⟩ := h.get h2
  exact ⟨v, by rw [h1]; exact h3, h4⟩
theorem os_ix {G : Kx} : OpS G (rIx G.K) pIx := by
  intro B H x y dx dy d Q bd hx hy hp q
  unfold pIx at hp
  split at hp
  · simp only [Rep] at hy
    obtain ⟨a, vs, rfl, _, h1, h2⟩ := hx.sqL
    obtain ⟨v, h3, h4⟩ := h2.atI hp
    exact .inl ⟨a, vs, _, v, rfl, hy, h1, h3, q _ H (Same.refl H) h4⟩
  · simp only [Rep] at hy
    obtain ⟨a, vs, rfl, h1, h2⟩ := hx.sqT
    obtain ⟨v, h3, h4⟩ := h2.atI hp
    exact .inr (.inl ⟨a, vs, _, v, rfl, hy, h1, h3, q _ H (Same.refl H) h4⟩)
  · split at hp
    · rw [Option.map_eq_some_iff] at hp
      obtain ⟨c, hc, rfl⟩ := hp
      simp only [Rep] at hx hy
      exact .inr (.inr ⟨_, _, c, hx, hy, by assumption, hc, q _ H (Same.refl H) (by simp only [Rep])⟩)
    · cases hp
  · cases hp
def cutD (ds : List D) (lo hi : Option Int) : List D := (ds.drop (HT.sIx ds.length 0 lo)).take (HT.sIx ds.length ds.length hi - HT.sIx ds.length 0 lo)
theorem Reps.cut {G : Kx} {B : Bar} {H : Hp} {ds : List D} {vs : List V} (h : Reps G B H ds vs) (lo hi : Option Int) : Reps G B H (cutD ds lo hi) (cutV vs lo hi) := by
  unfold cutD cutV
  rw [h.len]
  exact (h.drop _).take _
def pSl (x : D) (lo hi : Option Int) : Option D := match x with
  | .list ds => some (.list (cutD ds lo hi))
  | .tuple ds => some (.tuple (cutD ds lo hi))
  | .str z => if z.length ≤ sizeLine then some (.str (cutS z lo hi)) else none
  | _ => none
abbrev rSlD (K : PySem.W.Frag) : V → Option Int → Option Int → Hp → VK → Prop := fun x lo hi H Q => rSlL K x lo hi H Q ∨ rSlA K x lo hi H Q ∨ rSlS x lo hi H Q
theorem or_sl {X : Cx} {r1 r2 : V → Option Int → Option Int → Hp → VK → Prop} (h1 : SlR X r1) (h2 : SlR X r2) : SlR X (fun x lo hi H Q => r1 x lo hi H Q ∨ r2 x lo hi H Q) :=
  fun pins s σ H x v vl vu lo hi sl Q I rx i p1 p2 h => h.elim (h1 pins s σ H x v vl vu lo hi sl Q I rx i p1 p2) (h2 pins s σ H x v vl vu lo hi sl Q I rx i p1 p2)
theorem od_sl {X : Cx} : SlR X (rSlD X.K) := or_sl sl_list (or_sl sl_tupA sl_str)
theorem cutD_whole {ds : List D} {lo hi : Option Int} (h : HT.sIx ds.length 0 lo = 0 ∧ HT.sIx ds.length ds.length hi = ds.length) : cutD ds lo hi = ds := by
  unfold cutD
  rw [h.1, h.2, List.drop_zero, Nat.sub_zero, List.take_length]
def SlS (G : Kx) (r : V → Option Int → Option Int → Hp → VK → Prop) (p : D → Option Int → Option Int → Option D) : Prop := ∀ (B : Bar) (H : Hp) (x : V) (lo hi : Option Int) (dx d : D) (Q : VK), (∀ a, B a → H a ≠ none) → Rep G B H dx x → p dx lo hi = some d →
  (∀ v H', Same H H' → Rep G B H' d v → Q v H') → r x lo hi H Q
theorem os_sl {G : Kx} : SlS G (rSlD G.K) pSl := by
  intro B H x lo hi dx d Q bd hx hp q
  unfold pSl at hp
  split at hp
  · cases hp
    obtain ⟨a, vs, rfl, _, h1, h2⟩ := hx.sqL
    exact .inl ⟨a, vs, rfl, h1, fun p hp => q _ _ (Lc.same_new hp) (rep_lst bd hp (h2.cut lo hi))⟩
  · cases hp
    rename_i ds
    obtain ⟨a, vs, rfl, h1, h2⟩ := hx.sqT
    refine .inr (.inl ⟨a, vs, rfl, h1, fun e => ?_, fun _ p hp => q _ _ (Lc.same_new hp) (rep_tup bd hp (h2.cut lo hi))⟩)
    rw [h2.len] at e
    rw [cutD_whole e] at q
    exact q _ H (Same.refl H) hx
  · split at hp
    · cases hp
      simp only [Rep] at hx
      exact .inr (.inr ⟨_, hx, by assumption, q _ H (Same.refl H) (by simp only [Rep])⟩)
    · cases hp
  · cases hp
/-- a slice's end: left out, or an int -/
abbrev Eo' (S : Type) := Rho → S → Option (Option Int × S)
def oNo {S : Type} : Eo' S := fun _ s => some (none, s)
def asI : D → Option Int
  | .int i => some i
  | _ => none
def oOf {S : Type} (f : Ev S) : Eo' S := fun ρ s => bnd (f ρ s) fun d s => put ((asI d).map some) s
def tEp {S : Type} (G : Kx) (Z : Zk S) (W : List Nat) (f : Eo' S) : TO := fun σ H Q =>
  ∃ (B O : Bar) (ρ : Rho) (s : S) (d : Option Int) (s' : S), Eo G Z W B O H σ ρ ∧ Z.R H s ∧ f ρ s = some (d, s') ∧
    ∀ H', Lc.Fr Z.M H H' → Z.R H' s' → Q d H'
def cSl {S : Type} (p : D → Option Int → Option Int → Option D) (f : Ev S) (l h : Eo' S) : Ev S := fun ρ s => bnd (f ρ s) fun x s => bnd (l ρ s) fun lo s => bnd (h ρ s) fun hi s => put (p x lo hi) s
section
variable {S : Type} {X : Cx} {G : Kx} {Z : Zk S} {W : List Nat} {f g : Ev S} {fa : Ea S} {a b c e tg : Expr} {es : List Expr} {pos p p2 : Pos} {x : Str} {lo hi : Option Expr}
theorem imp_po {e : Option Expr} {t t' : TO} (h : PO X e t) (m : ∀ σ H Q, t' σ H Q → t σ H Q) : PO X e t' := ⟨fun pins s σ H Q I q => h.run pins s σ H Q I (m σ H Q q)⟩
theorem eo_none : PO X none (tEp G Z W oNo) := imp_po po_none fun σ H Q ⟨B, O, ρ, s, d, s', eo, hR, hf, q⟩ => by
  cases hf
  exact q H (Lc.Fr.refl H) hR
theorem eo_some (he : PE X e (tEx G Z W f)) : PO X (some e) (tEp G Z W (oOf f)) := imp_po (po_some he) fun σ H Q ⟨B, O, ρ, s, d, s', eo, hR, hf, q⟩ => by
  unfold oOf at hf
  obtain ⟨y, s1, h1, hf⟩ := bnd_some hf
  obtain ⟨h3, rfl⟩ := put_some hf
  refine ⟨B, O, ρ, s, y, _, eo, hR, h1, fun v H1 f1 r1 R1 => ?_⟩
  unfold asI at h3
  split at h3
  · cases h3
    simp only [Rep] at r1
    exact ⟨_, r1, q H1 f1 R1⟩
  · cases h3
theorem ex_slice {l h : Eo' S} {r : V → Option Int → Option Int → Hp → VK → Prop} {q : D → Option Int → Option Int → Option D} (hr : SlR X r) (hs : SlS G r q) (he : PE X e (tEx G Z W f)) (hl : PO X lo (tEp G Z W l)) (hh : PO X hi (tEp G Z W h)) : PE X (.Subscript e (.Slice lo hi none p2) pos) (tEx G Z W (cSl q f l h)) :=
  imp_pe (pe_slice hr he hl hh) fun σ H Q ⟨B, O, ρ, s, d, s', eo, hR, hf, k⟩ => by
    unfold cSl at hf
    obtain ⟨y, s1, h1, hf⟩ := bnd_some hf
    obtain ⟨i, s2, h2, hf⟩ := bnd_some hf
    obtain ⟨j, s3, h3, hf⟩ := bnd_some hf
    obtain ⟨h4, rfl⟩ := put_some hf
    refine ⟨B, O, ρ, s, y, s1, eo, hR, h1, fun v H1 f1 r1 R1 => ⟨B, O, ρ, s1, i, s2, eo.fr f1, R1, h2, fun H2 f2 R2 => ⟨B, O, ρ, s2, j, _, (eo.fr f1).fr f2, R2, h3, fun H3 f3 R3 => ?_⟩⟩⟩
    have e3 := ((eo.fr f1).fr f2).fr f3
    refine hs _ H3 v i j y d Q (fun a z => z.elim (e3.bd a) (e3.od a)) (r1.fr (f2.trans f3) fun a z => .inl (eo.mb a z)) h4 fun w H4 sm r4 => ?_
    exact k w H4 (((f1.trans f2).trans f3).trans (Lc.Fr.of sm)) r4 (Z.same R3 sm)
/-! ### new lists -/
/-- a call that makes a new list -/
def CaN (G : Kx) (r : List V → Hp → VK → Prop) (p : List D → Option (List D)) : Prop := ∀ (B : Bar) (H : Hp) (xs : List V) (ds es : List D) (Q : VK), (∀ a, B a → H a ≠ none) → Reps G B H ds xs → p ds = some es →
  (∀ q vs, H q = none → Reps G B H es vs → Q (.ref q) (upd H q (.lst vs))) → r xs H Q
theorem ca_of {r : List V → Hp → VK → Prop} {p : List D → Option (List D)} (h : CaN G r p) : CaS G r (fun ds => (p ds).map .list) := fun B H xs ds d Q bd hr hp q => by
  rw [Option.map_eq_some_iff] at hp
  obtain ⟨es, h1, rfl⟩ := hp
  exact h B H xs ds es Q bd hr h1 fun l vs hl hv => q _ _ (Lc.same_new hl) (rep_lst bd hl hv)
def aN (p : List D → Option (List D)) (f : Ea S) : Ea S := fun ρ s => bnd (f ρ s) fun xs s => put (p xs) s
theorem nl_of {p : Addr} {B O : Bar} {H : Hp} {es : List D} {vs : List V} (hp : H p = none) (h : Reps G (fun a => B a ∨ O a) H es vs) (o : HO) : Reps G (fun a => (B a ∨ a = p) ∨ O a) (upd H p o) es vs :=
  h.mv fun a u e n => ⟨by rw [upd_ne (ne_of_none e hp)]; exact e, fun z => n (z.elim (fun z => z.elim .inl fun z => absurd z (ne_of_none e hp)) .inr)⟩
theorem tcb_nl {r : List V → Hp → VK → Prop} {p : List D → Option (List D)} (hs : CaN G r p) {σ : L2.St} {H : Hp} {Q : VK} (h : tNl G Z W (aN p fa) σ H Q) : tCB r (tEa G Z W fa) σ H Q := by
  obtain ⟨B, O, ρ, s, d, s', eo, hR, hf, q⟩ := h
  unfold aN at hf
  obtain ⟨x, s1, h1, hf⟩ := bnd_some hf
  obtain ⟨h3, rfl⟩ := put_some hf
  refine ⟨B, O, ρ, s, x, _, eo, hR, h1, fun v H1 f1 r1 R1 => ?_⟩
  have e2 := eo.fr f1
  refine hs _ H1 v x d Q (fun a z => z.elim (e2.bd a) (e2.od a)) r1 h3 fun l vs hl hv => ?_
  exact q l vs _ (f1.free hl) (f1.trans (Lc.Fr.new hl)) upd_same (nl_of hl hv _) (Z.same R1 (Lc.same_new hl))
theorem nl_callB {id : String} {r : List V → Hp → VK → Prop} {q : List D → Option (List D)} (hc : CallR X (.builtin id) r) (hS : CaN G r q) (hg : Gl X x) (hm : X.mg x = none) (hv : bootBuiltins x = some (.builtin id)) (ha : PA X (e :: es) (tEa G Z W fa)) (hn : x ≠ "__name__" := by decide) (hdb : (x == ("__debug__" : Str)) = false := by decide)
    (he : starEach (e :: es) X.env = (false, eval e X.env) :: starEach es X.env := by rfl) (hpl : (backTo pos (starEach es X.env)).any (·.1) = false := by rfl) : PE X (.Call (.Name x p) (e :: es) [] pos) (tNl G Z W (aN q fa)) :=
  imp_pe (pe_callB hc hg hm hv ha hn hdb he hpl) fun σ H Q h => tcb_nl hS h
theorem nl_callTy {T : String} {r : List V → Hp → VK → Prop} {q : List D → Option (List D)} (hc : CallR X (.type T) r) (hS : CaN G r q) (hg : Gl X x) (hm : X.mg x = none) (hv : bootBuiltins x = some (.type T)) (ha : PA X (e :: es) (tEa G Z W fa)) (hn : x ≠ "__name__" := by decide) (hdb : (x == ("__debug__" : Str)) = false := by decide)
    (he : starEach (e :: es) X.env = (false, eval e X.env) :: starEach es X.env := by rfl) (hpl : (backTo pos (starEach es X.env)).any (·.1) = false := by rfl) : PE X (.Call (.Name x p) (e :: es) [] pos) (tNl G Z W (aN q fa)) :=
  imp_pe (pe_callTy hc hg hm hv ha hn hdb he hpl) fun σ H Q h => tcb_nl hS h
def lenOk (ds : List D) : Option (List D) := if ds.length ≤ sizeLine then some ds else none
theorem nl_lst (h : PA X es (tEa G Z W fa)) : PE X (.List es pos) (tNl G Z W (aN lenOk fa)) :=
  imp_pe (pe_lst h) fun σ H Q ⟨B, O, ρ, s, d, s', eo, hR, hf, q⟩ => by
    unfold aN at hf
    obtain ⟨x, s1, h1, hf⟩ := bnd_some hf
    obtain ⟨h3, rfl⟩ := put_some hf
    unfold lenOk at h3
    split at h3
    · cases h3
      refine ⟨B, O, ρ, s, d, _, eo, hR, h1, fun v H1 f1 r1 R1 => ⟨by rw [r1.len]; assumption, fun l hl => ?_⟩⟩
      exact q l v _ (f1.free hl) (f1.trans (Lc.Fr.new hl)) upd_same (nl_of hl r1 _) (Z.same R1 (Lc.same_new hl))
    · cases h3
def aCat (f g : Ev S) : Ea S := fun ρ s => bnd (f ρ s) fun x s => bnd (g ρ s) fun y s => match x, y with
  | .list a, .list b => if a.length + b.length ≤ sizeLine then some (a ++ b, s) else none
  | _, _ => none
theorem nl_cat (ha : PE X a (tEx G Z W f)) (hb : PE X b (tEx G Z W g)) : PE X (.BinOp a .Add b pos) (tNl G Z W (aCat f g)) :=
  imp_pe (pe_op op_cat ha hb) fun σ H Q ⟨B, O, ρ, s, d, s', eo, hR, hf, q⟩ => by
    unfold aCat at hf
    obtain ⟨x, s1, h1, hf⟩ := bnd_some hf
    obtain ⟨y, s2, h2, hf⟩ := bnd_some hf
    split at hf
    · split at hf
      · cases hf
        refine ⟨B, O, ρ, s, _, s1, eo, hR, h1, fun v H1 f1 r1 R1 => ⟨B, O, ρ, s1, _, _, eo.fr f1, R1, h2, fun u H2 f2 r2 R2 => ?_⟩⟩
        obtain ⟨a1, us, rfl, h3, _, h4⟩ := (r1.fr f2 fun a z => Or.inl (eo.mb a z)).sqL
        obtain ⟨b1, vs, rfl, h5, _, h6⟩ := r2.sqL
        refine ⟨a1, b1, us, vs, rfl, rfl, h3, h5, by rw [h4.len, h6.len]; assumption, fun l hl => ?_⟩
        exact q l _ _ ((f1.trans f2).free hl) ((f1.trans f2).trans (Lc.Fr.new hl)) upd_same (nl_of hl (h4.append h6) _) (Z.same R2 (Lc.same_new hl))
      · cases hf
    · cases hf
/-! ### what is built in -/
def pLen : List D → Option D
  | [.list ds] => some (.int ds.length)
  | [.tuple ds] => some (.int ds.length)
  | [.str z] => if z.length ≤ sizeLine then some (.int z.length) else none
  | _ => none
theorem od_len : CallR X (.builtin "len") (orC (Lc.rLenQ X.K) (fun xs H Q => ∃ z, xs = [.str z] ∧ z.length ≤ sizeLine ∧ Q (.int z.length) H)) := or_ca call_len_seq call_len_str
theorem os_len : CaS G (orC (Lc.rLenQ G.K) (fun xs H Q => ∃ z, xs = [.str z] ∧ z.length ≤ sizeLine ∧ Q (.int z.length) H)) pLen := by
  intro B H xs ds d Q bd hr hp q
  unfold pLen at hp
  split at hp
  · cases hp
    simp only [Reps] at hr
    obtain ⟨v, r, rfl, h1, rfl⟩ := hr
    obtain ⟨a, vs, rfl, _, h2, h3⟩ := h1.sqL
    exact .inl ⟨a, vs, rfl, .inl h2, q _ H (Same.refl H) (by simp only [Rep]; rw [h3.len])⟩
  · cases hp
    simp only [Reps] at hr
    obtain ⟨v, r, rfl, h1, rfl⟩ := hr
    obtain ⟨a, vs, rfl, h2, h3⟩ := h1.sqT
    exact .inl ⟨a, vs, rfl, .inr h2, q _ H (Same.refl H) (by simp only [Rep]; rw [h3.len])⟩
  · split at hp
    · cases hp
      simp only [Reps, Rep] at hr
      obtain ⟨v, r, rfl, rfl, rfl⟩ := hr
      exact .inr ⟨_, rfl, by assumption, q _ H (Same.refl H) (by simp only [Rep])⟩
    · cases hp
  · cases hp
def pList : List D → Option (List D)
  | [.list ds] => some ds
  | [.tuple ds] => some ds
  | _ => none
def rListQ (K : PySem.W.Frag) : List V → Hp → VK → Prop := fun xs H Q => ∃ p ys, xs = [.ref p] ∧ (SqL K H p ys ∨ SqT K H p ys) ∧ ∀ l, H l = none → Q (.ref l) (upd H l (.lst ys))
theorem od_list : CallR X (.type "list") (rListQ X.K) := call_list_of
theorem on_list : CaN G (rListQ G.K) pList := by
  intro B H xs ds es Q bd hr hp q
  unfold pList at hp
  split at hp
  · cases hp
    simp only [Reps] at hr
    obtain ⟨v, r, rfl, h1, rfl⟩ := hr
    obtain ⟨a, vs, rfl, _, h2, h3⟩ := h1.sqL
    exact ⟨a, vs, rfl, .inl h2, fun l hl => q l vs hl h3⟩
  · cases hp
    simp only [Reps] at hr
    obtain ⟨v, r, rfl, h1, rfl⟩ := hr
    obtain ⟨a, vs, rfl, h2, h3⟩ := h1.sqT
    exact ⟨a, vs, rfl, .inr h2, fun l hl => q l vs hl h3⟩
  · cases hp
def pTuple : List D → Option D
  | [.list ds] => some (.tuple ds)
  | [.tuple ds] => some (.tuple ds)
  | _ => none
def rTupQ (K : PySem.W.Frag) : List V → Hp → VK → Prop := fun xs H Q => ∃ p ys, xs = [.ref p] ∧ ((SqL K H p ys ∧ ∀ l, H l = none → Q (.ref l) (upd H l (.tup ys))) ∨ (SqT K H p ys ∧ Q (.ref p) H))
theorem od_tuple : CallR X (.type "tuple") (rTupQ X.K) := call_tuple_of
theorem os_tuple : CaS G (rTupQ G.K) pTuple := by
  intro B H xs ds d Q bd hr hp q
  unfold pTuple at hp
  split at hp
  · cases hp
    simp only [Reps] at hr
    obtain ⟨v, r, rfl, h1, rfl⟩ := hr
    obtain ⟨a, vs, rfl, _, h2, h3⟩ := h1.sqL
    exact ⟨a, vs, rfl, .inl ⟨h2, fun l hl => q _ _ (Lc.same_new hl) (rep_tup bd hl h3)⟩⟩
  · cases hp
    simp only [Reps] at hr
    obtain ⟨v, r, rfl, h1, rfl⟩ := hr
    obtain ⟨a, vs, rfl, h2, h3⟩ := h1.sqT
    exact ⟨a, vs, rfl, .inr ⟨h2, q _ H (Same.refl H) h1⟩⟩
  · cases hp
def pInt : List D → Option D
  | [.int i] => some (.int i)
  | [.bool k] => some (.int (if k then 1 else 0))
  | _ => none
theorem os_int : CaS G (fun xs H Q => (∃ i, xs = [.int i] ∧ Q (.int i) H) ∨ ∃ k, xs = [.bl k] ∧ Q (.int (if k then 1 else 0)) H) pInt := by
  intro B H xs ds d Q bd hr hp q
  unfold pInt at hp
  split at hp
  · cases hp
    simp only [Reps, Rep] at hr
    obtain ⟨v, r, rfl, rfl, rfl⟩ := hr
    exact .inl ⟨_, rfl, q _ H (Same.refl H) (by simp only [Rep])⟩
  · cases hp
    simp only [Reps, Rep] at hr
    obtain ⟨v, r, rfl, rfl, rfl⟩ := hr
    exact .inr ⟨_, rfl, q _ H (Same.refl H) (by simp only [Rep])⟩
  · cases hp
def pStr : List D → Option D
  | [.int i] => if i.natAbs.log2 < 1920 then some (.str (toString i)) else none
  | _ => none
theorem os_str : CaS G (fun xs H Q => ∃ i : Int, xs = [.int i] ∧ i.natAbs.log2 < 1920 ∧ Q (.str (toString i)) H) pStr := by
  intro B H xs ds d Q bd hr hp q
  unfold pStr at hp
  split at hp
  · split at hp
    · cases hp
      simp only [Reps, Rep] at hr
      obtain ⟨v, r, rfl, rfl, rfl⟩ := hr
      exact ⟨_, rfl, by assumption, q _ H (Same.refl H) (by simp only [Rep])⟩
    · cases hp
  · cases hp
def pSum : List D → Option D
  | [.list ds] => (dInts ds).map fun ns => .int ns.sum
  | _ => none
theorem os_sum : CaS G (rSum G.K) pSum := by
  intro B H xs ds d Q bd hr hp q
  unfold pSum at hp
  split at hp
  · rw [Option.map_eq_some_iff] at hp
    obtain ⟨ns, h0, rfl⟩ := hp
    simp only [Reps] at hr
    obtain ⟨v, r, rfl, h1, rfl⟩ := hr
    obtain ⟨a, vs, rfl, _, h2, h3⟩ := h1.sqL
    rw [ints_some h0] at h3
    rw [h3.ints] at h2
    exact ⟨a, ns, rfl, h2, q _ H (Same.refl H) (by simp only [Rep])⟩
  · cases hp
def dBools : List D → Option (List Bool)
  | [] => some []
  | .bool i :: ds => (dBools ds).map (i :: ·)
  | _ => none
theorem dBools_some : ∀ {ds : List D} {ns : List Bool}, dBools ds = some ns → ds = ns.map .bool
  | [], ns, h => by simp [dBools] at h; subst h; rfl
  | .bool i :: ds, ns, h => by
    simp only [dBools, Option.map_eq_some_iff] at h
    obtain ⟨ms, h1, rfl⟩ := h
    rw [dBools_some h1]
    rfl
  | .none :: _, _, h => by simp [dBools] at h
  | .int _ :: _, _, h => by simp [dBools] at h
  | .str _ :: _, _, h => by simp [dBools] at h
  | .list _ :: _, _, h => by simp [dBools] at h
  | .tuple _ :: _, _, h => by simp [dBools] at h
  | .dict _ :: _, _, h => by simp [dBools] at h
@[simp] theorem dBools_map (ns : List Bool) : dBools (ns.map .bool) = some ns := by
  induction ns with
  | nil => rfl
  | cons n ns ih => simp [dBools, ih]
def pAll : List D → Option D
  | [.list ds] => (dBools ds).map fun ns => .bool (ns.all id)
  | _ => none
def pAny : List D → Option D
  | [.list ds] => (dBools ds).map fun ns => .bool (ns.any id)
  | _ => none
theorem os_all : CaS G (rAll G.K) pAll := by
  intro B H xs ds d Q bd hr hp q
  unfold pAll at hp
  split at hp
  · rw [Option.map_eq_some_iff] at hp
    obtain ⟨ns, h0, rfl⟩ := hp
    simp only [Reps] at hr
    obtain ⟨v, r, rfl, h1, rfl⟩ := hr
    obtain ⟨a, vs, rfl, _, h2, h3⟩ := h1.sqL
    rw [dBools_some h0] at h3
    rw [h3.bools] at h2
    exact ⟨a, ns, rfl, h2, q _ H (Same.refl H) (by simp only [Rep])⟩
  · cases hp
theorem os_any : CaS G (rAny G.K) pAny := by
  intro B H xs ds d Q bd hr hp q
  unfold pAny at hp
  split at hp
  · rw [Option.map_eq_some_iff] at hp
    obtain ⟨ns, h0, rfl⟩ := hp
    simp only [Reps] at hr
    obtain ⟨v, r, rfl, h1, rfl⟩ := hr
    obtain ⟨a, vs, rfl, _, h2, h3⟩ := h1.sqL
    rw [dBools_some h0] at h3
    rw [h3.bools] at h2
    exact ⟨a, ns, rfl, h2, q _ H (Same.refl H) (by simp only [Rep])⟩
  · cases hp
/-! isinstance of a class that is built in -/
def tyN : D → Option String
  | .none => some "NoneType"
  | .bool _ => some "bool"
  | .int _ => some "int"
  | .str _ => some "str"
  | .list _ => some "list"
  | .tuple _ => some "tuple"
  | .dict _ => none
def pIsi (T : String) (d : D) : Option D := (tyN d).bind fun t => (L2.kitB t T).map .bool
theorem tyX_of {B : Bar} {H : Hp} {d : D} {v : V} {t : String} (h : Rep G B H d v) (e : tyN d = some t) : TyX G.K H v (.type t) := by
  cases d with
  | none => simp only [Rep] at h; subst h; cases e; exact .base .non
  | bool b => simp only [Rep] at h; subst h; cases e; exact .base (.bl b)
  | int i => simp only [Rep] at h; subst h; cases e; exact .base (.int i)
  | str i => simp only [Rep] at h; subst h; cases e; exact .base (.str i)
  | list ds =>
    obtain ⟨a, vs, rfl, h1, _⟩ := h.sqL
    cases e
    exact .base (.lst h1)
  | tuple ds =>
    simp only [Rep] at h
    obtain ⟨a, vs, rfl, h1, _⟩ := h
    cases e
    rcases h1 with ⟨h1, _⟩ | ⟨o, its, n, h1, h2, _⟩
    · exact .base (.tup h1)
    · exact .kTuple h1 h2
  | dict kvs => cases e
theorem ex_isi {Ts : String} (hg : Gl X "isinstance") (hm : X.mg "isinstance" = none) (ha : PE X a (tEx G Z W f)) (hb : PE X b (tC (.ty Ts)))
    (hK : X.K = G.K := by rfl) (he : starEach [a, b] X.env = (false, eval a X.env) :: starEach [b] X.env := by rfl) (he2 : starEach [b] X.env = (false, eval b X.env) :: starEach [] X.env := by rfl) (hpl : (backTo pos (starEach [b] X.env)).any (·.1) = false := by rfl) (hv : bootBuiltins "isinstance" = some (.builtin "isinstance") := by decide +kernel) :
    PE X (.Call (.Name "isinstance" p) [a, b] [] pos) (tEx G Z W (cU (pIsi Ts) f)) :=
  imp_pe (pe_callB call_isi hg hm hv (pa_cons ha (pa_cons hb pa_nil he2) he) (by decide) (by decide) he hpl) fun σ H Q ⟨B, O, ρ, s, d, s', eo, hR, hf, q⟩ => by
    unfold cU at hf
    obtain ⟨y, s1, h1, hf⟩ := bnd_some hf
    obtain ⟨h3, rfl⟩ := put_some hf
    unfold pIsi at h3
    rw [Option.bind_eq_some_iff] at h3
    obtain ⟨t, h4, h5⟩ := h3
    rw [Option.map_eq_some_iff] at h5
    obtain ⟨k, h6, rfl⟩ := h5
    refine ⟨B, O, ρ, s, y, _, eo, hR, h1, fun v H1 f1 r1 R1 => ?_⟩
    refine ⟨v, .ty Ts, .type t, .type Ts, k, rfl, .ty Ts, by rw [hK]; exact tyX_of r1 h4, kit_ty h6, q _ H1 f1 (by simp only [Rep]) R1⟩
/-! methods of texts -/
def pJoin : D → D → Option D
  | .str a, .list ds => match dStrs ds with
    | some ys => if (ys.map (·.length)).sum + ys.length * a.length ≤ 16777216 then some (.str (Txt.join a ys)) else none
    | none => none
  | .str a, .tuple ds => match dStrs ds with
    | some ys => if (ys.map (·.length)).sum + ys.length * a.length ≤ 16777216 then some (.str (Txt.join a ys)) else none
    | none => none
  | _, _ => none
theorem ex_join {o : Expr} {apos : Pos} (ho : PE X o (tEx G Z W f)) (he : PE X e (tEx G Z W g)) (hK : X.K = G.K := by rfl) (hs : starEach [e] X.env = [(false, eval e X.env)] := by rfl) (hbase : attributeBase o "join" X.env (eval o X.env) = eval o X.env := by rfl) (hline : (apos.endLine == pos.line) = true := by rfl) :
    PE X (.Call (.Attribute o "join" apos) [e] [] pos) (tEx G Z W (cB pJoin f g)) :=
  imp_pe (pe_join ho he hs hbase hline) fun σ H Q ⟨B, O, ρ, s, d, s', eo, hR, hf, q⟩ => by
    unfold cB at hf
    obtain ⟨x, s1, h1, hf⟩ := bnd_some hf
    obtain ⟨y, s2, h2, hf⟩ := bnd_some hf
    obtain ⟨h3, rfl⟩ := put_some hf
    refine ⟨B, O, ρ, s, x, s1, eo, hR, h1, fun v H1 f1 r1 R1 => ?_⟩
    unfold pJoin at h3
    split at h3
    · split at h3
      · split at h3
        · rename_i hy hl
          cases h3
          simp only [Rep] at r1
          refine ⟨⟨_, r1⟩, B, O, ρ, s1, _, _, eo.fr f1, R1, h2, fun u H2 f2 r2 R2 => ?_⟩
          obtain ⟨b1, vs, rfl, _, h5, h6⟩ := r2.sqL
          rw [strs_some hy] at h6
          rw [h6.strs] at h5
          exact ⟨_, b1, _, r1, rfl, .inl (by rw [hK]; exact h5), hl, q _ H2 (f1.trans f2) (by simp only [Rep]) R2⟩
        · cases h3
      · cases h3
    · split at h3
      · split at h3
        · rename_i hy hl
          cases h3
          simp only [Rep] at r1
          refine ⟨⟨_, r1⟩, B, O, ρ, s1, _, _, eo.fr f1, R1, h2, fun u H2 f2 r2 R2 => ?_⟩
          obtain ⟨b1, vs, rfl, h5, h6⟩ := r2.sqT
          rw [strs_some hy] at h6
          rw [h6.strs] at h5
          exact ⟨_, b1, _, r1, rfl, .inr (by rw [hK]; exact h5), hl, q _ H2 (f1.trans f2) (by simp only [Rep]) R2⟩
        · cases h3
      · cases h3
    · cases h3
def aSplit (f g : Ev S) : Ea S := fun ρ s => bnd (f ρ s) fun x s => bnd (g ρ s) fun y s => match x, y with
  | .str a, .str b => if (b.length == 0) = false ∧ a.length + 2 ≤ sizeLine then some ((Txt.split a b).map .str, s) else none
  | _, _ => none
theorem nl_split {o : Expr} {apos : Pos} (ho : PE X o (tEx G Z W f)) (he : PE X e (tEx G Z W g)) (hs : starEach [e] X.env = [(false, eval e X.env)] := by rfl) (hbase : attributeBase o "split" X.env (eval o X.env) = eval o X.env := by rfl) (hline : (apos.endLine == pos.line) = true := by rfl) :
    PE X (.Call (.Attribute o "split" apos) [e] [] pos) (tNl G Z W (aSplit f g)) :=
  imp_pe (pe_split ho he hs hbase hline) fun σ H Q ⟨B, O, ρ, s, d, s', eo, hR, hf, q⟩ => by
    unfold aSplit at hf
    obtain ⟨x, s1, h1, hf⟩ := bnd_some hf
    obtain ⟨y, s2, h2, hf⟩ := bnd_some hf
    split at hf
    · split at hf
      · rename_i hc
        cases hf
        refine ⟨B, O, ρ, s, _, s1, eo, hR, h1, fun v H1 f1 r1 R1 => ?_⟩
        simp only [Rep] at r1
        refine ⟨⟨_, r1⟩, B, O, ρ, s1, _, _, eo.fr f1, R1, h2, fun u H2 f2 r2 R2 => ?_⟩
        simp only [Rep] at r2
        subst r2
        refine ⟨_, _, r1, rfl, hc.1, hc.2, fun l hl => ?_⟩
        exact q l _ _ ((f1.trans f2).free hl) ((f1.trans f2).trans (Lc.Fr.new hl)) upd_same reps_strs (Z.same R2 (Lc.same_new hl))
      · cases hf
    · cases hf
def pUpper : D → Option D
  | .str a => if a.length ≤ 5592405 then some (.str (Txt.upper a)) else none
  | _ => none
theorem ex_upper {o : Expr} {apos : Pos} (ho : PE X o (tEx G Z W f)) (hbase : attributeBase o "upper" X.env (eval o X.env) = eval o X.env := by rfl) (hline : (apos.endLine == pos.line) = true := by rfl) :
    PE X (.Call (.Attribute o "upper" apos) [] [] pos) (tEx G Z W (cU pUpper f)) :=
  imp_pe (pe_upper ho hbase hline) fun σ H Q ⟨B, O, ρ, s, d, s', eo, hR, hf, q⟩ => by
    unfold cU at hf
    obtain ⟨x, s1, h1, hf⟩ := bnd_some hf
    obtain ⟨h3, rfl⟩ := put_some hf
    refine ⟨B, O, ρ, s, x, _, eo, hR, h1, fun v H1 f1 r1 R1 => ?_⟩
    unfold pUpper at h3
    split at h3
    · split at h3
      · cases h3
        simp only [Rep] at r1
        exact ⟨⟨_, r1⟩, _, r1, rfl, by assumption, q _ H1 f1 (by simp only [Rep]) R1⟩
      · cases h3
    · cases h3
end
end Dl
set_option Elab.async false
set_option linter.all false
set_option maxRecDepth 100000
set_option maxHeartbeats 4000000
namespace Dl
open PySem PySem.Spec PyProof.Rows L2
section
variable {S : Type} {X : Cx} {G : Kx} {Z : Zk S} {W : List Nat} {f g : Ev S} {fa : Ea S} {F F' : Sv S} {a b c e tg : Expr} {es : List Expr} {st : Stmt} {rest : List Stmt} {pos p : Pos} {x : Str}
/-! ### own lists read -/
theorem et_weak {q : Et S} (h : PT X e (tEt G Z [] q)) : PT X e (tEt G Z W q) := imp_pt h fun σ H Q ⟨B, O, ρ, s, d, s', eo, hR, hf, k⟩ => ⟨B, fun _ => False, ρ, s, d, s', eo.weak, hR, hf, k⟩
def aFl (f : Ea S) : Ea S := fun ρ s => bnd (f ρ s) fun ds s => if flatDs ds = true then some (ds, s) else none
theorem nlw {σ : L2.St} {H : Hp} {Q : VK} (h : tNl G Z W (aFl fa) σ H Q) : tNl G Z [] fa σ H Q := by
  obtain ⟨B, O, ρ, s, d, s', eo, hR, hf, k⟩ := h
  unfold aFl at hf
  obtain ⟨ds, s1, h1, hf⟩ := bnd_some hf
  split at hf
  · rename_i hfl
    cases hf
    refine ⟨B, fun _ => False, ρ, s, d, _, eo.weak, hR, h1, fun p vs H' hp f1 h2 h3 R1 => k p vs H' hp f1 h2 ?_ R1⟩
    have e2 := eo.fr f1
    exact Reps.flat (B := fun a => B a ∨ a = p) e2.ol d vs hfl (h3.sub fun a z _ => .inl z)
  · cases hf
theorem nl_weak (h : PE X e (tNl G Z [] fa)) : PE X e (tNl G Z W (aFl fa)) := imp_pe h fun σ H Q q => nlw q
theorem ea_weak1 (h : PE X e (tEx G Z [] f)) : PE X e (tEx G Z W (cFl f)) := ex_weak h
/-! a name set to a new list, however it is made -/
theorem es_setNl {i : Nat} {t : TE} (h : PS X st (tAsg t (gName i))) (hn : ∀ σ H Q, tNl G Z W fa σ H Q → t σ H Q) (hw : W.contains i = false := by rfl) : PS X st (tSt G Z W (sSet i (cNl fa))) :=
  imp_ps h fun E σ H ⟨B, H0, O, ρ, s, r, s', sr, hf, k⟩ => by
    unfold sSet cNl at hf
    obtain ⟨d, s1, h1, hf⟩ := bnd_some hf
    obtain ⟨y, s2, h2, h1⟩ := bnd_some h1
    cases h1
    cases hf
    refine hn σ H _ ⟨B, O, ρ, s, y, _, sr.eo, sr.r, h2, fun p vs H' hp f1 h2 h3 R1 => ?_⟩
    have sr1 := sr.step f1 R1
    refine k O _ H' ⟨sr1.eo.set (by simpa using hw) ?_, sr1.fr, sr1.b0, sr1.o0, R1⟩ (Ch.of f1)
    simp only [Rep]
    exact ⟨p, vs, rfl, h2, sr.eo.new hp, h3.sub fun a z _ => z.elim (fun z => .inl (.inl z)) .inr⟩
theorem es_ownNl {i : Nat} {t : TE} (h : PS X st (tAsg t (gName i))) (hn : ∀ σ H Q, tNl G Z W fa σ H Q → t σ H Q) (hw : W.contains i = true := by rfl) : PS X st (tSt G Z W (sOwn i fa)) :=
  imp_ps h fun E σ H ⟨B, H0, O, ρ, s, r, s', sr, hf, k⟩ => by
    unfold sOwn at hf
    obtain ⟨d, s1, h1, hf⟩ := bnd_some hf
    cases hf
    refine hn σ H _ ⟨B, O, ρ, s, d, _, sr.eo, sr.r, h1, fun p vs H' hp f1 h2 h3 R1 => ?_⟩
    obtain ⟨sr2, ch2⟩ := sr.own (i := i) (by simpa using hw) hp f1 h2 h3 R1
    exact k _ _ H' sr2 ch2
/-! x op= e -/
def sAug (i : Nat) (p : D → D → Option D) (f : Ev S) : Sv S := fun ρ s => match ρ[i]? with
  | some (some x) => bnd (f ρ s) fun y s => match p x y with
    | some z => some (.nx (ρ.set i (some z)), s)
    | none => none
  | _ => none
theorem es_aug {i : Nat} {t : TIp} {q : D → D → Option D} (h : PS X st (tAug i (tEx G Z W f) t)) (ht : OpS G t q) (hw : W.contains i = false := by rfl) : PS X st (tSt G Z W (sAug i q f)) :=
  imp_ps h fun E σ H ⟨B, H0, O, ρ, s, r, s', sr, hf, k⟩ => by
    unfold sAug at hf
    split at hf
    · rename_i d hd
      obtain ⟨y, s1, h1, hf⟩ := bnd_some hf
      split at hf
      · rename_i z hz
        cases hf
        obtain ⟨v, h2, h3⟩ := sr.eo.er.pl i d (by simpa using hw) hd
        refine ⟨v, h2, B, O, ρ, s, y, _, sr.eo, sr.r, h1, fun u H1 f1 r1 R1 => ?_⟩
        have sr1 := sr.step f1 R1
        refine ht _ H1 v u d y z _ (fun a z => z.elim (sr1.eo.bd a) (sr1.eo.od a)) (h3.fr f1 fun a z => .inl (sr.mb a z)) r1 hz fun w H2 sm r2 => ?_
        have sr2 := sr1.step (Lc.Fr.of sm) (Z.same R1 sm)
        exact k O _ H2 ⟨sr2.eo.set (by simpa using hw) r2, sr2.fr, sr2.b0, sr2.o0, sr2.r⟩ (Ch.of (f1.trans (Lc.Fr.of sm)))
      · cases hf
    · cases hf
theorem os_ip {g : Int → Int → Int} : OpS G (ipI g) (pI0 fun i j => .int (g i j)) := by
  intro B H x y dx dy d Q bd hx hy hp q
  unfold pI0 at hp
  split at hp
  · cases hp
    simp only [Rep] at hx hy
    subst hx hy
    exact ⟨_, _, rfl, rfl, q _ H (Same.refl H) (by simp only [Rep])⟩
  · cases hp
/-! told.extend(..) -/
theorem es_ext {i : Nat} (h : PS X st (tDrop (tBM X.K "list" rExtend (tVar i) (tCons (tEx G Z W f) tNil)))) (hw : W.contains i = true := by rfl) : PS X st (tSt G Z W (sExt i f)) :=
  imp_ps h fun E σ H ⟨B, H0, O, ρ, s, r, s', sr, hf, q⟩ => by
    unfold sExt at hf
    split at hf
    · rename_i ds hd
      obtain ⟨d, s1, h1, hf⟩ := bnd_some hf
      split at hf
      · rename_i es
        split at hf
        · rename_i hl
          cases hf
          have hi : i ∈ W := by simpa using hw
          obtain ⟨P, ds', vs, hds, a2, a4, a5, a3, mu⟩ := sr.mut hi hd
          refine ⟨.ref P, a2, .inl ⟨rfl, vs, .inl (.inl a4)⟩, B, O, ρ, s, _, _, sr.eo, sr.r, h1, fun v H1 f1 r1 R1 => ?_⟩
          have sr1 := sr.step f1 R1
          obtain ⟨P1, ds1, vs1, hds1, b2, b4, b5, b3, mu1⟩ := sr1.mut hi hd
          rw [a2] at b2
          cases b2
          cases hds1
          obtain ⟨b, us, rfl, h3, _, h4⟩ := r1.sqL
          refine ⟨P, b, vs1, us, rfl, rfl, b4, h3, by rw [b5.len, h4.len]; exact hl, ?_⟩
          obtain ⟨sr2, ch2⟩ := mu1 (ds ++ es) (vs1 ++ us) (b5.append h4)
          exact q O σ _ sr2 ((Ch.of f1).trans ch2)
        · cases hf
      · cases hf
    · cases hf
theorem es_app2 {i : Nat} (h : PS X st (tDrop (tBM X.K "list" rAppend (tVar i) (tCons (tEx G Z W f) tNil)))) (hw : W.contains i = true := by rfl) : PS X st (tSt G Z W (sApp i f)) :=
  imp_ps h fun E σ H ⟨B, H0, O, ρ, s, r, s', sr, hf, q⟩ => by
    unfold sApp at hf
    split at hf
    · rename_i ds hd
      obtain ⟨d, s1, h1, hf⟩ := bnd_some hf
      split at hf
      · rename_i hl
        cases hf
        have hi : i ∈ W := by simpa using hw
        obtain ⟨P, ds', vs, hds, a2, a4, a5, a3, mu⟩ := sr.mut hi hd
        refine ⟨.ref P, a2, .inl ⟨rfl, vs, .inl (.inl a4)⟩, B, O, ρ, s, d, _, sr.eo, sr.r, h1, fun v H1 f1 r1 R1 => ?_⟩
        have sr1 := sr.step f1 R1
        obtain ⟨P1, ds1, vs1, hds1, b2, b4, b5, b3, mu1⟩ := sr1.mut hi hd
        rw [a2] at b2
        cases b2
        cases hds1
        refine ⟨P, vs1, v, rfl, rfl, b4, by rw [b5.len]; exact hl, ?_⟩
        obtain ⟨sr2, ch2⟩ := mu1 (ds ++ [d]) (vs1 ++ [v]) (b5.append (Reps.cons r1 Reps.nil))
        exact q O σ _ sr2 ((Ch.of f1).trans ch2)
      · cases hf
    · cases hf
/-! ### pairs: enumerate, zip -/
def pairD (x y : D) : D := .tuple [x, y]
def enumD (ds : List D) : List D := (List.range ds.length).zipWith (fun (i : Nat) d => pairD (.int i) d) ds
theorem enumD_len (ds : List D) : (enumD ds).length = ds.length := by simp [enumD]
theorem enumD_get {ds : List D} {i : Nat} {d : D} (h : (enumD ds)[i]? = some d) : ∃ e, ds[i]? = some e ∧ d = pairD (.int (i : Nat)) e := by
  unfold enumD at h
  rw [List.getElem?_zipWith] at h
  by_cases hi : i < ds.length
  · rw [List.getElem?_range hi, List.getElem?_eq_getElem hi] at h
    exact ⟨ds[i], List.getElem?_eq_getElem hi, by simpa using h.symm⟩
  · rw [List.getElem?_eq_none (by simpa using hi)] at h
    simp at h
theorem pair_rep {B : Bar} {H : Hp} {T : Addr} {v u : V} {x y : D} (bd : ∀ a, B a → H a ≠ none) (hT : H T = none) (hx : Rep G B H x v) (hy : Rep G B H y u) : Rep G B (upd H T (.tup [v, u])) (pairD x y) (.ref T) :=
  rep_tup bd hT (Reps.cons hx (Reps.cons hy Reps.nil))
def seqD : D → Option (List D)
  | .list ds => some ds
  | .tuple ds => some ds
  | _ => none
def pEnumT : List D → Option (List D)
  | [.tuple ds] => some (enumD ds)
  | _ => none
def pEnumL : List D → Option (List D)
  | [.list ds] => some (enumD ds)
  | _ => none
theorem ei_enumT {elts : List Expr} {kk : Nat} {tpos : Pos} (h : PI X (.Tuple elts kk tpos) (.Call (.Name "enumerate" p) [e] [] pos) (Lc.iEnumT X.K (tEa G Z W fa))) (hK : X.K = G.K := by rfl) : PI X (.Tuple elts kk tpos) (.Call (.Name "enumerate" p) [e] [] pos) (tIt G Z W (iOfA pEnumT fa)) :=
  imp_pi h fun σ H Q ⟨B, O, ρ, s, d, s', eo, hR, hf, q⟩ => by
    unfold iOfA at hf
    obtain ⟨y, s1, h1, hf⟩ := bnd_some hf
    obtain ⟨h3, rfl⟩ := put_some hf
    refine ⟨B, O, ρ, s, y, _, eo, hR, h1, fun v H1 f1 r1 R1 => ?_⟩
    unfold pEnumT at h3
    split at h3
    · cases h3
      simp only [Reps] at r1
      obtain ⟨v, r, rfl, h4, rfl⟩ := r1
      obtain ⟨a0, vs0, e0, hT, _⟩ := h4.sqT
      simp only [Rep] at h4
      obtain ⟨a, vs, e1, h5, h6⟩ := h4
      rw [e1] at e0
      injection e0 with e0
      subst e0
      subst e1
      rw [hK]
      refine ⟨a, vs0, rfl, hT, q _ H1 f1 ?_ R1⟩
      refine ⟨fun H => SqT G.K H a vs, _, by rw [enumD_len, ← h6.len]; exact Lc.walk_enumT, fun B2 H2 st dm => ⟨?_, fun i d x H3 hd y => ?_⟩⟩
      · rcases h5 with ⟨h5, n⟩ | h5
        · exact .inl (.inl (st _ _ h5 n).1)
        · exact .inr h5
      · obtain ⟨T, x1, x2, rfl, hT1, rfl, e1, e2⟩ := y
        obtain ⟨e, he, rfl⟩ := enumD_get hd
        obtain ⟨v, h7, h8⟩ := (h6.mv (B' := B2) (H' := H2) st).get he
        cases (show some v = some x2 from h7.symm.trans e2)
        cases (show some (V.int (i : Nat)) = some x1 from e1)
        exact ⟨Lc.same_new hT1, pair_rep dm hT1 (by simp only [Rep]) h8⟩
    · cases h3
theorem ei_enumL {elts : List Expr} {kk : Nat} {tpos : Pos} (h : PI X (.Tuple elts kk tpos) (.Call (.Name "enumerate" p) [e] [] pos) (iEnum X.K (tEa G Z W fa))) : PI X (.Tuple elts kk tpos) (.Call (.Name "enumerate" p) [e] [] pos) (tIt G Z W (iOfA pEnumL fa)) :=
  imp_pi h fun σ H Q ⟨B, O, ρ, s, d, s', eo, hR, hf, q⟩ => by
    unfold iOfA at hf
    obtain ⟨y, s1, h1, hf⟩ := bnd_some hf
    obtain ⟨h3, rfl⟩ := put_some hf
    refine ⟨B, O, ρ, s, y, _, eo, hR, h1, fun v H1 f1 r1 R1 => ?_⟩
    unfold pEnumL at h3
    split at h3
    · cases h3
      simp only [Reps] at r1
      obtain ⟨v, r, rfl, h4, rfl⟩ := r1
      simp only [Rep] at h4
      obtain ⟨a, vs, rfl, h5, n, h6⟩ := h4
      refine ⟨a, vs, rfl, .inl (.inl h5), q _ H1 f1 ?_ R1⟩
      refine ⟨fun H => SqL X.K H a vs, _, by rw [enumD_len, ← h6.len]; exact walk_enum, fun B2 H2 st dm => ⟨.inl (.inl (st _ _ h5 n).1), fun i d x H3 hd y => ?_⟩⟩
      obtain ⟨T, x1, x2, rfl, hT1, rfl, e1, e2⟩ := y
      obtain ⟨e, he, rfl⟩ := enumD_get hd
      obtain ⟨v, h7, h8⟩ := (h6.mv (B' := B2) (H' := H2) st).get he
      cases (show some v = some x2 from h7.symm.trans e2)
      cases (show some (V.int (i : Nat)) = some x1 from e1)
      exact ⟨Lc.same_new hT1, pair_rep dm hT1 (by simp only [Rep]) h8⟩
    · cases h3
/-! ### max, min of a list of ints; sorted -/
def maxI : List Int → Option Int
  | [] => none
  | n :: ns => some (ns.foldl max n)
theorem foldl_max (ns : List Int) : ∀ n : Int, (ns.foldl max n ∈ n :: ns) ∧ ∀ y ∈ n :: ns, y ≤ ns.foldl max n := by
  induction ns with
  | nil => intro n; simp
  | cons m ns ih =>
    intro n
    obtain ⟨h1, h2⟩ := ih (max n m)
    rw [List.foldl_cons]
    refine ⟨?_, fun y hy => ?_⟩
    · rcases List.mem_cons.mp h1 with h | h
      · rw [h]
        rw [Int.max_def]
        split <;> simp
      · simp [h]
    · have hm := h2 (max n m) (by simp)
      rcases List.mem_cons.mp hy with h | h
      · subst h; have : y ≤ max y m := Int.le_max_left _ _; omega
      · rcases List.mem_cons.mp h with h | h
        · subst h; have : y ≤ max n y := Int.le_max_right _ _; omega
        · exact h2 y (by simp [h])
def pMax : List D → Option D
  | [.list ds] => (dInts ds).bind fun ns => (maxI ns).map .int
  | _ => none
theorem os_max : CaS G (rMax G.K) pMax := by
  intro B H xs ds d Q bd hr hp q
  unfold pMax at hp
  split at hp
  · rw [Option.bind_eq_some_iff] at hp
    obtain ⟨ns, h0, hp⟩ := hp
    rw [Option.map_eq_some_iff] at hp
    obtain ⟨m, hm, rfl⟩ := hp
    simp only [Reps] at hr
    obtain ⟨v, r, rfl, h1, rfl⟩ := hr
    obtain ⟨a, vs, rfl, _, h2, h3⟩ := h1.sqL
    rw [ints_some h0] at h3
    rw [h3.ints] at h2
    cases ns with
    | nil => cases hm
    | cons n ns =>
      cases hm
      obtain ⟨g1, g2⟩ := foldl_max ns n
      refine ⟨a, n :: ns, rfl, h2, by simp, fun m hm hy => ?_⟩
      have : m = ns.foldl max n := Int.le_antisymm (g2 m hm) (hy _ g1)
      subst this
      exact q _ H (Same.refl H) (by simp only [Rep])
  · cases hp
/-- texts in order -/
def leS (a b : Str) : Bool := !decide (b.cps.toList < a.cps.toList)
def sortS (xs : List Str) : List Str := xs.mergeSort leS
end
end Dl
set_option Elab.async false
set_option linter.all false
set_option maxRecDepth 100000
set_option maxHeartbeats 4000000
namespace Dl
open PySem PySem.Spec PyProof.Rows L2
theorem Room_units65 {A : Around} {k : Nat} (hr : Room k A) : A.units + 65 < cLine := by have := hr.un; omega
section
variable {S : Type} {X : Cx} {G : Kx} {Z : Zk S} {W : List Nat} {f g h : Ev S} {fa : Ea S} {F F' : Sv S} {a b c e tg : Expr} {es : List Expr} {st : Stmt} {rest : List Stmt} {pos p : Pos} {x : Str}
theorem es_retN : PS X (.Return none pos) (tSt G Z W (sRet (cK .none))) := imp_ps ps_retN fun E σ H ⟨B, H0, O, ρ, s, r, s', sr, hf, q⟩ => by
  cases hf
  exact q .non H sr.fr (by simp only [Rep]) sr.r
theorem es_asgT {t : Tg} {vs : List Nat} (h : PS X st (tAsg (tEx G Z W f) (tTg G Z W vs t))) : PS X st (tSt G Z W (sAsg f t)) :=
  imp_ps h fun E σ H ⟨B, H0, O, ρ, s, r, s', sr, hf, q⟩ => by
    unfold sAsg at hf
    obtain ⟨d, s1, h1, hf⟩ := bnd_some hf
    split at hf
    · cases hf
    · rename_i ρ1 e1
      cases hf
      refine ⟨B, O, ρ, s, d, _, sr.eo, sr.r, h1, fun v H1 f1 r1 R1 => ?_⟩
      have sr1 := sr.step f1 R1
      exact ⟨B, O, ρ, d, ρ1, sr1.eo, r1, e1, fun σ2 eo2 _ => q O _ H1 ⟨eo2, sr1.fr, sr1.b0, sr1.o0, R1⟩ (Ch.of f1)⟩
theorem nl_lcT {fi : Ea S} {t : Tg} {us vs : List Nat} {q : Et S} {tt : TT} {σ : L2.St} {H : Hp} {Q : VK} (hu : ∀ i ∈ us, i ∈ vs) (hq : ∀ σ H Q, tEt G Z W q σ H Q → tt σ H Q) (h : tNl G Z W (lcF fi t q f vs) σ H Q) : tLc (tIt G Z W fi) (tTg G Z W us t) tt (tEx G Z W f) vs σ H Q := by
  obtain ⟨B, O, ρ, s, d, s', eo, hR, hf, k⟩ := h
  exact lc_new hu hq eo hR hf k
def pNeg : D → Option D
  | .int i => some (.int (-i))
  | _ => none
theorem us_neg : UnS G (rU fun i => .int (-i)) pNeg := by
  intro B H x dx d Q bd hx hp q
  unfold pNeg at hp
  split at hp
  · cases hp
    simp only [Rep] at hx
    subst hx
    exact ⟨_, rfl, q _ H (Same.refl H) (by simp only [Rep])⟩
  · cases hp
theorem et_chain {op op' : CmpOp} {q q' : D → D → Option D} (ha : PE X (.Compare a [op, op'] [b, c] pos) (tEx G Z W (cCh q q' f g h))) (hK : X.K = G.K := by rfl) (he : ∀ whole, isTrue (.Compare a [op, op'] [b, c] pos) X.env whole = (do let v ← whole; standAt (Expr.Compare a [op, op'] [b, c] pos).pos; holding [v] (truthy v)) := by intro _; rfl) : PT X (.Compare a [op, op'] [b, c] pos) (tEt G Z W (qT (cCh q q' f g h))) := et_val ha he hK
/-! list of a text -/
def pListS : List D → Option (List D)
  | [.str z] => some (z.cps.toList.map fun c => .str ⟨#[c]⟩)
  | _ => none
/-! sorted of texts -/
theorem ltCps_lt (a b : List Nat) : ltCps a b = decide (a < b) := by
  induction a generalizing b with
  | nil => cases b <;> simp [ltCps]
  | cons x a ih =>
    cases b with
    | nil => simp [ltCps]
    | cons y b =>
      simp only [ltCps, ih]
      by_cases h1 : x < y
      · simp [h1, List.cons_lt_cons_iff]
      · by_cases h2 : x = y
        · subst h2; simp [List.cons_lt_cons_iff]
        · simp [h1, h2, List.cons_lt_cons_iff]
theorem leS_tr {a b c : Str} (h : leS a b = true) (g : leS b c = true) : leS a c = true := by
  simp only [leS, Bool.not_eq_true', decide_eq_false_iff_not, List.not_lt] at *
  exact List.le_trans h g
theorem leS_tot (a b : Str) : (leS a b || leS b a) = true := by
  simp only [leS, Bool.or_eq_true, Bool.not_eq_true', decide_eq_false_iff_not, List.not_lt]
  exact List.le_total _ _
theorem leS_anti {a b : Str} (h : leS a b = true) (g : leS b a = true) : a = b := by
  simp only [leS, Bool.not_eq_true', decide_eq_false_iff_not, List.not_lt] at *
  have := List.le_antisymm h g
  obtain ⟨a⟩ := a
  obtain ⟨b⟩ := b
  have e : a = b := Array.toList_inj.mp this
  rw [e]
theorem rising_pw : ∀ {p : Str} {r : List Str}, risingS p r = true → (p :: r).Pairwise (fun a b => leS a b = true)
  | p, [], _ => by simp
  | p, x :: r, h => by
    unfold risingS at h
    rw [Bool.and_eq_true] at h
    have ih := rising_pw h.2
    have hpx : leS p x = true := by
      unfold leS
      rw [← ltCps_lt]
      exact h.1
    refine List.pairwise_cons.mpr ⟨fun y hy => ?_, ih⟩
    rcases List.mem_cons.mp hy with rfl | hy
    · exact hpx
    · exact leS_tr hpx ((List.pairwise_cons.mp ih).1 y hy)
theorem sorted_pw {xs : List Str} (h : sortedS xs = true) : xs.Pairwise (fun a b => leS a b = true) := by
  cases xs with
  | nil => simp
  | cons x r => exact rising_pw h
theorem pw_unique {le : Str → Str → Bool} (anti : ∀ a b, le a b = true → le b a = true → a = b) : ∀ {xs ys : List Str}, xs.Perm ys → xs.Pairwise (fun a b => le a b = true) → ys.Pairwise (fun a b => le a b = true) → xs = ys
  | [], ys, h, _, _ => (List.nil_perm.mp h).symm
  | x :: xs, [], h, _, _ => absurd h.length_eq (by simp)
  | x :: xs, y :: ys, h, h1, h2 => by
    have h1' := List.pairwise_cons.mp h1
    have h2' := List.pairwise_cons.mp h2
    have e : x = y := by
      have hx : x ∈ y :: ys := h.mem_iff.mp List.mem_cons_self
      have hy : y ∈ x :: xs := h.mem_iff.mpr List.mem_cons_self
      rcases List.mem_cons.mp hx with hx | hx
      · exact hx
      · rcases List.mem_cons.mp hy with hy | hy
        · exact hy.symm
        · exact anti x y (h1'.1 y hy) (h2'.1 x hx)
    subst e
    rw [pw_unique anti ((List.perm_cons x).mp h) h1'.2 h2'.2]
theorem sortS_eq {xs ys : List Str} (h : ys.Perm xs) (hs : sortedS ys = true) : ys = sortS xs := by
  refine pw_unique (le := leS) (fun a b => leS_anti) (h.trans (List.mergeSort_perm xs leS).symm) (sorted_pw hs) ?_
  exact List.pairwise_mergeSort (le := leS) (fun a b c h g => leS_tr h g) (fun a b => leS_tot a b) xs
theorem sortS_perm (xs : List Str) : (sortS xs).Perm xs := List.mergeSort_perm xs leS
theorem sortS_pw (xs : List Str) : (sortS xs).Pairwise (fun a b => leS a b = true) := List.pairwise_mergeSort (le := leS) (fun a b c h g => leS_tr h g) (fun a b => leS_tot a b) xs
def pSorted : List D → Option (List D)
  | [.list ds] => match dStrs ds with
    | some xs => if xs.length < 64 then some ((sortS xs).map .str) else none
    | none => none
  | _ => none
theorem on_sorted : CaN G (rSortedS G.K) pSorted := by
  intro B H xs ds es Q bd hr hp q
  unfold pSorted at hp
  split at hp
  · split at hp
    · rename_i xs' hx
      split at hp
      · rename_i hl
        cases hp
        simp only [Reps] at hr
        obtain ⟨v, r, rfl, h1, rfl⟩ := hr
        obtain ⟨a, vs, rfl, _, h2, h3⟩ := h1.sqL
        rw [strs_some hx] at h3
        rw [h3.strs] at h2
        refine ⟨a, xs', rfl, h2, hl, fun ys p hp hs hn => ?_⟩
        have := sortS_eq hp hs
        subst this
        exact q p _ hn reps_strs
      · cases hp
    · cases hp
  · cases hp
def pListS1 : List D → Option (List D)
  | [.str z] => if z.length ≤ sizeLine then some (z.cps.toList.map fun c => .str ⟨#[c]⟩) else none
  | _ => none
theorem on_listS : CaN G (fun xs H Q => ∃ z : Str, xs = [.str z] ∧ z.length ≤ sizeLine ∧ ∀ l, H l = none → Q (.ref l) (upd H l (.lst (z.cps.toList.map fun d => V.str ⟨#[d]⟩)))) pListS1 := by
  intro B H xs ds es Q bd hr hp q
  unfold pListS1 at hp
  split at hp
  · split at hp
    · cases hp
      simp only [Reps, Rep] at hr
      obtain ⟨v, r, rfl, rfl, rfl⟩ := hr
      refine ⟨_, rfl, by assumption, fun l hl => q l _ hl ?_⟩
      rename_i z _ 
      have : (z.cps.toList.map fun c => (PyData.str ⟨#[c]⟩ : D)) = (z.cps.toList.map fun c => (⟨#[c]⟩ : Str)).map PyData.str := by simp
      rw [this]
      have : (z.cps.toList.map fun c => (V.str ⟨#[c]⟩ : V)) = (z.cps.toList.map fun c => (⟨#[c]⟩ : Str)).map V.str := by simp
      rw [this]
      exact reps_strs
    · cases hp
  · cases hp
end
end Dl
set_option Elab.async false
set_option linter.all false
set_option maxRecDepth 100000
set_option maxHeartbeats 4000000
/-! the deck that a law draws from -/
namespace Dl
open PySem PySem.Spec PyProof.Rows L2
/-- cells, seed, how many were drawn -/
abbrev DS := List Int × Int × Int
def DkS (d c : Addr) (H : Hp) (s : DS) : Prop := H d = some (.lst [.ref c, .int s.2.1, .int s.2.2]) ∧ H c = some (.lst (s.1.map V.int)) ∧ s.1.length ≤ 63
abbrev MD (d c : Addr) : Addr → Prop := fun b => b = d ∨ b = c
theorem lst_ne {c : Addr} {n s : Int} (cells : List Int) : HO.lst [.ref c, .int n, .int s] ≠ HO.lst (cells.map V.int) := by
  intro z
  have z := HO.lst.inj z
  cases cells with
  | nil => cases z
  | cons x r => cases z
def drawF (s : DS) (m : Int) : Int × DS := match s with
  | ([], n, k) => (((n + 7919 * (k + 1)) * 48271 % 2147483647 * ((n + 7919 * (k + 1)) * 48271 % 2147483647) + 69621 * (k + 1)) % 2147483629 * 16807 % 2147483647 % m, ([], n, k + 1))
  | (x :: r, n, k) => if 10 ^ 18 ≤ x then (x % m, (x / m :: r, n, k + 1)) else
      (((x % 2147483647 + 7919 * (k + 1)) * 48271 % 2147483647 * ((x % 2147483647 + 7919 * (k + 1)) * 48271 % 2147483647) + 69621 * ((x % 2147483647 + 7919 * (k + 1)) * 48271 % 2147483647)) % 2147483629 * 16807 % 2147483647 % m, (r, n, k + 1))
theorem drawF_range (s : DS) {m : Int} (hm : 0 < m) : 0 ≤ (drawF s m).1 ∧ (drawF s m).1 < m := by
  have fin : ∀ r : Int, 0 ≤ r % m ∧ r % m < m := fun r => ⟨Int.emod_nonneg _ (by omega), Int.emod_lt_of_pos _ hm⟩
  obtain ⟨cells, n, k⟩ := s
  unfold drawF
  split
  · exact fin _
  · split
    · exact fin _
    · exact fin _
def Zd (d c : Addr) : Zk DS where
  M := MD d c
  R := DkS d c
  dom := fun H s a h m => by
    obtain ⟨h1, h2, _⟩ := h
    rcases m with rfl | rfl
    · rw [h1]; simp
    · rw [h2]; simp
  loc := fun H H' s h k => ⟨(k d (.inl rfl)).trans h.1, (k c (.inr rfl)).trans h.2.1, h.2.2⟩
abbrev hdD (d : Addr) : Nat → Addr → Prop := fun n a => n = 0 ∧ a = d
/-- a draw below m -/
def Fdraw : Fn DS := fun ds s => match ds with
  | [.dict [(.int 0, .none)], .int m] => if 0 < m ∧ m < 1073741824 then some (.int (drawF s m).1, (drawF s m).2) else none
  | _ => none
theorem fdraw {s : DS} {m : Int} (h : 0 < m) (h2 : m < 1073741824) : Fdraw [hnd 0, .int m] s = some (.int (drawF s m).1, (drawF s m).2) := by
  show (if 0 < m ∧ m < 1073741824 then some (PyData.int (drawF s m).1, (drawF s m).2) else none) = _
  rw [if_pos ⟨h, h2⟩]
end Dl
set_option Elab.async false
set_option linter.all false
set_option maxRecDepth 100000
set_option maxHeartbeats 4000000
/-! functions on data: what they come to -/
namespace Dl
open PySem PySem.Spec PyProof.Rows L2
def Ok {α S : Type} (o : Option (α × S)) (Q : α → S → Prop) : Prop := ∃ a s, o = some (a, s) ∧ Q a s
section
variable {α β S : Type}
theorem Ok.imp {o : Option (α × S)} {Q R : α → S → Prop} (h : Ok o Q) (k : ∀ a s, Q a s → R a s) : Ok o R := let ⟨a, s, e, q⟩ := h; ⟨a, s, e, k a s q⟩
theorem Ok.of {o : Option (α × S)} {Q : α → S → Prop} {a : α} {s : S} (e : o = some (a, s)) (q : Q a s) : Ok o Q := ⟨a, s, e, q⟩
theorem ok_bnd {f : Option (α × S)} {k : α → S → Option (β × S)} {Q : β → S → Prop} : Ok (bnd f k) Q ↔ Ok f fun a s => Ok (k a s) Q := by
  constructor
  · rintro ⟨b, s, e, q⟩
    obtain ⟨a, s1, h1, h2⟩ := bnd_some e
    exact ⟨a, s1, h1, b, s, h2, q⟩
  · rintro ⟨a, s1, rfl, b, s, h2, q⟩
    exact ⟨b, s, h2, q⟩
@[simp] theorem ok_some {a : α} {s : S} {Q : α → S → Prop} : Ok (some (a, s)) Q ↔ Q a s := by
  constructor
  · rintro ⟨b, s', e, q⟩
    cases e
    exact q
  · intro q
    exact ⟨a, s, rfl, q⟩
@[simp] theorem ok_none {Q : α → S → Prop} : Ok (none : Option (α × S)) Q ↔ False := by
  constructor
  · rintro ⟨b, s', e, q⟩
    cases e
  · exact False.elim
theorem ok_put {o : Option α} {s : S} {Q : α → S → Prop} : Ok (put o s) Q ↔ ∃ a, o = some a ∧ Q a s := by
  constructor
  · rintro ⟨b, s', e, q⟩
    obtain ⟨h1, rfl⟩ := put_some e
    exact ⟨b, h1, q⟩
  · rintro ⟨a, rfl, q⟩
    exact ⟨a, s, rfl, q⟩
theorem ok_ite {c : Prop} [Decidable c] {x y : Option (α × S)} {Q : α → S → Prop} : Ok (if c then x else y) Q ↔ (c → Ok x Q) ∧ (¬ c → Ok y Q) := by
  by_cases h : c
  · simp [h]
  · simp [h]
/-! how combinators come to something -/
variable {ρ : Rho} {s : S} {f g : Ev S} {fa : Ea S}
theorem k_var {i : Nat} {d : D} {Q : D → S → Prop} (h : ρ[i]? = some (some d)) (q : Q d s) : Ok (cVar i ρ s) Q := ⟨d, s, by unfold cVar; rw [h], q⟩
theorem k_K {d : D} {Q : D → S → Prop} (q : Q d s) : Ok (cK d ρ s) Q := ⟨d, s, rfl, q⟩
theorem k_B {p : D → D → Option D} {Q : D → S → Prop} (h : Ok (f ρ s) fun x s => Ok (g ρ s) fun y s => ∃ z, p x y = some z ∧ Q z s) : Ok (cB p f g ρ s) Q := by
  unfold cB
  rw [ok_bnd]
  refine h.imp fun x s h => ?_
  rw [ok_bnd]
  exact h.imp fun y s h => ok_put.mpr h
theorem k_U {p : D → Option D} {Q : D → S → Prop} (h : Ok (f ρ s) fun x s => ∃ z, p x = some z ∧ Q z s) : Ok (cU p f ρ s) Q := by
  unfold cU
  rw [ok_bnd]
  exact h.imp fun x s h => ok_put.mpr h
theorem k_nil {Q : List D → S → Prop} (q : Q [] s) : Ok (aNil ρ s) Q := ⟨[], s, rfl, q⟩
theorem k_cons {Q : List D → S → Prop} (h : Ok (f ρ s) fun x s => Ok (fa ρ s) fun xs s => Q (x :: xs) s) : Ok (aCons f fa ρ s) Q := by
  unfold aCons
  rw [ok_bnd]
  refine h.imp fun x s h => ?_
  rw [ok_bnd]
  exact h.imp fun y s h => ok_some.mpr h
theorem k_N {p : List D → Option D} {Q : D → S → Prop} (h : Ok (fa ρ s) fun xs s => ∃ z, p xs = some z ∧ Q z s) : Ok (cN p fa ρ s) Q := by
  unfold cN
  rw [ok_bnd]
  exact h.imp fun x s h => ok_put.mpr h
theorem k_call {n : Nat} {F : Fn S} {Q : D → S → Prop} (h : Ok (fa ρ s) fun xs s => xs.length = n ∧ Ok (F xs s) Q) : Ok (cCall n F fa ρ s) Q := by
  unfold cCall
  rw [ok_bnd]
  exact h.imp fun x s h => by rw [if_pos h.1]; exact h.2
theorem k_nl {fa : Ea S} {Q : D → S → Prop} (h : Ok (fa ρ s) fun xs s => Q (.list xs) s) : Ok (cNl fa ρ s) Q := by
  unfold cNl
  rw [ok_bnd]
  exact h.imp fun x s h => ok_some.mpr h
theorem k_fl {Q : D → S → Prop} (h : Ok (f ρ s) fun x s => flatD x = true ∧ Q x s) : Ok (cFl f ρ s) Q := by
  unfold cFl
  rw [ok_bnd]
  exact h.imp fun x s h => by rw [if_pos h.1]; exact ok_some.mpr h.2
theorem k_afl {Q : List D → S → Prop} (h : Ok (fa ρ s) fun x s => flatDs x = true ∧ Q x s) : Ok (aFl fa ρ s) Q := by
  unfold aFl
  rw [ok_bnd]
  exact h.imp fun x s h => by rw [if_pos h.1]; exact ok_some.mpr h.2
theorem k_aN {p : List D → Option (List D)} {Q : List D → S → Prop} (h : Ok (fa ρ s) fun xs s => ∃ z, p xs = some z ∧ Q z s) : Ok (aN p fa ρ s) Q := by
  unfold aN
  rw [ok_bnd]
  exact h.imp fun x s h => ok_put.mpr h
theorem k_aCat {Q : List D → S → Prop} (h : Ok (f ρ s) fun x s => ∃ a, x = .list a ∧ Ok (g ρ s) fun y s => ∃ b, y = .list b ∧ a.length + b.length ≤ sizeLine ∧ Q (a ++ b) s) : Ok (aCat f g ρ s) Q := by
  unfold aCat
  rw [ok_bnd]
  refine h.imp fun x s ⟨a, e, h⟩ => ?_
  subst e
  rw [ok_bnd]
  refine h.imp fun y s ⟨b, e, hl, h⟩ => ?_
  subst e
  simp only
  rw [if_pos hl]
  exact ok_some.mpr h
theorem k_T {Q : Bool → S → Prop} (h : Ok (f ρ s) fun x s => ∃ b, truth x = some b ∧ Q b s) : Ok (qT f ρ s) Q := by
  unfold qT
  rw [ok_bnd]
  exact h.imp fun x s h => ok_put.mpr h
theorem k_qNot {q : Et S} {Q : Bool → S → Prop} (h : Ok (q ρ s) fun b s => Q (!b) s) : Ok (qNot q ρ s) Q := by
  unfold qNot
  rw [ok_bnd]
  exact h.imp fun x s h => ok_some.mpr h
theorem k_qAnd {q r : Et S} {Q : Bool → S → Prop} (h : Ok (q ρ s) fun b s => if b = true then Ok (r ρ s) Q else Q false s) : Ok (qAnd q r ρ s) Q := by
  unfold qAnd
  rw [ok_bnd]
  refine h.imp fun b s h => ?_
  cases b <;> simpa using h
theorem k_qOr {q r : Et S} {Q : Bool → S → Prop} (h : Ok (q ρ s) fun b s => if b = true then Q true s else Ok (r ρ s) Q) : Ok (qOr q r ρ s) Q := by
  unfold qOr
  rw [ok_bnd]
  refine h.imp fun b s h => ?_
  cases b <;> simpa using h
theorem k_and {Q : D → S → Prop} (h : Ok (f ρ s) fun x s => ∃ b, truth x = some b ∧ if b = true then Ok (g ρ s) Q else Q x s) : Ok (cAnd f g ρ s) Q := by
  unfold cAnd
  rw [ok_bnd]
  refine h.imp fun x s ⟨b, e, h⟩ => ?_
  rw [ok_bnd, e]
  simp only [put_of, ok_some]
  cases b <;> simpa using h
theorem k_or {Q : D → S → Prop} (h : Ok (f ρ s) fun x s => ∃ b, truth x = some b ∧ if b = true then Q x s else Ok (g ρ s) Q) : Ok (cOr f g ρ s) Q := by
  unfold cOr
  rw [ok_bnd]
  refine h.imp fun x s ⟨b, e, h⟩ => ?_
  rw [ok_bnd, e]
  simp only [put_of, ok_some]
  cases b <;> simpa using h
theorem k_not {Q : D → S → Prop} (h : Ok (f ρ s) fun x s => ∃ b, truth x = some b ∧ Q (.bool (!b)) s) : Ok (cNot f ρ s) Q := by
  unfold cNot
  rw [ok_bnd]
  refine h.imp fun x s ⟨b, e, h⟩ => ?_
  rw [ok_bnd, e]
  simpa using h
theorem k_if {q : Et S} {Q : D → S → Prop} (h : Ok (q ρ s) fun b s => if b = true then Ok (f ρ s) Q else Ok (g ρ s) Q) : Ok (cIf q f g ρ s) Q := by
  unfold cIf
  rw [ok_bnd]
  refine h.imp fun b s h => ?_
  cases b <;> simpa using h
theorem k_Sl {p : D → Option Int → Option Int → Option D} {l h : Eo' S} {Q : D → S → Prop} (hh : Ok (f ρ s) fun x s => Ok (l ρ s) fun lo s => Ok (h ρ s) fun hi s => ∃ z, p x lo hi = some z ∧ Q z s) : Ok (cSl p f l h ρ s) Q := by
  unfold cSl
  rw [ok_bnd]
  refine hh.imp fun x s hh => ?_
  rw [ok_bnd]
  refine hh.imp fun x s hh => ?_
  rw [ok_bnd]
  exact hh.imp fun x s hh => ok_put.mpr hh
theorem k_oNo {Q : Option Int → S → Prop} (q : Q none s) : Ok (oNo ρ s) Q := ⟨none, s, rfl, q⟩
theorem k_oOf {Q : Option Int → S → Prop} (h : Ok (f ρ s) fun x s => ∃ i, x = .int i ∧ Q (some i) s) : Ok (oOf f ρ s) Q := by
  unfold oOf
  rw [ok_bnd]
  refine h.imp fun x s ⟨i, e, h⟩ => ?_
  subst e
  exact ok_put.mpr ⟨some i, rfl, h⟩
theorem k_Ch {p q : D → D → Option D} {h : Ev S} {Q : D → S → Prop} (hh : Ok (f ρ s) fun x s => Ok (g ρ s) fun y s => ∃ b, p x y = some (.bool b) ∧ if b = true then Ok (h ρ s) fun w s => ∃ z, q y w = some z ∧ Q z s else Q (.bool false) s) : Ok (cCh p q f g h ρ s) Q := by
  unfold cCh
  rw [ok_bnd]
  refine hh.imp fun x s hh => ?_
  rw [ok_bnd]
  refine hh.imp fun y s ⟨b, e, hh⟩ => ?_
  rw [ok_bnd, e]
  simp only [put_of, ok_some]
  rw [ok_bnd]
  simp only [asB, put_of, ok_some]
  cases b with
  | true =>
    simp only [if_true] at hh ⊢
    rw [ok_bnd]
    exact hh.imp fun x s hh => ok_put.mpr hh
  | false => simpa using hh
/-! statements -/
variable {F F' : Sv S} {Q : Rs → S → Prop}
theorem k_seq (h : Ok (F ρ s) fun r s => match r with | .nx ρ' => Ok (F' ρ' s) Q | r => Q r s) : Ok (sSeq F F' ρ s) Q := by
  obtain ⟨r, s', e, h⟩ := h
  unfold sSeq
  rw [e]
  cases r with
  | nx ρ' => exact h
  | rt d => exact ⟨_, _, rfl, h⟩
  | bk d => exact ⟨_, _, rfl, h⟩
  | ct d => exact ⟨_, _, rfl, h⟩
theorem k_set {i : Nat} (h : Ok (f ρ s) fun d s => Q (.nx (ρ.set i (some d))) s) : Ok (sSet i f ρ s) Q := by
  unfold sSet
  rw [ok_bnd]
  exact h.imp fun x s h => ok_some.mpr h
theorem k_own {i : Nat} (h : Ok (fa ρ s) fun d s => Q (.nx (ρ.set i (some (.list d)))) s) : Ok (sOwn i fa ρ s) Q := by
  unfold sOwn
  rw [ok_bnd]
  exact h.imp fun x s h => ok_some.mpr h
theorem k_ret (h : Ok (f ρ s) fun d s => Q (.rt d) s) : Ok (sRet f ρ s) Q := by
  unfold sRet
  rw [ok_bnd]
  exact h.imp fun x s h => ok_some.mpr h
theorem k_sIf {q : Et S} (h : Ok (q ρ s) fun b s => if b = true then Ok (F ρ s) Q else Ok (F' ρ s) Q) : Ok (sIf q F F' ρ s) Q := by
  unfold sIf
  rw [ok_bnd]
  refine h.imp fun b s h => ?_
  cases b <;> simpa using h
theorem k_nx (h : Q (.nx ρ) s) : Ok (sNx ρ s) Q := ⟨_, _, rfl, h⟩
theorem k_ct (h : Q (.ct ρ) s) : Ok (sCt ρ s) Q := ⟨_, _, rfl, h⟩
theorem k_asg {t : Tg} (h : Ok (f ρ s) fun d s => ∃ ρ', t d ρ = some ρ' ∧ Q (.nx ρ') s) : Ok (sAsg f t ρ s) Q := by
  unfold sAsg
  rw [ok_bnd]
  refine h.imp fun x s ⟨ρ', e, h⟩ => ?_
  rw [e]
  exact ok_some.mpr h
theorem k_app {i : Nat} {ds : List D} (hd : ρ[i]? = some (some (.list ds))) (hl : ds.length < sizeLine) (h : Ok (f ρ s) fun d s => Q (.nx (ρ.set i (some (.list (ds ++ [d]))))) s) : Ok (sApp i f ρ s) Q := by
  unfold sApp
  rw [hd]
  simp only
  rw [ok_bnd]
  refine h.imp fun x s h => ?_
  rw [if_pos hl]
  exact ok_some.mpr h
theorem k_aug {i : Nat} {p : D → D → Option D} {x : D} (hd : ρ[i]? = some (some x)) (h : Ok (f ρ s) fun y s => ∃ z, p x y = some z ∧ Q (.nx (ρ.set i (some z))) s) : Ok (sAug i p f ρ s) Q := by
  unfold sAug
  rw [hd]
  simp only
  rw [ok_bnd]
  refine h.imp fun y s ⟨z, e, h⟩ => ?_
  rw [e]
  exact ok_some.mpr h
theorem k_loop {t : Tg} {body : Sv S} (Iv : Nat → Rho → S → Prop) : ∀ (ds : List D) (i : Nat) (ρ : Rho) (s : S), Iv i ρ s →
    (∀ j d ρ s, ds[j]? = some d → Iv (i + j) ρ s → ∃ ρ1, t d ρ = some ρ1 ∧ Ok (body ρ1 s) fun r s => match r with | .nx ρ => Iv (i + j + 1) ρ s | .ct ρ => Iv (i + j + 1) ρ s | .bk ρ => Q (.nx ρ) s | .rt d => Q (.rt d) s) →
    (∀ ρ s, Iv (i + ds.length) ρ s → Q (.nx ρ) s) → Ok (loopF t body ds ρ s) Q
  | [], i, ρ, s, h, _, e => ⟨_, _, rfl, e ρ s h⟩
  | d :: ds, i, ρ, s, h, k, e => by
    obtain ⟨ρ1, h1, r, s1, h2, h3⟩ := k 0 d ρ s rfl h
    unfold loopF
    rw [h1]
    simp only
    rw [h2]
    have go : ∀ ρ s, Iv (i + 1) ρ s → Ok (loopF t body ds ρ s) Q := fun ρ s h => k_loop Iv ds (i + 1) ρ s h (fun j d' ρ s hd hI => by
      have := k (j + 1) d' ρ s (by simpa using hd) (by rw [show i + (j + 1) = i + 1 + j by omega]; exact hI)
      rw [show i + (j + 1) + 1 = i + 1 + j + 1 by omega] at this
      exact this) (fun ρ s hI => e ρ s (by rw [List.length_cons, show i + (ds.length + 1) = i + 1 + ds.length by omega]; exact hI))
    cases r with
    | nx ρ' => exact go ρ' s1 h3
    | ct ρ' => exact go ρ' s1 h3
    | bk ρ' => exact ⟨_, _, rfl, h3⟩
    | rt d => exact ⟨_, _, rfl, h3⟩
theorem k_for {fi : Ea S} {t : Tg} {body : Sv S} (h : Ok (fi ρ s) fun ds s => ∃ Iv : Nat → Rho → S → Prop, Iv 0 ρ s ∧
    (∀ j d ρ s, ds[j]? = some d → Iv j ρ s → ∃ ρ1, t d ρ = some ρ1 ∧ Ok (body ρ1 s) fun r s => match r with | .nx ρ => Iv (j + 1) ρ s | .ct ρ => Iv (j + 1) ρ s | .bk ρ => Q (.nx ρ) s | .rt d => Q (.rt d) s) ∧
    (∀ ρ s, Iv ds.length ρ s → Q (.nx ρ) s)) : Ok (sFor fi t body ρ s) Q := by
  unfold sFor
  rw [ok_bnd]
  refine h.imp fun ds s ⟨Iv, h0, h1, h2⟩ => ?_
  exact k_loop Iv ds 0 ρ s h0 (fun j d ρ s hd hI => by rw [Nat.zero_add] at *; exact h1 j d ρ s hd hI) (fun ρ s hI => h2 ρ s (by rw [Nat.zero_add] at hI; exact hI))
theorem k_fn {n : Nat} {ds : List D} {Q : D → S → Prop} (h : Ok (F (startR n ds) s) fun r s => match r with | .rt d => Q d s | .nx _ => Q .none s | _ => False) : Ok (fnD n F ds s) Q := by
  obtain ⟨r, s', e, h⟩ := h
  unfold fnD
  rw [e]
  cases r with
  | rt d => exact ⟨_, _, rfl, h⟩
  | nx ρ => exact ⟨_, _, rfl, h⟩
  | bk _ => exact h.elim
  | ct _ => exact h.elim
theorem k_it {p : D → Option (List D)} {Q : List D → S → Prop} (h : Ok (f ρ s) fun x s => ∃ z, p x = some z ∧ Q z s) : Ok (iOf p f ρ s) Q := by
  unfold iOf
  rw [ok_bnd]
  exact h.imp fun x s h => ok_put.mpr h
theorem k_itA {p : List D → Option (List D)} {Q : List D → S → Prop} (h : Ok (fa ρ s) fun x s => ∃ z, p x = some z ∧ Q z s) : Ok (iOfA p fa ρ s) Q := by
  unfold iOfA
  rw [ok_bnd]
  exact h.imp fun x s h => ok_put.mpr h
/-- a comprehension by an invariant of what is made so far -/
theorem k_comp {t : Tg} {q : Et S} (P : Nat → List D → S → Prop) {Q : List D → S → Prop} : ∀ (ds : List D) (i : Nat) (acc : List D) (s : S), P i acc s →
    (∀ j d acc s, ds[j]? = some d → P (i + j) acc s → ∃ ρ1, t d ρ = some ρ1 ∧ Ok (q ρ1 s) fun b s => if b = true then Ok (f ρ1 s) fun y s => P (i + j + 1) (acc ++ [y]) s else P (i + j + 1) acc s) →
    (∀ acc s, P (i + ds.length) acc s → Q acc s) → Ok (compF t q f ρ ds s) fun ys s => Q (acc ++ ys) s
  | [], i, acc, s, h, _, e => ⟨_, _, rfl, by show Q (acc ++ []) s; rw [List.append_nil]; exact e acc s h⟩
  | d :: ds, i, acc, s, h, k, e => by
    obtain ⟨ρ1, h1, b, s1, h2, h3⟩ := k 0 d acc s rfl h
    unfold compF
    rw [h1]
    simp only
    rw [h2, bnd_of]
    have go : ∀ acc s, P (i + 1) acc s → Ok (compF t q f ρ ds s) fun ys s => Q (acc ++ ys) s := fun acc s h => k_comp P ds (i + 1) acc s h (fun j d' acc s hd hI => by
      have := k (j + 1) d' acc s (by simpa using hd) (by rw [show i + (j + 1) = i + 1 + j by omega]; exact hI)
      rw [show i + (j + 1) + 1 = i + 1 + j + 1 by omega] at this
      exact this) (fun acc s hI => e acc s (by rw [List.length_cons, show i + (ds.length + 1) = i + 1 + ds.length by omega]; exact hI))
    cases b with
    | false => exact go acc s1 (by simpa using h3)
    | true =>
      simp only [if_true] at h3 ⊢
      obtain ⟨y, s2, h4, h5⟩ := h3
      rw [h4, bnd_of, ok_bnd]
      refine (go (acc ++ [y]) s2 h5).imp fun ys s hq => ok_some.mpr ?_
      rw [List.append_assoc] at hq
      exact hq
theorem k_lc {fi : Ea S} {t : Tg} {q : Et S} {vs : List Nat} {Q : List D → S → Prop} (h : Ok (fi ρ s) fun ds s => ds.length ≤ sizeLine ∧ ∃ P : Nat → List D → S → Prop, P 0 [] s ∧
    (∀ j d acc s, ds[j]? = some d → P j acc s → ∃ ρ1, t d (wipeR ρ vs) = some ρ1 ∧ Ok (q ρ1 s) fun b s => if b = true then Ok (f ρ1 s) fun y s => P (j + 1) (acc ++ [y]) s else P (j + 1) acc s) ∧
    (∀ acc s, P ds.length acc s → Q acc s)) : Ok (lcF fi t q f vs ρ s) Q := by
  unfold lcF
  rw [ok_bnd]
  refine h.imp fun ds s ⟨hl, P, h0, h1, h2⟩ => ?_
  rw [if_pos hl]
  have := k_comp (ρ := wipeR ρ vs) (t := t) (q := q) (f := f) P (Q := Q) ds 0 [] s h0 (fun j d acc s hd hI => by rw [Nat.zero_add] at *; exact h1 j d acc s hd hI) (fun acc s hI => h2 acc s (by rw [Nat.zero_add] at hI; exact hI))
  simpa using this
theorem k_yes {Q : Bool → S → Prop} (h : Q true s) : Ok (qYes ρ s) Q := ⟨_, _, rfl, h⟩
end
/-! the same as equations, for simp -/
section
variable {α β S : Type} {ρ : Rho} {s : S} {f g : Ev S} {fa : Ea S} {F F' : Sv S} {Q : Rs → S → Prop}
theorem e_seq : Ok (sSeq F F' ρ s) Q ↔ Ok (F ρ s) fun r s => match r with | .nx ρ' => Ok (F' ρ' s) Q | r => Q r s := by
  refine ⟨fun h => ?_, k_seq⟩
  obtain ⟨r, s', e, h⟩ := h
  unfold sSeq at e
  split at e
  · rename_i ρ1 s1 e1
    exact ⟨_, _, e1, _, _, e, h⟩
  · rename_i hn
    refine ⟨r, s', e, ?_⟩
    cases r with
    | nx ρ' => exact absurd e (hn ρ' s')
    | rt d => exact h
    | bk d => exact h
    | ct d => exact h
theorem e_fn {n : Nat} {ds : List D} {Q : D → S → Prop} : Ok (fnD n F ds s) Q ↔ Ok (F (startR n ds) s) fun r s => match r with | .rt d => Q d s | .nx _ => Q .none s | _ => False := by
  refine ⟨fun h => ?_, k_fn⟩
  obtain ⟨r, s', e, h⟩ := h
  unfold fnD at e
  split at e
  · rename_i d s1 e1
    cases e
    exact ⟨_, _, e1, h⟩
  · rename_i d s1 e1
    cases e
    exact ⟨_, _, e1, h⟩
  · cases e
theorem e_asg {t : Tg} : Ok (sAsg f t ρ s) Q ↔ Ok (f ρ s) fun d s => ∃ ρ', t d ρ = some ρ' ∧ Q (.nx ρ') s := by
  refine ⟨fun h => ?_, k_asg⟩
  unfold sAsg at h
  rw [ok_bnd] at h
  refine h.imp fun x s h => ?_
  split at h
  · exact (ok_none.mp h).elim
  · rename_i ρ' e
    exact ⟨ρ', e, ok_some.mp h⟩
end
section
variable {S : Type} {ρ : Rho} {s : S} {f : Ev S} {Q : Rs → S → Prop}
/-- a for: what is walked is told by P -/
theorem k_forP {fi : Ea S} {t : Tg} {body : Sv S} (P : List D → S → Prop) (h : Ok (fi ρ s) P) (k : ∀ ds s, P ds s → ∃ Iv : Nat → Rho → S → Prop, Iv 0 ρ s ∧
    (∀ j d ρ s, ds[j]? = some d → Iv j ρ s → ∃ ρ1, t d ρ = some ρ1 ∧ Ok (body ρ1 s) fun r s => match r with | .nx ρ => Iv (j + 1) ρ s | .ct ρ => Iv (j + 1) ρ s | .bk ρ => Q (.nx ρ) s | .rt d => Q (.rt d) s) ∧
    (∀ ρ s, Iv ds.length ρ s → Q (.nx ρ) s)) : Ok (sFor fi t body ρ s) Q := k_for (h.imp k)
theorem k_lcP {fi : Ea S} {t : Tg} {q : Et S} {vs : List Nat} {Q : List D → S → Prop} (P : List D → S → Prop) (h : Ok (fi ρ s) P) (k : ∀ ds s, P ds s → ds.length ≤ sizeLine ∧ ∃ P : Nat → List D → S → Prop, P 0 [] s ∧
    (∀ j d acc s, ds[j]? = some d → P j acc s → ∃ ρ1, t d (wipeR ρ vs) = some ρ1 ∧ Ok (q ρ1 s) fun b s => if b = true then Ok (f ρ1 s) fun y s => P (j + 1) (acc ++ [y]) s else P (j + 1) acc s) ∧
    (∀ acc s, P ds.length acc s → Q acc s)) : Ok (lcF fi t q f vs ρ s) Q := k_lc (h.imp k)
end
/-! draws -/
theorem k_draw {s : DS} {m : Int} {Q : D → DS → Prop} (h : 0 < m) (h2 : m < 1073741824) (q : ∀ (r : Int) s', 0 ≤ r → r < m → Q (.int r) s') : Ok (Fdraw [hnd 0, .int m] s) Q :=
  ⟨_, _, fdraw h h2, q _ _ (drawF_range s h).1 (drawF_range s h).2⟩
/-- the n-th of a list, told by an int in its bounds -/
theorem atI_lt {α : Type} {xs : List α} {r : Int} (h0 : 0 ≤ r) (h : r < xs.length) : ∃ v, v ∈ xs ∧ xs[r.toNat]? = some v ∧ atI xs r = some v := by
  have hn : r.toNat < xs.length := by omega
  refine ⟨xs[r.toNat], List.getElem_mem hn, List.getElem?_eq_getElem hn, ?_⟩
  have := atI_nat (xs := xs) (j := r.toNat) (List.getElem?_eq_getElem hn)
  rw [show ((r.toNat : Nat) : Int) = r by omega] at this
  exact this
end Dl
set_option Elab.async false
set_option linter.all false
set_option maxRecDepth 100000
set_option maxHeartbeats 4000000
/-! equations for simp: expressions -/
namespace Dl
open PySem PySem.Spec PyProof.Rows L2
section
variable {S : Type} {ρ : Rho} {s : S} {f g h : Ev S} {fa : Ea S} {Q : D → S → Prop} {QL : List D → S → Prop} {QB : Bool → S → Prop}
theorem ok_V0 {d : D} : Ok (cVar 0 (some d :: ρ) s) Q ↔ Q d s := by simp [cVar]
theorem ok_Vs {i : Nat} {x : Option D} : Ok (cVar (i + 1) (x :: ρ) s) Q ↔ Ok (cVar i ρ s) Q := by simp [cVar]
theorem ok_K {d : D} : Ok (cK d ρ s) Q ↔ Q d s := by simp [cK]
theorem ok_B {p : D → D → Option D} : Ok (cB p f g ρ s) Q ↔ Ok (f ρ s) fun x s => Ok (g ρ s) fun y s => ∃ z, p x y = some z ∧ Q z s := by simp only [cB, ok_bnd, ok_put]
theorem ok_U {p : D → Option D} : Ok (cU p f ρ s) Q ↔ Ok (f ρ s) fun x s => ∃ z, p x = some z ∧ Q z s := by simp only [cU, ok_bnd, ok_put]
theorem ok_nil : Ok (aNil ρ s) QL ↔ QL [] s := by simp [aNil]
theorem ok_cons : Ok (aCons f fa ρ s) QL ↔ Ok (f ρ s) fun x s => Ok (fa ρ s) fun xs s => QL (x :: xs) s := by simp only [aCons, ok_bnd, ok_some]
theorem ok_N {p : List D → Option D} : Ok (cN p fa ρ s) Q ↔ Ok (fa ρ s) fun xs s => ∃ z, p xs = some z ∧ Q z s := by simp only [cN, ok_bnd, ok_put]
theorem ok_aN {p : List D → Option (List D)} : Ok (aN p fa ρ s) QL ↔ Ok (fa ρ s) fun xs s => ∃ z, p xs = some z ∧ QL z s := by simp only [aN, ok_bnd, ok_put]
theorem ok_call {n : Nat} {F : Fn S} : Ok (cCall n F fa ρ s) Q ↔ Ok (fa ρ s) fun xs s => xs.length = n ∧ Ok (F xs s) Q := by
  simp only [cCall, ok_bnd]
  constructor
  · intro h
    refine h.imp fun x s h => ?_
    split at h
    · exact ⟨by assumption, h⟩
    · exact (ok_none.mp h).elim
  · intro h
    exact h.imp fun x s h => by rw [if_pos h.1]; exact h.2
theorem ok_nl : Ok (cNl fa ρ s) Q ↔ Ok (fa ρ s) fun xs s => Q (.list xs) s := by simp only [cNl, ok_bnd, ok_some]
theorem ok_fl : Ok (cFl f ρ s) Q ↔ Ok (f ρ s) fun x s => flatD x = true ∧ Q x s := by
  simp only [cFl, ok_bnd]
  constructor
  · intro h
    refine h.imp fun x s h => ?_
    split at h
    · exact ⟨by assumption, ok_some.mp h⟩
    · exact (ok_none.mp h).elim
  · intro h
    exact h.imp fun x s h => by rw [if_pos h.1]; exact ok_some.mpr h.2
theorem ok_afl : Ok (aFl fa ρ s) QL ↔ Ok (fa ρ s) fun x s => flatDs x = true ∧ QL x s := by
  simp only [aFl, ok_bnd]
  constructor
  · intro h
    refine h.imp fun x s h => ?_
    split at h
    · exact ⟨by assumption, ok_some.mp h⟩
    · exact (ok_none.mp h).elim
  · intro h
    exact h.imp fun x s h => by rw [if_pos h.1]; exact ok_some.mpr h.2
theorem ok_T : Ok (qT f ρ s) QB ↔ Ok (f ρ s) fun x s => ∃ b, truth x = some b ∧ QB b s := by simp only [qT, ok_bnd, ok_put]
theorem ok_qNot {q : Et S} : Ok (qNot q ρ s) QB ↔ Ok (q ρ s) fun b s => QB (!b) s := by simp only [qNot, ok_bnd, ok_some]
theorem ok_if2 {α : Type} {b : Bool} {x y : Option (α × S)} {R : α → S → Prop} : Ok (if b = true then x else y) R ↔ if b = true then Ok x R else Ok y R := by cases b <;> simp
theorem ok_qAnd {q r : Et S} : Ok (qAnd q r ρ s) QB ↔ Ok (q ρ s) fun b s => if b = true then Ok (r ρ s) QB else QB false s := by simp only [qAnd, ok_bnd, ok_if2, ok_some]
theorem ok_qOr {q r : Et S} : Ok (qOr q r ρ s) QB ↔ Ok (q ρ s) fun b s => if b = true then QB true s else Ok (r ρ s) QB := by simp only [qOr, ok_bnd, ok_if2, ok_some]
theorem ok_and : Ok (cAnd f g ρ s) Q ↔ Ok (f ρ s) fun x s => ∃ b, truth x = some b ∧ if b = true then Ok (g ρ s) Q else Q x s := by simp only [cAnd, ok_bnd, ok_put, ok_if2, ok_some]
theorem ok_or : Ok (cOr f g ρ s) Q ↔ Ok (f ρ s) fun x s => ∃ b, truth x = some b ∧ if b = true then Q x s else Ok (g ρ s) Q := by simp only [cOr, ok_bnd, ok_put, ok_if2, ok_some]
theorem ok_not : Ok (cNot f ρ s) Q ↔ Ok (f ρ s) fun x s => ∃ b, truth x = some b ∧ Q (.bool (!b)) s := by simp only [cNot, ok_bnd, ok_put, ok_some]
theorem ok_if {q : Et S} : Ok (cIf q f g ρ s) Q ↔ Ok (q ρ s) fun b s => if b = true then Ok (f ρ s) Q else Ok (g ρ s) Q := by simp only [cIf, ok_bnd, ok_if2]
theorem ok_Sl {p : D → Option Int → Option Int → Option D} {l h : Eo' S} : Ok (cSl p f l h ρ s) Q ↔ Ok (f ρ s) fun x s => Ok (l ρ s) fun lo s => Ok (h ρ s) fun hi s => ∃ z, p x lo hi = some z ∧ Q z s := by simp only [cSl, ok_bnd, ok_put]
theorem ok_oNo {QO : Option Int → S → Prop} : Ok (oNo ρ s) QO ↔ QO none s := by simp [oNo]
theorem ok_oOf {QO : Option Int → S → Prop} : Ok (oOf f ρ s) QO ↔ Ok (f ρ s) fun x s => ∃ i, asI x = some i ∧ QO (some i) s := by
  simp only [oOf, ok_bnd, ok_put]
  constructor
  · intro h
    refine h.imp fun x s h => ?_
    obtain ⟨a, h1, h2⟩ := h
    rw [Option.map_eq_some_iff] at h1
    obtain ⟨i, h3, rfl⟩ := h1
    exact ⟨i, h3, h2⟩
  · intro h
    refine h.imp fun x s h => ?_
    obtain ⟨i, h1, h2⟩ := h
    exact ⟨some i, by rw [h1]; rfl, h2⟩
theorem ok_Ch {p q : D → D → Option D} : Ok (cCh p q f g h ρ s) Q ↔ Ok (f ρ s) fun x s => Ok (g ρ s) fun y s => ∃ z, p x y = some z ∧ ∃ b, asB z = some b ∧ if b = true then Ok (h ρ s) fun w s => ∃ z, q y w = some z ∧ Q z s else Q (.bool false) s := by
  simp only [cCh, ok_bnd, ok_put, ok_if2, ok_some]
theorem ok_it {p : D → Option (List D)} : Ok (iOf p f ρ s) QL ↔ Ok (f ρ s) fun x s => ∃ z, p x = some z ∧ QL z s := by simp only [iOf, ok_bnd, ok_put]
theorem ok_itA {p : List D → Option (List D)} : Ok (iOfA p fa ρ s) QL ↔ Ok (fa ρ s) fun x s => ∃ z, p x = some z ∧ QL z s := by simp only [iOfA, ok_bnd, ok_put]
theorem ok_yes : Ok (qYes ρ s) QB ↔ QB true s := by simp [qYes]
end
/-! what the operators come to -/
section
variable {i j : Int} {a b : Str} {x y : D} {ds es : List D}
theorem v_addI : pAdd (.int i) (.int j) = some (.int (i + j)) := rfl
theorem v_addS (h : a.length + b.length ≤ sizeLine) : pAdd (.str a) (.str b) = some (.str (a ++ b)) := by simp only [pAdd]; rw [if_pos h]
theorem v_addL (h : ds.length + es.length ≤ sizeLine) : pAdd (.list ds) (.list es) = some (.list (ds ++ es)) := by simp only [pAdd]; rw [if_pos h]
theorem v_addT (h : ds.length + es.length ≤ sizeLine) : pAdd (.tuple ds) (.tuple es) = some (.tuple (ds ++ es)) := by simp only [pAdd]; rw [if_pos h]
theorem v_sub : pSub (.int i) (.int j) = some (.int (i - j)) := rfl
theorem v_neg : pNeg (.int i) = some (.int (-i)) := rfl
theorem v_mod (h : 0 < j) : pMod (.int i) (.int j) = some (.int (i % j)) := by simp only [pMod, pI]; rw [if_pos (decide_eq_true h)]
theorem v_eqI : pEq (.int i) (.int j) = some (.bool (decide (i = j))) := rfl
theorem v_eqS : pEq (.str a) (.str b) = some (.bool (decide (a = b))) := rfl
theorem v_eqB {p q : Bool} : pEq (.bool p) (.bool q) = some (.bool (decide (p = q))) := rfl
theorem v_eq0 : pEq (.list ds) (.list []) = some (.bool ds.isEmpty) := rfl
theorem v_eqT0 : pEq (.tuple ds) (.tuple []) = some (.bool ds.isEmpty) := rfl
theorem v_eqD (hx : SeqAt.shaped (.tuple ds) = true) (hy : SeqAt.shaped (.tuple es) = true) : pEq (.tuple ds) (.tuple es) = some (.bool (PyData.eqv (.tuple ds) (.tuple es))) := by
  cases es with
  | nil => cases ds <;> rfl
  | cons e es => simp only [pEq]; rw [if_pos ⟨hx, hy⟩]
theorem v_neI : pNe (.int i) (.int j) = some (.bool (!decide (i = j))) := rfl
theorem v_neS : pNe (.str a) (.str b) = some (.bool (!decide (a = b))) := rfl
theorem v_neB {p q : Bool} : pNe (.bool p) (.bool q) = some (.bool (!decide (p = q))) := rfl
theorem v_ne0 : pNe (.list ds) (.list []) = some (.bool (!ds.isEmpty)) := rfl
theorem v_neT0 : pNe (.tuple ds) (.tuple []) = some (.bool (!ds.isEmpty)) := rfl
theorem v_neD (hx : SeqAt.shaped (.tuple ds) = true) (hy : SeqAt.shaped (.tuple es) = true) : pNe (.tuple ds) (.tuple es) = some (.bool (!PyData.eqv (.tuple ds) (.tuple es))) := by
  unfold pNe
  rw [v_eqD hx hy]
theorem v_ltI : pLt (.int i) (.int j) = some (.bool (decide (i < j))) := rfl
theorem v_leI : pLe (.int i) (.int j) = some (.bool (decide (i ≤ j))) := rfl
theorem v_gtI : pGt (.int i) (.int j) = some (.bool (decide (j < i))) := rfl
theorem v_geI : pGe (.int i) (.int j) = some (.bool (decide (j ≤ i))) := rfl
theorem v_is : pIs x .none = some (.bool (nonD x)) := rfl
theorem v_isNot : pIsNot x .none = some (.bool (!nonD x)) := rfl
theorem v_nn : nonD .none = true := rfl
theorem v_ns : nonD (.str a) = false := rfl
theorem v_ni : nonD (.int i) = false := rfl
theorem v_nl : nonD (.list ds) = false := rfl
theorem v_nt : nonD (.tuple ds) = false := rfl
theorem v_tb {p : Bool} : truth (.bool p) = some p := rfl
theorem v_tl : truth (.list ds) = some (!ds.isEmpty) := rfl
theorem v_tt : truth (.tuple ds) = some (!ds.isEmpty) := rfl
theorem v_tn : truth .none = some false := rfl
theorem v_ti : truth (.int i) = some (i != 0) := rfl
theorem v_asB {p : Bool} : asB (.bool p) = some p := rfl
theorem v_asI : asI (.int i) = some i := rfl
theorem v_asL : asL (.list ds) = some ds := rfl
theorem v_asT : asT (.tuple ds) = some ds := rfl
theorem v_asS : asS (.str a) = some (a.cps.toList.map fun c => .str ⟨#[c]⟩) := rfl
theorem v_lenL : pLen [.list ds] = some (.int ds.length) := rfl
theorem v_lenT : pLen [.tuple ds] = some (.int ds.length) := rfl
theorem v_lenS (h : a.length ≤ sizeLine) : pLen [.str a] = some (.int a.length) := by simp only [pLen]; rw [if_pos h]
theorem v_tupL : pTuple [.list ds] = some (.tuple ds) := rfl
theorem v_tupT : pTuple [.tuple ds] = some (.tuple ds) := rfl
theorem v_listL : pList [.list ds] = some ds := rfl
theorem v_listT : pList [.tuple ds] = some ds := rfl
theorem v_intB {p : Bool} : pInt [.bool p] = some (.int (if p then 1 else 0)) := rfl
theorem v_tup (h : ds.length ≤ sizeLine) : pTup ds = some (.tuple ds) := by simp only [pTup]; rw [if_pos h]
theorem v_lst (h : ds.length ≤ sizeLine) : pLst ds = some (.list ds) := by simp only [pLst]; rw [if_pos h]
theorem v_lenOk (h : ds.length ≤ sizeLine) : lenOk ds = some ds := by simp only [lenOk]; rw [if_pos h]
theorem v_tup0 : pTup [] = some (.tuple []) := rfl
theorem v_tup1 {a : D} : pTup [a] = some (.tuple [a]) := rfl
theorem v_tup2 {a b : D} : pTup [a, b] = some (.tuple [a, b]) := rfl
theorem v_tup3 {a b c : D} : pTup [a, b, c] = some (.tuple [a, b, c]) := rfl
theorem v_tup4 {a b c d : D} : pTup [a, b, c, d] = some (.tuple [a, b, c, d]) := rfl
theorem v_tup5 {a b c d e : D} : pTup [a, b, c, d, e] = some (.tuple [a, b, c, d, e]) := rfl
theorem v_lst0 : pLst [] = some (.list []) := rfl
theorem v_lst1 {a : D} : pLst [a] = some (.list [a]) := rfl
theorem v_lst2 {a b : D} : pLst [a, b] = some (.list [a, b]) := rfl
theorem v_lst3 {a b c : D} : pLst [a, b, c] = some (.list [a, b, c]) := rfl
theorem v_lst4 {a b c d : D} : pLst [a, b, c, d] = some (.list [a, b, c, d]) := rfl
theorem v_lst5 {a b c d e : D} : pLst [a, b, c, d, e] = some (.list [a, b, c, d, e]) := rfl
theorem v_ok0 : lenOk [] = some [] := rfl
theorem v_ok1 {a : D} : lenOk [a] = some [a] := rfl
theorem v_ok2 {a b : D} : lenOk [a, b] = some [a, b] := rfl
theorem v_ix0L {d : D} : pIx (.list (d :: ds)) (.int 0) = some d := by simp only [pIx]; exact atI_nat (j := 0) rfl
theorem v_ix0 {d : D} : pIx (.tuple (d :: ds)) (.int 0) = some d := by simp only [pIx]; exact atI_nat (j := 0) rfl
theorem v_ix1 {c d : D} : pIx (.tuple (c :: d :: ds)) (.int 1) = some d := by simp only [pIx]; exact atI_nat (j := 1) rfl
theorem v_ix2 {b c d : D} : pIx (.tuple (b :: c :: d :: ds)) (.int 2) = some d := by simp only [pIx]; exact atI_nat (j := 2) rfl
theorem v_ix3 {a b c d : D} : pIx (.tuple (a :: b :: c :: d :: ds)) (.int 3) = some d := by simp only [pIx]; exact atI_nat (j := 3) rfl
theorem v_fs : flatD (.str a) = true := rfl
theorem v_fi : flatD (.int i) = true := rfl
theorem v_fb {p : Bool} : flatD (.bool p) = true := rfl
theorem v_fn : flatD .none = true := rfl
theorem v_ft : flatD (.tuple ds) = flatDs ds := rfl
theorem v_f0 : flatDs [] = true := rfl
theorem v_fc : flatDs (x :: ds) = (flatD x && flatDs ds) := rfl
end
end Dl
set_option Elab.async false
set_option linter.all false
set_option maxRecDepth 100000
set_option maxHeartbeats 4000000
namespace Lw23
open PySem PySem.Spec PyProof.Rows L2 Dl
def d_OPENERS : D := .tuple [.str "supposed", .str "any", .str "called"]
-- is_opener: slots line 0
def B_is_opener {S : Type}  : Sv S :=
    (sRet (cB pIn (cB pIx (cB pIx (cVar 0) (cK (.int 2))) (cK (.int 0))) (cK d_OPENERS)))
def K_is_opener {S : Type}  : Fn S := fnD 1 (B_is_opener )

-- has_opener: slots lines 0, i 1
def B_has_opener {S : Type} (F_is_opener : Fn S) : Sv S :=
    (sRet (cAnd (cCh pLe pLe (cK (.int 1)) (cVar 1) (cN pLen (aCons (cVar 0) aNil))) (cCall 1 F_is_opener (aCons (cB pIx (cVar 0) (cB pSub (cVar 1) (cK (.int 1)))) aNil))))
def K_has_opener {S : Type} (F_is_opener : Fn S) : Fn S := fnD 2 (B_has_opener F_is_opener)

-- ends_box: slots line 0, level 1
def B_ends_box {S : Type} (F_is_opener : Fn S) : Sv S :=
    (sRet (cOr (cB pLt (cB pIx (cVar 0) (cK (.int 0))) (cVar 1)) (cAnd (cB pEq (cB pIx (cVar 0) (cK (.int 0))) (cVar 1)) (cCall 1 F_is_opener (aCons (cVar 0) aNil)))))
def K_ends_box {S : Type} (F_is_opener : Fn S) : Fn S := fnD 2 (B_ends_box F_is_opener)

-- box_of: slots lines 0, i 1, last 2
def B_box_of {S : Type} (F_has_opener : Fn S) (F_ends_box : Fn S) : Sv S :=
    (sSeq (sIf (qNot (qT (cCall 2 F_has_opener (aCons (cVar 0) (aCons (cVar 1) aNil)))))
    (sRet (cK .none))
    sNx)
    (sSeq (sSet 2 (cVar 1))
    (sSeq (sWh (fun ρ => 1000) (qAnd (qT (cB pLt (cVar 2) (cN pLen (aCons (cVar 0) aNil)))) (qNot (qT (cCall 2 F_ends_box (aCons (cB pIx (cVar 0) (cVar 2)) (aCons (cB pIx (cB pIx (cVar 0) (cB pSub (cVar 1) (cK (.int 1)))) (cK (.int 0))) aNil))))))
    (sAug 2 (pI0 fun i j => .int (i + j)) (cK (.int 1))))
    (sRet (cN pTup (aCons (cVar 1) (aCons (cVar 2) aNil)))))))
def K_box_of {S : Type} (F_has_opener : Fn S) (F_ends_box : Fn S) : Fn S := fnD 3 (B_box_of F_has_opener F_ends_box)

-- all_openers: slots lines 0, told 1, around 2, at 3, line 4, i 5; cells line, lines; own [1, 2]
def B_all_openers {S : Type} (F_ends_box : Fn S) (F_is_opener : Fn S) : Sv S :=
    (sSeq (sOwn 1 (aN lenOk aNil))
    (sSeq (sOwn 2 (aN lenOk aNil))
    (sSeq (sFor (iOfA pEnumT (aCons (cVar 0) aNil)) (gTp (gC (gNm 3) (gC (gNm 4) gN0)))
    (sSeq (sOwn 2 (aFl (lcF (iOf asL (cVar 2)) (gNm 5) (qNot (qT (cCall 2 F_ends_box (aCons (cVar 4) (aCons (cB pIx (cB pIx (cVar 0) (cB pSub (cVar 5) (cK (.int 1)))) (cK (.int 0))) aNil))))) (cVar 5) [5])))
      (sSeq (sIf (qT (cCall 1 F_is_opener (aCons (cVar 4) aNil)))
      (sApp 2 (cB pAdd (cVar 3) (cK (.int 1))))
      sNx)
      (sApp 1 (cFl (cN pTuple (aCons (cVar 2) aNil)))))))
    (sRet (cVar 1)))))
def K_all_openers {S : Type} (F_ends_box : Fn S) (F_is_opener : Fn S) : Fn S := fnD 6 (B_all_openers F_ends_box F_is_opener)

-- openers_at: slots lines 0, k 1
def B_openers_at {S : Type} (F_all_openers : Fn S) : Sv S :=
    (sRet (cB pIx (cCall 1 F_all_openers (aCons (cSl pSl (cVar 0) oNo (oOf (cVar 1))) aNil)) (cU pNeg (cK (.int 1)))))
def K_openers_at {S : Type} (F_all_openers : Fn S) : Fn S := fnD 2 (B_openers_at F_all_openers)

-- _law_own: slots _law_own_here 0
def B_w_own {S : Type}  : Sv S :=
    (sSeq (sSet 0 (cK (.str "absurd all an and any are as at be by false if is least many more no not only or same")))
    (sRet (cNl (aSplit (cB pAdd (cVar 0) (cK (.str " some than the then there every either unless"))) (cK (.str " "))))))
def K_w_own {S : Type}  : Fn S := fnD 1 (B_w_own )

-- _law_signs: slots _law_deck_here 0, _law_many 1, _law_small 2, _law_k 3; cells _law_deck_here, _law_small
def B_w_signs {S : Type} (F_w_draw : Fn S) : Sv S :=
    (sSeq (sSet 2 (cK (.str "abcdefghijklmnopqrstuvwxyz")))
    (sRet (cB pJoin (cK (.str "")) (cNl (lcF (iOfA pR1 (aCons (cVar 1) aNil)) (gNm 3) qYes (cB pIx (cVar 2) (cCall 2 F_w_draw (aCons (cVar 0) (aCons (cK (.int 26)) aNil)))) [3])))))
def K_w_signs {S : Type} (F_w_draw : Fn S) : Fn S := fnD 4 (B_w_signs F_w_draw)

-- _law_unlike: slots _law_word 0, _law_there 1, _law_ahead 2, _law_small 3, _law_sign 4; cells _law_ahead, _law_there
def B_w_unlike {S : Type}  : Sv S :=
    (sSeq (sIf (qT (cB pNotIn (cVar 0) (cVar 1)))
    (sRet (cVar 0))
    sNx)
    (sSeq (sSet 3 (cK (.str "abcdefghijklmnopqrstuvwxyz")))
    (sRet (cB pIx (cNl (lcF (iOf asS (cVar 3)) (gNm 4) (qT (cB pNotIn (cB pAdd (cB pAdd (cVar 2) (cVar 4)) (cK (.str "qz"))) (cVar 1))) (cB pAdd (cB pAdd (cVar 2) (cVar 4)) (cK (.str "qz"))) [4])) (cK (.int 0))))))
def K_w_unlike {S : Type}  : Fn S := fnD 5 (B_w_unlike )

-- _law_vocabulary: slots _law_deck_here 0, _law_there 1, _law_great 2, _law_names 3, _law_k 4, _law_word 5, _law_kinds 6, _law_doings 7; own [3, 6, 7]
def B_w_vocabulary {S : Type} (F_w_own : Fn S) (F_w_draw : Fn S) (F_w_signs : Fn S) (F_w_unlike : Fn S) : Sv S :=
    (sSeq (sSet 1 (cCall 0 F_w_own aNil))
    (sSeq (sSet 2 (cN pInt (aCons (cB pEq (cCall 2 F_w_draw (aCons (cVar 0) (aCons (cK (.int 8)) aNil))) (cK (.int 5))) aNil)))
    (sSeq (sOwn 3 (aN lenOk aNil))
    (sSeq (sFor (iOfA pR1 (aCons (cCall 2 F_w_draw (aCons (cVar 0) (aCons (cB pIx (cN pLst (aCons (cK (.int 3)) (aCons (cK (.int 7)) aNil))) (cVar 2)) aNil))) aNil)) (gNm 4)
    (sSeq (sSet 5 (cB pAdd (cU pUpper (cCall 2 F_w_signs (aCons (cVar 0) (aCons (cK (.int 1)) aNil)))) (cCall 2 F_w_signs (aCons (cVar 0) (aCons (cB pIx (cN pLst (aCons (cK (.int 0)) (aCons (cK (.int 1)) (aCons (cK (.int 2)) (aCons (cK (.int 7)) aNil))))) (cCall 2 F_w_draw (aCons (cVar 0) (aCons (cK (.int 4)) aNil)))) aNil)))))
      (sApp 3 (cFl (cCall 3 F_w_unlike (aCons (cVar 5) (aCons (cVar 3) (aCons (cK (.str "Q")) aNil))))))))
    (sSeq (sOwn 6 (aN lenOk aNil))
    (sSeq (sFor (iOfA pR1 (aCons (cCall 2 F_w_draw (aCons (cVar 0) (aCons (cB pIx (cN pLst (aCons (cK (.int 3)) (aCons (cK (.int 7)) aNil))) (cVar 2)) aNil))) aNil)) (gNm 4)
    (sApp 6 (cFl (cCall 3 F_w_unlike (aCons (cCall 2 F_w_signs (aCons (cVar 0) (aCons (cB pAdd (cK (.int 2)) (cCall 2 F_w_draw (aCons (cVar 0) (aCons (cB pIx (cN pLst (aCons (cK (.int 2)) (aCons (cK (.int 7)) aNil))) (cVar 2)) aNil)))) aNil))) (aCons (cB pAdd (cVar 1) (cVar 6)) (aCons (cK (.str "q")) aNil)))))))
    (sSeq (sOwn 7 (aN lenOk aNil))
    (sSeq (sFor (iOfA pR1 (aCons (cCall 2 F_w_draw (aCons (cVar 0) (aCons (cB pIx (cN pLst (aCons (cK (.int 2)) (aCons (cK (.int 4)) aNil))) (cVar 2)) aNil))) aNil)) (gNm 4)
    (sApp 7 (cFl (cCall 3 F_w_unlike (aCons (cCall 2 F_w_signs (aCons (cVar 0) (aCons (cB pAdd (cK (.int 2)) (cCall 2 F_w_draw (aCons (cVar 0) (aCons (cK (.int 3)) aNil)))) aNil))) (aCons (cB pAdd (cB pAdd (cVar 1) (cVar 6)) (cVar 7)) (aCons (cK (.str "q")) aNil)))))))
    (sRet (cN pTup (aCons (cN pTuple (aCons (cNl (aN pSorted (aCons (cVar 3) aNil))) aNil)) (aCons (cN pTuple (aCons (cNl (aN pSorted (aCons (cVar 6) aNil))) aNil)) (aCons (cN pTuple (aCons (cNl (aN pSorted (aCons (cVar 7) aNil))) aNil)) aNil)))))))))))))
def K_w_vocabulary {S : Type} (F_w_own : Fn S) (F_w_draw : Fn S) (F_w_signs : Fn S) (F_w_unlike : Fn S) : Fn S := fnD 8 (B_w_vocabulary F_w_own F_w_draw F_w_signs F_w_unlike)

-- _law_total: slots _law_deck_here 0, _law_kinds 1, _law_parts 2, _law_kind 3; own [2]
def B_w_total {S : Type} (F_w_draw : Fn S) : Sv S :=
    (sSeq (sOwn 2 (aN lenOk aNil))
    (sSeq (sFor (iOf asL (cVar 1)) (gNm 3)
    (sIf (qT (cB pEq (cCall 2 F_w_draw (aCons (cVar 0) (aCons (cK (.int 3)) aNil))) (cK (.int 0))))
      (sApp 2 (cN pTup (aCons (cVar 3) (aCons (cB pAdd (cK (.int 1)) (cCall 2 F_w_draw (aCons (cVar 0) (aCons (cB pIx (cN pLst (aCons (cK (.int 2)) (aCons (cK (.int 30)) aNil))) (cN pInt (aCons (cB pEq (cCall 2 F_w_draw (aCons (cVar 0) (aCons (cK (.int 4)) aNil))) (cK (.int 3))) aNil))) aNil)))) aNil))))
      sNx))
    (sRet (cN pTup (aCons (cN pTuple (aCons (cVar 2) aNil)) (aCons (cCall 2 F_w_draw (aCons (cVar 0) (aCons (cB pIx (cN pLst (aCons (cK (.int 2)) (aCons (cK (.int 10)) (aCons (cB pPow (cK (.int 10)) (cK (.int 9))) aNil)))) (cCall 2 F_w_draw (aCons (cVar 0) (aCons (cK (.int 3)) aNil)))) aNil))) aNil))))))
def K_w_total {S : Type} (F_w_draw : Fn S) : Fn S := fnD 4 (B_w_total F_w_draw)

-- _law_atom: slots _law_deck_here 0, _law_stock 1, _law_terms 2, _law_kinds 3, _law_counts 4, _law_doings 5, _law_letters 6, _law_way 7, _law_one 8, _law_other 9
def B_w_atom {S : Type} (F_w_draw : Fn S) (F_w_total : Fn S) : Sv S :=
    (sSeq (sAsg (cVar 1) (gTp (gC (gNm 3) (gC (gNm 4) (gC (gNm 5) (gC (gNm 6) gN0))))))
    (sSeq (sSet 7 (cCall 2 F_w_draw (aCons (cVar 0) (aCons (cK (.int 6)) aNil))))
    (sSeq (sIf (qAnd (qT (cB pEq (cVar 7) (cK (.int 3)))) (qT (cB pIsNot (cVar 4) (cK .none))))
    (sRet (cN pTup (aCons (cK (.str "least")) (aCons (cCall 2 F_w_total (aCons (cVar 0) (aCons (cVar 4) aNil))) (aCons (cCall 2 F_w_total (aCons (cVar 0) (aCons (cVar 4) aNil))) aNil)))))
    sNx)
    (sSeq (sIf (qOr (qT (cB pEq (cVar 7) (cK (.int 4)))) (qT (cB pEq (cVar 2) (cN pLst aNil))))
    (sRet (cN pTup (aCons (cK (.str "false")) aNil)))
    sNx)
    (sSeq (sSet 8 (cB pIx (cVar 2) (cCall 2 F_w_draw (aCons (cVar 0) (aCons (cN pLen (aCons (cVar 2) aNil)) aNil)))))
    (sSeq (sSet 9 (cB pIx (cVar 2) (cCall 2 F_w_draw (aCons (cVar 0) (aCons (cN pLen (aCons (cVar 2) aNil)) aNil)))))
    (sSeq (sIf (qOr (qT (cB pEq (cVar 7) (cK (.int 2)))) (qOr (qAnd (qT (cB pEq (cVar 7) (cK (.int 5)))) (qT (cB pEq (cVar 5) (cN pLst aNil)))) (qAnd (qT (cB pNe (cVar 7) (cK (.int 5)))) (qT (cB pEq (cVar 3) (cN pLst aNil))))))
    (sRet (cN pTup (aCons (cK (.str "same")) (aCons (cVar 8) (aCons (cVar 9) aNil)))))
    sNx)
    (sSeq (sIf (qT (cB pEq (cVar 7) (cK (.int 5))))
    (sRet (cN pTup (aCons (cK (.str "does")) (aCons (cB pIx (cVar 5) (cCall 2 F_w_draw (aCons (cVar 0) (aCons (cN pLen (aCons (cVar 5) aNil)) aNil)))) (aCons (cVar 8) (aCons (cVar 9) aNil))))))
    sNx)
    (sRet (cN pTup (aCons (cK (.str "is")) (aCons (cVar 8) (aCons (cB pIx (cVar 3) (cCall 2 F_w_draw (aCons (cVar 0) (aCons (cN pLen (aCons (cVar 3) aNil)) aNil)))) aNil)))))))))))))
def K_w_atom {S : Type} (F_w_draw : Fn S) (F_w_total : Fn S) : Fn S := fnD 10 (B_w_atom F_w_draw F_w_total)

-- _law_form: slots _law_deck_here 0, _law_stock 1, _law_terms 2, _law_deep 3, _law_way 4, _law_one 5, _law_x 6
def B_w_form {S : Type} (F_w_draw : Fn S) (F_w_atom : Fn S) (F_w_form : Fn S) : Sv S :=
    (sSeq (sSet 4 (cCall 2 F_w_draw (aCons (cVar 0) (aCons (cK (.int 12)) aNil))))
    (sSeq (sIf (qOr (qT (cB pEq (cVar 3) (cK (.int 0)))) (qT (cB pLt (cVar 4) (cK (.int 4)))))
    (sRet (cCall 3 F_w_atom (aCons (cVar 0) (aCons (cVar 1) (aCons (cVar 2) aNil)))))
    sNx)
    (sSeq (sIf (qT (cB pEq (cVar 4) (cK (.int 4))))
    (sRet (cN pTup (aCons (cK (.str "not")) (aCons (cCall 4 F_w_form (aCons (cVar 0) (aCons (cVar 1) (aCons (cVar 2) (aCons (cB pSub (cVar 3) (cK (.int 1))) aNil))))) aNil))))
    sNx)
    (sSeq (sIf (qT (cB pLt (cVar 4) (cK (.int 9))))
    (sSeq (sSet 5 (cCall 4 F_w_form (aCons (cVar 0) (aCons (cVar 1) (aCons (cVar 2) (aCons (cB pSub (cVar 3) (cK (.int 1))) aNil))))))
      (sRet (cN pTup (aCons (cB pIx (cN pLst (aCons (cK (.str "and")) (aCons (cK (.str "or")) (aCons (cK (.str "if")) (aCons (cK (.str "if")) aNil))))) (cB pSub (cVar 4) (cK (.int 5)))) (aCons (cVar 5) (aCons (cCall 4 F_w_form (aCons (cVar 0) (aCons (cVar 1) (aCons (cVar 2) (aCons (cB pSub (cVar 3) (cK (.int 1))) aNil))))) aNil))))))
    sNx)
    (sSeq (sSet 6 (cB pIx (cB pIx (cVar 1) (cK (.int 3))) (cCall 2 F_w_draw (aCons (cVar 0) (aCons (cN pLen (aCons (cB pIx (cVar 1) (cK (.int 3))) aNil)) aNil)))))
    (sRet (cN pTup (aCons (cB pIx (cN pLst (aCons (cK (.str "every")) (aCons (cK (.str "every")) (aCons (cK (.str "some")) aNil)))) (cB pSub (cVar 4) (cK (.int 9)))) (aCons (cVar 6) (aCons (cCall 4 F_w_form (aCons (cVar 0) (aCons (cVar 1) (aCons (cB pAdd (cVar 2) (cN pLst (aCons (cVar 6) aNil))) (aCons (cB pSub (cVar 3) (cK (.int 1))) aNil))))) aNil))))))))))
def K_w_form {S : Type} (F_w_draw : Fn S) (F_w_atom : Fn S) (F_w_form : Fn S) : Fn S := fnD 7 (B_w_form F_w_draw F_w_atom F_w_form)

-- _law_reason: slots _law_deck_here 0, _law_count 1, _law_ones 2, _law_numbers_here 3, _law_few 4, _law_way 5, _law_k 6, _law_one 7; cells _law_count, _law_deck_here
def B_w_reason {S : Type} (F_w_draw : Fn S) (F_w_signs : Fn S) : Sv S :=
    (sSeq (sSet 2 (cK (.str "again left right orleft orright nothing meaning asmany one someof none nomore cover turned soif not")))
    (sSeq (sSet 2 (cNl (aSplit (cB pAdd (cVar 2) (cK (.str " contrary forany forsome"))) (cK (.str " ")))))
    (sSeq (sSet 3 (cN pTuple (aCons (cNl (lcF (iOfA pR1 (aCons (cK (.int 3)) aNil)) (gNm 6) qYes (cB pAdd (cK (.int 1)) (cCall 2 F_w_draw (aCons (cVar 0) (aCons (cVar 1) aNil)))) [6])) aNil)))
    (sSeq (sSet 4 (cSl pSl (cVar 3) oNo (oOf (cB pAdd (cK (.int 1)) (cCall 2 F_w_draw (aCons (cVar 0) (aCons (cK (.int 3)) aNil)))))))
    (sSeq (sSet 5 (cCall 2 F_w_draw (aCons (cVar 0) (aCons (cK (.int 8)) aNil))))
    (sSeq (sIf (qT (cB pEq (cVar 5) (cK (.int 0))))
    (sRet (cN pTup (aCons (cB pIx (cN pLst (aCons (cK (.str "given")) (aCons (cK (.str "itself")) (aCons (cK (.str "clearly")) aNil)))) (cCall 2 F_w_draw (aCons (cVar 0) (aCons (cK (.int 3)) aNil)))) aNil)))
    sNx)
    (sSeq (sIf (qT (cB pLt (cVar 5) (cK (.int 4))))
    (sRet (cN pTup (aCons (cB pIx (cVar 2) (cCall 2 F_w_draw (aCons (cVar 0) (aCons (cN pLen (aCons (cVar 2) aNil)) aNil)))) (aCons (cB pIx (cVar 3) (cK (.int 0))) aNil))))
    sNx)
    (sSeq (sIf (qT (cB pEq (cVar 5) (cK (.int 4))))
    (sRet (cB pAdd (cN pTup (aCons (cB pIx (cN pLst (aCons (cK (.str "both")) (aCons (cK (.str "then")) (aCons (cK (.str "absurd")) (aCons (cK (.str "put")) (aCons (cK (.str "apart")) aNil)))))) (cCall 2 F_w_draw (aCons (cVar 0) (aCons (cK (.int 5)) aNil)))) aNil)) (cSl pSl (cVar 3) oNo (oOf (cK (.int 2))))))
    sNx)
    (sSeq (sIf (qT (cB pEq (cVar 5) (cK (.int 5))))
    (sRet (cB pAdd (cN pTup (aCons (cB pIx (cN pLst (aCons (cK (.str "two")) (aCons (cK (.str "cases")) aNil))) (cCall 2 F_w_draw (aCons (cVar 0) (aCons (cK (.int 2)) aNil)))) aNil)) (cVar 3)))
    sNx)
    (sSeq (sIf (qT (cB pEq (cVar 5) (cK (.int 6))))
    (sRet (cN pTup (aCons (cB pIx (cN pLst (aCons (cK (.str "at")) (aCons (cK (.str "such")) aNil))) (cCall 2 F_w_draw (aCons (cVar 0) (aCons (cK (.int 2)) aNil)))) (aCons (cB pIx (cVar 3) (cK (.int 0))) (aCons (cB pAdd (cU pUpper (cCall 2 F_w_signs (aCons (cVar 0) (aCons (cK (.int 1)) aNil)))) (cCall 2 F_w_signs (aCons (cVar 0) (aCons (cK (.int 2)) aNil)))) aNil)))))
    sNx)
    (sSeq (sIf (qT (cB pEq (cB pMod (cB pIx (cVar 3) (cK (.int 0))) (cK (.int 3))) (cK (.int 0))))
    (sRet (cN pTup (aCons (cK (.str "by")) (aCons (cVar 4) aNil))))
    sNx)
    (sSeq (sIf (qT (cB pEq (cB pMod (cB pIx (cVar 3) (cK (.int 0))) (cK (.int 3))) (cK (.int 1))))
    (sRet (cN pTup (aCons (cK (.str "earlier")) (aCons (cCall 2 F_w_signs (aCons (cVar 0) (aCons (cB pAdd (cK (.int 1)) (cCall 2 F_w_draw (aCons (cVar 0) (aCons (cK (.int 8)) aNil)))) aNil))) (aCons (cSl pSl (cVar 4) (oOf (cK (.int 1))) oNo) aNil)))))
    sNx)
    (sRet (cN pTup (aCons (cK (.str "sums")) (aCons (cSl pSl (cVar 4) (oOf (cK (.int 1))) oNo) (aCons (cN pTuple (aCons (cNl (lcF (iOf asT (cSl pSl (cVar 4) (oOf (cK (.int 1))) oNo)) (gNm 7) qYes (cCall 2 F_w_draw (aCons (cVar 0) (aCons (cB pPow (cK (.int 10)) (cK (.int 9))) aNil))) [7])) aNil)) aNil)))))))))))))))))
def K_w_reason {S : Type} (F_w_draw : Fn S) (F_w_signs : Fn S) : Fn S := fnD 8 (B_w_reason F_w_draw F_w_signs)

-- _law_opener: slots _law_deck_here 0, _law_count 1, _law_name 2, _law_way 3
def B_w_opener {S : Type} (F_w_draw : Fn S) : Sv S :=
    (sSeq (sSet 3 (cCall 2 F_w_draw (aCons (cVar 0) (aCons (cK (.int 3)) aNil))))
    (sSeq (sIf (qT (cB pEq (cVar 3) (cK (.int 0))))
    (sRet (cN pTup (aCons (cN pTup (aCons (cK (.str "supposed")) aNil)) (aCons (cK .none) aNil))))
    sNx)
    (sSeq (sIf (qT (cB pEq (cVar 3) (cK (.int 1))))
    (sRet (cN pTup (aCons (cN pTup (aCons (cK (.str "any")) (aCons (cVar 2) aNil))) (aCons (cVar 2) aNil))))
    sNx)
    (sRet (cN pTup (aCons (cN pTup (aCons (cK (.str "called")) (aCons (cVar 2) (aCons (cB pAdd (cK (.int 1)) (cCall 2 F_w_draw (aCons (cVar 0) (aCons (cVar 1) aNil)))) aNil)))) (aCons (cVar 2) aNil)))))))
def K_w_opener {S : Type} (F_w_draw : Fn S) : Fn S := fnD 4 (B_w_opener F_w_draw)

-- _law_lines: slots _law_deck_here 0, _law_vocabulary_here 1, _law_meanings 2, _law_names 3, _law_kinds 4, _law_doings 5, _law_stock 6, _law_many 7, _law_lines_here 8, _law_boxes 9, _law_inside 10, _law_taken 11, _law_level 12, _law_k 13, _law_opens 14, _law_reason_here 15, _law_name 16, _law_there 17, _law_one 18; cells _law_level; own [8, 9, 11]
def B_w_lines {S : Type} (F_w_draw : Fn S) (F_w_unlike : Fn S) (F_w_opener : Fn S) (F_w_reason : Fn S) (F_w_form : Fn S) : Sv S :=
    (sSeq (sAsg (cVar 1) (gTp (gC (gNm 3) (gC (gNm 4) (gC (gNm 5) gN0)))))
    (sSeq (sSet 6 (cN pTup (aCons (cB pAdd (cNl (aN pList (aCons (cVar 4) aNil))) (cNl (lcF (iOf asT (cVar 2)) (gNm 18) qYes (cB pIx (cVar 18) (cK (.int 0))) [18]))) (aCons (cNl (aN pList (aCons (cVar 4) aNil))) (aCons (cNl (aN pList (aCons (cVar 5) aNil))) (aCons (cB pAdd (cNl (aN pListS1 (aCons (cK (.str "uvwxyz")) aNil))) (cN pLst (aCons (cK (.str "x9")) (aCons (cK (.str "u8")) aNil)))) aNil))))))
    (sSeq (sSet 7 (cCall 2 F_w_draw (aCons (cVar 0) (aCons (cB pIx (cN pLst (aCons (cK (.int 9)) (aCons (cK (.int 9)) (aCons (cK (.int 9)) (aCons (cK (.int 60)) aNil))))) (cCall 2 F_w_draw (aCons (cVar 0) (aCons (cK (.int 4)) aNil)))) aNil))))
    (sSeq (sOwn 8 (aN lenOk aNil))
    (sSeq (sOwn 9 (aN lenOk aNil))
    (sSeq (sSet 10 (cN pLst aNil))
    (sSeq (sOwn 11 (aN pList (aCons (cVar 3) aNil)))
    (sSeq (sSet 12 (cK (.int 0)))
    (sSeq (sFor (iOfA pR2 (aCons (cK (.int 1)) (aCons (cB pAdd (cVar 7) (cK (.int 1))) aNil))) (gNm 13)
    (sSeq (sSet 14 (cAnd (cB pLt (cVar 12) (cK (.int 8))) (cB pEq (cCall 2 F_w_draw (aCons (cVar 0) (aCons (cK (.int 3)) aNil))) (cK (.int 0)))))
      (sSeq (sIf (qT (cVar 14))
      (sSeq (sSet 12 (cB pIx (cN pLst (aCons (cB pAdd (cVar 12) (cK (.int 1))) (aCons (cB pAdd (cK (.int 1)) (cCall 2 F_w_draw (aCons (cVar 0) (aCons (cB pAdd (cVar 12) (cK (.int 1))) aNil)))) aNil))) (cCall 2 F_w_draw (aCons (cVar 0) (aCons (cK (.int 2)) aNil)))))
        (sSeq (sApp 11 (cFl (cCall 3 F_w_unlike (aCons (cB pAdd (cB pAdd (cK (.str "Zq")) (cB pIx (cK (.str "abcdefgh")) (cB pMod (cVar 13) (cK (.int 8))))) (cB pIx (cK (.str "abcdefgh")) (cB pFdiv (cVar 13) (cK (.int 8))))) (aCons (cVar 11) (aCons (cK (.str "W")) aNil))))))
        (sSeq (sAsg (cFl (cCall 3 F_w_opener (aCons (cVar 0) (aCons (cB pAdd (cVar 7) (cK (.int 1))) (aCons (cB pIx (cVar 11) (cU pNeg (cK (.int 1)))) aNil))))) (gTp (gC (gNm 15) (gC (gNm 16) gN0))))
        (sSet 10 (cB pAdd (cNl (lcF (iOf asL (cVar 10)) (gNm 18) (qT (cB pLt (cB pIx (cVar 18) (cK (.int 0))) (cVar 12))) (cVar 18) [18])) (cN pLst (aCons (cN pTup (aCons (cVar 12) (aCons (cVar 13) (aCons (cVar 16) aNil)))) aNil)))))))
      (sSeq (sSet 12 (cB pIx (cN pLst (aCons (cVar 12) (aCons (cVar 12) (aCons (cCall 2 F_w_draw (aCons (cVar 0) (aCons (cB pAdd (cVar 12) (cK (.int 1))) aNil))) aNil)))) (cCall 2 F_w_draw (aCons (cVar 0) (aCons (cK (.int 3)) aNil)))))
        (sSeq (sSet 15 (cCall 2 F_w_reason (aCons (cVar 0) (aCons (cB pAdd (cVar 7) (cK (.int 1))) aNil))))
        (sSet 10 (cNl (lcF (iOf asL (cVar 10)) (gNm 18) (qT (cB pLe (cB pIx (cVar 18) (cK (.int 0))) (cVar 12))) (cVar 18) [18]))))))
      (sSeq (sSet 17 (cB pAdd (cNl (aN pList (aCons (cVar 3) aNil))) (cNl (lcF (iOf asL (cVar 10)) (gNm 18) (qT (cB pIsNot (cB pIx (cVar 18) (cK (.int 2))) (cK .none))) (cB pIx (cVar 18) (cK (.int 2))) [18]))))
      (sSeq (sApp 8 (cN pTup (aCons (cVar 12) (aCons (cCall 4 F_w_form (aCons (cVar 0) (aCons (cVar 6) (aCons (cVar 17) (aCons (cK (.int 2)) aNil))))) (aCons (cVar 15) aNil)))))
      (sApp 9 (cN pTuple (aCons (cVar 10) aNil))))))))
    (sSeq (sApp 8 (cN pTup (aCons (cK (.int 0)) (aCons (cCall 4 F_w_form (aCons (cVar 0) (aCons (cVar 6) (aCons (cNl (aN pList (aCons (cVar 3) aNil))) (aCons (cK (.int 2)) aNil))))) (aCons (cCall 2 F_w_reason (aCons (cVar 0) (aCons (cB pAdd (cVar 7) (cK (.int 1))) aNil))) aNil)))))
    (sRet (cN pTup (aCons (cN pTuple (aCons (cVar 8) aNil)) (aCons (cB pAdd (cVar 9) (cN pLst (aCons (cN pTup aNil) aNil))) aNil))))))))))))))
def K_w_lines {S : Type} (F_w_draw : Fn S) (F_w_unlike : Fn S) (F_w_opener : Fn S) (F_w_reason : Fn S) (F_w_form : Fn S) : Fn S := fnD 19 (B_w_lines F_w_draw F_w_unlike F_w_opener F_w_reason F_w_form)

-- _law_numbers: slots _law_inside 0, _law_level 1, _law_number 2, _law_name 3
def B_w_numbers {S : Type}  : Sv S :=
    (sRet (cN pTuple (aCons (cNl (lcF (iOf asT (cVar 0)) (gTp (gC (gNm 1) (gC (gNm 2) (gC (gNm 3) gN0)))) qYes (cVar 2) [1, 2, 3])) aNil)))
def K_w_numbers {S : Type}  : Fn S := fnD 4 (B_w_numbers )

-- _law_last: slots _law_boxes 0, _law_i 1, _law_k 2; cells _law_boxes, _law_i
def B_w_last {S : Type} (F_w_numbers : Fn S) : Sv S :=
    (sRet (cN pMax (aCons (cNl (lcF (iOfA pR2 (aCons (cK (.int 1)) (aCons (cB pAdd (cN pLen (aCons (cVar 0) aNil)) (cK (.int 1))) aNil))) (gNm 2) (qT (cB pIn (cVar 1) (cCall 1 F_w_numbers (aCons (cB pIx (cVar 0) (cB pSub (cVar 2) (cK (.int 1)))) aNil)))) (cVar 2) [2])) aNil)))
def K_w_last {S : Type} (F_w_numbers : Fn S) : Fn S := fnD 3 (B_w_last F_w_numbers)

-- _law_whole: slots _law_found 0
def B_w_whole {S : Type}  : Sv S :=
    (sRet (cAnd (cU (pIsi "int") (cVar 0)) (cNot (cU (pIsi "bool") (cVar 0)))))
def K_w_whole {S : Type}  : Fn S := fnD 1 (B_w_whole )

end Lw23
set_option Elab.async false
set_option linter.all false
set_option maxRecDepth 100000
set_option maxHeartbeats 1000000
namespace Lw23
open PySem PySem.Spec PyProof.Rows L2 Dl
theorem szL {n : Nat} (h : n ≤ 100000) : n ≤ sizeLine := Nat.le_trans h (by decide)
theorem sz0 : (0 ≤ sizeLine) = True := eq_true (by decide)
theorem sz1 : (1 ≤ sizeLine) = True := eq_true (by decide)
theorem sz2 : (2 ≤ sizeLine) = True := eq_true (by decide)
theorem sz3 : (3 ≤ sizeLine) = True := eq_true (by decide)
theorem sz4 : (4 ≤ sizeLine) = True := eq_true (by decide)
theorem sz5 : (5 ≤ sizeLine) = True := eq_true (by decide)
theorem sz6 : (6 ≤ sizeLine) = True := eq_true (by decide)
theorem szl {n : Nat} (h : n < 100000) : n < sizeLine := Nat.lt_of_lt_of_le h (by decide)
theorem range_get {n j : Nat} {lo : Int} {d : D} (h : (rngD lo n)[j]? = some d) : j < n ∧ d = .int (lo + j) := by
  unfold rngD at h
  rw [List.getElem?_map] at h
  by_cases hj : j < n
  · rw [List.getElem?_range hj] at h
    cases h
    exact ⟨hj, rfl⟩
  · rw [List.getElem?_eq_none (by simpa using hj)] at h
    cases h
theorem rng_len (lo : Int) (n : Nat) : (rngD lo n).length = n := by simp [rngD]
theorem pr1 {j : Int} (h : -(2 ^ 62) ≤ j) (h2 : j < 2 ^ 62) : pR1 [.int j] = some (rngD 0 j.toNat) := by simp only [pR1]; rw [if_pos ⟨h, h2⟩]
theorem pr2 {i j : Int} (h : -(2 ^ 62) ≤ i ∧ i < 2 ^ 62 ∧ -(2 ^ 62) ≤ j ∧ j < 2 ^ 62) : pR2 [.int i, .int j] = some (rngD i (j - i).toNat) := by simp only [pR2]; rw [if_pos h]
theorem ix_str {z : Str} {r : Int} (hz : z.length ≤ sizeLine) (h0 : 0 ≤ r) (h : r < z.length) : ∃ c, pIx (.str z) (.int r) = some (.str ⟨#[c]⟩) := by
  obtain ⟨c, _, _, e⟩ := atI_lt (xs := z.cps.toList) h0 (by simpa [Str.length] using h)
  exact ⟨c, by simp only [pIx]; rw [if_pos hz, e]; rfl⟩
theorem len1 (c : Nat) : (⟨#[c]⟩ : Str).length = 1 := rfl
theorem ok_signs {s : DS} {n : Int} (h : 0 ≤ n) (h2 : n ≤ 1000) {Q : D → DS → Prop} (q : ∀ z s', z.length ≤ n.toNat → Q (.str z) s') : Ok (K_w_signs Fdraw [hnd 0, .int n] s) Q := by
  unfold K_w_signs B_w_signs
  simp only [e_fn, e_seq, e_asg, startR, sSet, sOwn, sRet, sIf, sNx, cB, cU, cK, cVar, cN, cCall, aNil, aCons, aN, aCat, cNl, cFl, aFl, qT, qNot, qAnd, qOr, cAnd, cOr, cNot, cIf, cSl, oNo, oOf, cCh, iOf, iOfA, qYes, ok_bnd, ok_some, ok_put, bnd_of, put_of, gNm, gTp, gC, gN0, List.map_cons, List.map_nil, List.length_cons, List.length_nil, List.replicate, List.cons_append, List.nil_append, List.set_cons_zero, List.set_cons_succ, List.getElem?_cons_zero, List.getElem?_cons_succ, Option.some.injEq, exists_eq_left', Option.bind_some, Nat.reduceAdd, Nat.reduceSub, Nat.sub_zero, Nat.sub_self, Nat.zero_add, Nat.reduceEqDiff, ↓reduceIte, pTup, pLst, lenOk, pI0, pI, pIB, asT, asL, asS, truth, asI, asB, flatD, flatDs, pSub, pMod, pEq, pLe, pGe, pGt, pLt, pIs, pIsNot, nonD, pTuple, pList, pInt, pNeg, Bool.not_true, Bool.not_false, if_true, if_false, Bool.and_self, Bool.true_and, Bool.and_true, Bool.false_eq_true, wipeR, sz0, sz1, sz2, sz3, sz4, sz5, sz6]
  refine k_lc ?_
  simp only [e_fn, e_seq, e_asg, startR, sSet, sOwn, sRet, sIf, sNx, cB, cU, cK, cVar, cN, cCall, aNil, aCons, aN, aCat, cNl, cFl, aFl, qT, qNot, qAnd, qOr, cAnd, cOr, cNot, cIf, cSl, oNo, oOf, cCh, iOf, iOfA, qYes, ok_bnd, ok_some, ok_put, bnd_of, put_of, gNm, gTp, gC, gN0, List.map_cons, List.map_nil, List.length_cons, List.length_nil, List.replicate, List.cons_append, List.nil_append, List.set_cons_zero, List.set_cons_succ, List.getElem?_cons_zero, List.getElem?_cons_succ, Option.some.injEq, exists_eq_left', Option.bind_some, Nat.reduceAdd, Nat.reduceSub, Nat.sub_zero, Nat.sub_self, Nat.zero_add, Nat.reduceEqDiff, ↓reduceIte, pTup, pLst, lenOk, pI0, pI, pIB, asT, asL, asS, truth, asI, asB, flatD, flatDs, pSub, pMod, pEq, pLe, pGe, pGt, pLt, pIs, pIsNot, nonD, pTuple, pList, pInt, pNeg, Bool.not_true, Bool.not_false, if_true, if_false, Bool.and_self, Bool.true_and, Bool.and_true, Bool.false_eq_true, wipeR, sz0, sz1, sz2, sz3, sz4, sz5, sz6]
  refine ⟨_, pr1 (by omega) (by omega), by rw [rng_len]; exact szL (by omega), fun j acc _ => ∃ xs : List Str, acc = xs.map .str ∧ xs.length = j ∧ ∀ x ∈ xs, x.length = 1, ⟨[], rfl, rfl, by simp⟩, ?_, ?_⟩
  · rintro j d acc s hd ⟨xs, rfl, hl, hx⟩
    simp only [e_fn, e_seq, e_asg, startR, sSet, sOwn, sRet, sIf, sNx, cB, cU, cK, cVar, cN, cCall, aNil, aCons, aN, aCat, cNl, cFl, aFl, qT, qNot, qAnd, qOr, cAnd, cOr, cNot, cIf, cSl, oNo, oOf, cCh, iOf, iOfA, qYes, ok_bnd, ok_some, ok_put, bnd_of, put_of, gNm, gTp, gC, gN0, List.map_cons, List.map_nil, List.length_cons, List.length_nil, List.replicate, List.cons_append, List.nil_append, List.set_cons_zero, List.set_cons_succ, List.getElem?_cons_zero, List.getElem?_cons_succ, Option.some.injEq, exists_eq_left', Option.bind_some, Nat.reduceAdd, Nat.reduceSub, Nat.sub_zero, Nat.sub_self, Nat.zero_add, Nat.reduceEqDiff, ↓reduceIte, pTup, pLst, lenOk, pI0, pI, pIB, asT, asL, asS, truth, asI, asB, flatD, flatDs, pSub, pMod, pEq, pLe, pGe, pGt, pLt, pIs, pIsNot, nonD, pTuple, pList, pInt, pNeg, Bool.not_true, Bool.not_false, if_true, if_false, Bool.and_self, Bool.true_and, Bool.and_true, Bool.false_eq_true, wipeR, sz0, sz1, sz2, sz3, sz4, sz5, sz6]
    refine k_draw (by omega) (by omega) fun r s' h0 h1 => ?_
    obtain ⟨c, hc⟩ := ix_str (z := "abcdefghijklmnopqrstuvwxyz") (r := r) (by decide) h0 h1
    refine ⟨_, hc, xs ++ [⟨#[c]⟩], by simp, by simp [hl], fun x hx' => ?_⟩
    rcases List.mem_append.mp hx' with z | z
    · exact hx x z
    · have : x = ⟨#[c]⟩ := by simpa using z
      rw [this]
      rfl
  · rintro acc s ⟨xs, rfl, hl, hx⟩
    rw [rng_len] at hl
    have hs : (xs.map (·.length)).sum = xs.length := by
      have : xs.map (·.length) = List.replicate xs.length 1 := by
        apply List.ext_getElem (by simp)
        intro i h1 h2
        simp at h1 ⊢
        exact hx _ (List.getElem_mem h1)
      rw [this]
      simp
    have e0 : (Str.ofString "").length = 0 := rfl
    refine ⟨_, ?_, q (Txt.join "" xs) _ ?_⟩
    · simp only [pJoin, Dl.strs_map]
      rw [if_pos]
      rw [hs, e0]
      omega
    · rw [TL.join_eq]
      have := StrLaws.join_length_le "" xs
      rw [hs, e0] at this
      omega
/-! ### words that are not there yet -/
theorem mem_strs (w : Str) (ns : List Str) : memD (.str w) (ns.map .str) = some (decide (w ∈ ns)) := by
  unfold memD
  have h1 : (ns.map PyData.str).all scalD = true := by simp [List.all_map, scalD]
  rw [if_pos ⟨rfl, h1⟩]
  congr 1
  rw [Bool.eq_iff_iff]
  simp [List.any_map, eqS]
theorem in_strsL (w : Str) (ns : List Str) : inD (.str w) (.list (ns.map .str)) = some (decide (w ∈ ns)) := by
  simp only [inD, mem_strs]
theorem notIn_strsL (w : Str) (ns : List Str) : pNotIn (.str w) (.list (ns.map .str)) = some (.bool (!decide (w ∈ ns))) := by
  simp only [pNotIn, in_strsL]
  rfl
def cand (a : Str) (c : Nat) : Str := a ++ (⟨#[c]⟩ : Str) ++ ("qz" : Str)
def cands (a : Str) : List Str := (List.range 26).map fun i => cand a (97 + i)
theorem cps_inj {a b : Str} (h : a.cps = b.cps) : a = b := by
  cases a; cases b; cases h; rfl
theorem cand_inj {a : Str} {i j : Nat} (h : cand a i = cand a j) : i = j := by
  have h := congrArg Str.cps h
  unfold cand at h
  rw [Str.cps_append, Str.cps_append, Str.cps_append, Str.cps_append] at h
  have h := congrArg Array.toList h
  simp only [Array.toList_append] at h
  have h := List.append_cancel_right h
  have h := List.append_cancel_left h
  simpa using h
theorem cands_nd (a : Str) : (cands a).Nodup := by
  unfold cands
  have h := @List.nodup_range 26
  unfold List.Nodup at h ⊢
  rw [List.pairwise_map]
  exact h.imp fun {i j} ne e => ne (by have := cand_inj e; omega)
/-- the word itself, or one of the candidates that is not there -/
def Unl (w a : Str) (ns : List Str) (x : Str) : Prop := (w ∉ ns ∧ x = w) ∨ (w ∈ ns ∧ x ∈ cands a ∧ x ∉ ns)
theorem cand_free {a : Str} {ns : List Str} (h : (ns.filter fun x => decide (x ∈ cands a)).length < 26) : ∃ x ∈ cands a, x ∉ ns := by
  apply Classical.byContradiction
  intro hc
  have hs : ∀ x ∈ cands a, x ∈ ns.filter fun x => decide (x ∈ cands a) := fun x hx => by
    refine List.mem_filter.mpr ⟨?_, by simpa using hx⟩
    apply Classical.byContradiction
    intro hn
    exact hc ⟨x, hx, hn⟩
  have := Lc.nodup_le _ _ (cands_nd a) hs
  have h2 : (cands a).length = 26 := by simp [cands]
  omega
theorem small_cps : (Str.ofString "abcdefghijklmnopqrstuvwxyz").cps.toList = (List.range 26).map (97 + ·) := by decide +kernel
theorem ok_unlike {s : DS} {w a : Str} {ns : List Str} (hw : w.length ≤ 1000) (ha : a.length ≤ 10) (hf : (ns.filter fun x => decide (x ∈ cands a)).length < 26) {Q : D → DS → Prop} (q : ∀ x, Unl w a ns x → x.length ≤ 1000 → Q (.str x) s) : Ok (K_w_unlike [.str w, .list (ns.map .str), .str a] s) Q := by
  unfold K_w_unlike B_w_unlike
  simp only [e_fn, e_seq, e_asg, startR, sSet, sOwn, sRet, sIf, sNx, cB, cU, cK, cVar, cN, cCall, aNil, aCons, aN, aCat, cNl, cFl, aFl, qT, qNot, qAnd, qOr, cAnd, cOr, cNot, cIf, cSl, oNo, oOf, cCh, iOf, iOfA, qYes, ok_bnd, ok_some, ok_put, bnd_of, put_of, gNm, gTp, gC, gN0, List.map_cons, List.map_nil, List.length_cons, List.length_nil, List.replicate, List.cons_append, List.nil_append, List.set_cons_zero, List.set_cons_succ, List.getElem?_cons_zero, List.getElem?_cons_succ, Option.some.injEq, exists_eq_left', Option.bind_some, Nat.reduceAdd, Nat.reduceSub, Nat.sub_zero, Nat.sub_self, Nat.zero_add, Nat.reduceEqDiff, ↓reduceIte, pTup, pLst, lenOk, pI0, pI, pIB, asT, asL, asS, truth, asI, asB, flatD, flatDs, pSub, pMod, pEq, pLe, pGe, pGt, pLt, pIs, pIsNot, nonD, pTuple, pList, pInt, pNeg, Bool.not_true, Bool.not_false, if_true, if_false, Bool.and_self, Bool.true_and, Bool.and_true, Bool.false_eq_true, wipeR, sz0, sz1, sz2, sz3, sz4, sz5, sz6, notIn_strsL]
  by_cases hm : w ∈ ns
  · simp only [hm, decide_true, Bool.not_true, Bool.false_eq_true, if_false, ok_some]
    refine k_lc ?_
    simp only [e_fn, e_seq, e_asg, startR, sSet, sOwn, sRet, sIf, sNx, cB, cU, cK, cVar, cN, cCall, aNil, aCons, aN, aCat, cNl, cFl, aFl, qT, qNot, qAnd, qOr, cAnd, cOr, cNot, cIf, cSl, oNo, oOf, cCh, iOf, iOfA, qYes, ok_bnd, ok_some, ok_put, bnd_of, put_of, gNm, gTp, gC, gN0, List.map_cons, List.map_nil, List.length_cons, List.length_nil, List.replicate, List.cons_append, List.nil_append, List.set_cons_zero, List.set_cons_succ, List.getElem?_cons_zero, List.getElem?_cons_succ, Option.some.injEq, exists_eq_left', Option.bind_some, Nat.reduceAdd, Nat.reduceSub, Nat.sub_zero, Nat.sub_self, Nat.zero_add, Nat.reduceEqDiff, ↓reduceIte, pTup, pLst, lenOk, pI0, pI, pIB, asT, asL, asS, truth, asI, asB, flatD, flatDs, pSub, pMod, pEq, pLe, pGe, pGt, pLt, pIs, pIsNot, nonD, pTuple, pList, pInt, pNeg, Bool.not_true, Bool.not_false, if_true, if_false, Bool.and_self, Bool.true_and, Bool.and_true, Bool.false_eq_true, wipeR, sz0, sz1, sz2, sz3, sz4, sz5, sz6]
    refine ⟨?_, fun j acc s' => s' = s ∧ acc = ((((List.range 26).take j).map fun i => cand a (97 + i)).filter (fun x => decide (x ∉ ns))).map PyData.str, ⟨rfl, by simp⟩, ?_, ?_⟩
    · rw [small_cps]; simp; decide
    · rintro j d acc s' hd ⟨rfl, rfl⟩
      rw [small_cps, List.map_map, List.getElem?_map] at hd
      have hj : j < 26 := by
        apply Classical.byContradiction
        intro hn
        rw [List.getElem?_eq_none (by simpa using hn)] at hd
        cases hd
      rw [List.getElem?_range hj] at hd
      cases hd
      have hl : a.length + 1 + 2 ≤ sizeLine := szL (by omega)
      have e1 : pAdd (.str a) (.str ⟨#[97 + j]⟩) = some (.str (a ++ (⟨#[97 + j]⟩ : Str))) := by
        simp only [pAdd]
        rw [if_pos]
        show a.length + 1 ≤ sizeLine
        omega
      have e2 : pAdd (.str (a ++ (⟨#[97 + j]⟩ : Str))) (.str "qz") = some (.str (cand a (97 + j))) := by
        simp only [pAdd]
        rw [if_pos]
        · rfl
        · show (a ++ (⟨#[97 + j]⟩ : Str)).length + 2 ≤ sizeLine
          have : (a ++ (⟨#[97 + j]⟩ : Str)).length = a.length + 1 := by simp [Str.length, Str.cps_append]
          omega
      simp only [e_fn, e_seq, e_asg, startR, sSet, sOwn, sRet, sIf, sNx, cB, cU, cK, cVar, cN, cCall, aNil, aCons, aN, aCat, cNl, cFl, aFl, qT, qNot, qAnd, qOr, cAnd, cOr, cNot, cIf, cSl, oNo, oOf, cCh, iOf, iOfA, qYes, ok_bnd, ok_some, ok_put, bnd_of, put_of, gNm, gTp, gC, gN0, List.map_cons, List.map_nil, List.length_cons, List.length_nil, List.replicate, List.cons_append, List.nil_append, List.set_cons_zero, List.set_cons_succ, List.getElem?_cons_zero, List.getElem?_cons_succ, Option.some.injEq, exists_eq_left', Option.bind_some, Nat.reduceAdd, Nat.reduceSub, Nat.sub_zero, Nat.sub_self, Nat.zero_add, Nat.reduceEqDiff, ↓reduceIte, pTup, pLst, lenOk, pI0, pI, pIB, asT, asL, asS, truth, asI, asB, flatD, flatDs, pSub, pMod, pEq, pLe, pGe, pGt, pLt, pIs, pIsNot, nonD, pTuple, pList, pInt, pNeg, Bool.not_true, Bool.not_false, if_true, if_false, Bool.and_self, Bool.true_and, Bool.and_true, Bool.false_eq_true, wipeR, sz0, sz1, sz2, sz3, sz4, sz5, sz6, Function.comp, e1, e2, notIn_strsL]
      have tk : (List.range 26).take (j + 1) = (List.range 26).take j ++ [j] := by
        rw [List.take_succ, List.getElem?_range hj]
        rfl
      by_cases hc : cand a (97 + j) ∈ ns
      · simp only [hc, decide_true, Bool.not_true, Bool.false_eq_true, if_false, tk]
        simp [hc]
      · simp only [hc, decide_false, Bool.not_false, if_true, tk, ok_some]
        simp [hc]
    · rintro acc s' ⟨rfl, rfl⟩
      have hlen : ((Str.ofString "abcdefghijklmnopqrstuvwxyz").cps.toList.map fun c => (PyData.str ⟨#[c]⟩ : D)).length = 26 := by rw [small_cps]; simp
      rw [hlen]
      have e3 : ((List.range 26).take 26).map (fun i => cand a (97 + i)) = cands a := by
        rw [List.take_of_length_le (by simp)]
        rfl
      rw [e3]
      obtain ⟨x, hx, hn⟩ := cand_free hf
      have hne : (cands a).filter (fun x => decide (x ∉ ns)) ≠ [] := fun z => by
        have : x ∈ (cands a).filter (fun x => decide (x ∉ ns)) := List.mem_filter.mpr ⟨hx, by simpa using hn⟩
        rw [z] at this
        cases this
      obtain ⟨y, r, hy⟩ : ∃ y r, (cands a).filter (fun x => decide (x ∉ ns)) = y :: r := by
        cases h : (cands a).filter (fun x => decide (x ∉ ns)) with
        | nil => exact absurd h hne
        | cons y r => exact ⟨y, r, rfl⟩
      have hyc : y ∈ (cands a).filter (fun x => decide (x ∉ ns)) := by rw [hy]; exact List.mem_cons_self
      have hyc := List.mem_filter.mp hyc
      rw [hy]
      refine ⟨.str y, (by simp only [pIx]; exact atI_nat (j := 0) rfl), q y (.inr ⟨hm, hyc.1, by simpa using hyc.2⟩) ?_⟩
      obtain ⟨i, _, rfl⟩ := List.mem_map.mp hyc.1
      have : (cand a (97 + i)).length = a.length + 3 := by simp [cand, Str.length, Str.cps_append]; rfl
      omega
  · simp only [hm, decide_false, Bool.not_false, if_true, ok_some]
    exact q w (.inl ⟨hm, rfl⟩) hw
end Lw23
set_option Elab.async false
set_option linter.all false
set_option maxRecDepth 100000
set_option maxHeartbeats 2000000
namespace Lw23
open PySem PySem.Spec PyProof.Rows L2 Dl
theorem ix_list {xs : List D} {r : Int} (h0 : 0 ≤ r) (h : r < xs.length) : ∃ d ∈ xs, pIx (.list xs) (.int r) = some d := by
  obtain ⟨d, hd, _, e⟩ := atI_lt h0 h
  exact ⟨d, hd, by simp only [pIx]; exact e⟩
theorem ix_strs {xs : List Str} {r : Int} (h0 : 0 ≤ r) (h : r < xs.length) : ∃ d ∈ xs, pIx (.list (xs.map .str)) (.int r) = some (.str d) := by
  obtain ⟨d, hd, e⟩ := ix_list (xs := xs.map .str) h0 (by simpa using h)
  obtain ⟨z, hz, rfl⟩ := List.mem_map.mp hd
  exact ⟨z, hz, e⟩
/-- one of some ints -/
theorem ix_ints {ns : List Int} {r : Int} (h0 : 0 ≤ r) (h : r < ns.length) : ∃ n ∈ ns, pIx (.list (ns.map .int)) (.int r) = some (.int n) := by
  obtain ⟨d, hd, e⟩ := ix_list (xs := ns.map .int) h0 (by simpa using h)
  obtain ⟨z, hz, rfl⟩ := List.mem_map.mp hd
  exact ⟨z, hz, e⟩
def ownW : List Str := Txt.split (Str.ofString "absurd all an and any are as at be by false if is least many more no not only or same some than the then there every either unless") " "
theorem own_eq {s : DS} : K_w_own [] s = some (.list (ownW.map .str), s) := by
  unfold K_w_own B_w_own
  rfl
theorem own_few : ∀ x ∈ ownW, x ∉ cands "q" := by decide +kernel
theorem own_len : ownW.length = 29 := by decide +kernel
theorem fil_le {α : Type} (p : α → Bool) (l : List α) : (l.filter p).length ≤ l.length := List.length_filter_le p l
theorem few_app {a : Str} {xs ys : List Str} {n m : Nat} (h1 : (xs.filter fun x => decide (x ∈ cands a)).length ≤ n) (h2 : (ys.filter fun x => decide (x ∈ cands a)).length ≤ m) (h : n + m < 26) : ((xs ++ ys).filter fun x => decide (x ∈ cands a)).length < 26 := by
  rw [List.filter_append, List.length_append]
  omega
theorem few_le {a : Str} {xs ys : List Str} {n m : Nat} (h1 : (xs.filter fun x => decide (x ∈ cands a)).length ≤ n) (h2 : (ys.filter fun x => decide (x ∈ cands a)).length ≤ m) : ((xs ++ ys).filter fun x => decide (x ∈ cands a)).length ≤ n + m := by
  rw [List.filter_append, List.length_append]
  omega
theorem own0 : (ownW.filter fun x => decide (x ∈ cands "q")).length ≤ 0 := by
  rw [List.filter_eq_nil_iff.mpr fun x hx => by simpa using own_few x hx]
  simp
theorem fl_strs (xs : List Str) : flatDs (xs.map .str) = true := by
  induction xs with
  | nil => rfl
  | cons x xs ih => simp [flatDs, flatD, ih]
theorem catS {xs ys : List Str} (h : xs.length + ys.length ≤ 100000) : pAdd (.list (xs.map .str)) (.list (ys.map .str)) = some (.list ((xs ++ ys).map .str)) := by
  simp only [pAdd]
  rw [if_pos (by simp only [List.length_map]; exact szL h)]
  simp
theorem addS {a b : Str} (h : a.length + b.length ≤ 100000) : pAdd (.str a) (.str b) = some (.str (a ++ b)) := by
  simp only [pAdd]
  rw [if_pos (szL h)]
theorem addS_len (a b : Str) : (a ++ b).length = a.length + b.length := by simp [Str.length, Str.cps_append]
theorem upperS {a : Str} (h : a.length ≤ 1000) : pUpper (.str a) = some (.str (Txt.upper a)) := by
  simp only [pUpper]
  rw [if_pos (by omega)]
theorem up_len (a : Str) : (Txt.upper a).length ≤ 3 * a.length := by
  exact StrLaws.placedRaw_le3 a.cps (fun _ c => Unicode.upperOf c) fun _ c => StrLaws.upperOf_le3 c
theorem sortedS {xs : List Str} (h : xs.length < 64) : pSorted [.list (xs.map .str)] = some ((sortS xs).map .str) := by
  simp only [pSorted, Dl.strs_map]
  rw [if_pos h]
/-- a vocabulary -/
def vocD (ns ks ds : List Str) : D := .tuple [.tuple (ns.map .str), .tuple (ks.map .str), .tuple (ds.map .str)]
def voc_Q (d : D) : Prop := ∃ ns ks ds : List Str, d = vocD ns ks ds ∧ ns.length ≤ 6 ∧ ks.length ≤ 6 ∧ ds.length ≤ 6
abbrev Fsigns : Fn DS := K_w_signs Fdraw
abbrev Fvoc : Fn DS := K_w_vocabulary K_w_own Fdraw Fsigns K_w_unlike
theorem ok_vocabulary {s : DS} {Q : D → DS → Prop} (q : ∀ d s', voc_Q d → Q d s') : Ok (Fvoc [hnd 0] s) Q := by
  unfold Fvoc K_w_vocabulary B_w_vocabulary
  simp only [e_fn, e_seq, e_asg, startR, sSet, sOwn, sRet, sIf, sNx, cB, cU, cK, cVar, cN, cCall, aNil, aCons, aN, aCat, cNl, cFl, aFl, qT, qNot, qAnd, qOr, cAnd, cOr, cNot, cIf, cSl, oNo, oOf, cCh, iOf, iOfA, qYes, ok_bnd, ok_some, ok_put, bnd_of, put_of, gNm, gTp, gC, gN0, List.map_cons, List.map_nil, List.length_cons, List.length_nil, List.replicate, List.cons_append, List.nil_append, List.set_cons_zero, List.set_cons_succ, List.getElem?_cons_zero, List.getElem?_cons_succ, Option.some.injEq, exists_eq_left', Option.bind_some, Nat.reduceAdd, Nat.reduceSub, Nat.sub_zero, Nat.sub_self, Nat.zero_add, Nat.reduceEqDiff, ↓reduceIte, pTup, pLst, lenOk, pI0, pI, pIB, asT, asL, asS, truth, asI, asB, flatD, flatDs, pSub, pMod, pEq, pLe, pGe, pGt, pLt, pIs, pIsNot, nonD, pTuple, pList, pInt, pNeg, Bool.not_true, Bool.not_false, if_true, if_false, Bool.and_self, Bool.true_and, Bool.and_true, Bool.false_eq_true, wipeR, sz0, sz1, sz2, sz3, sz4, sz5, sz6, own_eq]
  refine k_draw (by omega) (by omega) fun r s1 h0 h1 => ?_
  try simp only [e_fn, e_seq, e_asg, startR, sSet, sOwn, sRet, sIf, sNx, cB, cU, cK, cVar, cN, cCall, aNil, aCons, aN, aCat, cNl, cFl, aFl, qT, qNot, qAnd, qOr, cAnd, cOr, cNot, cIf, cSl, oNo, oOf, cCh, iOf, iOfA, qYes, ok_bnd, ok_some, ok_put, bnd_of, put_of, gNm, gTp, gC, gN0, List.map_cons, List.map_nil, List.length_cons, List.length_nil, List.replicate, List.cons_append, List.nil_append, List.set_cons_zero, List.set_cons_succ, List.getElem?_cons_zero, List.getElem?_cons_succ, Option.some.injEq, exists_eq_left', Option.bind_some, Nat.reduceAdd, Nat.reduceSub, Nat.sub_zero, Nat.sub_self, Nat.zero_add, Nat.reduceEqDiff, ↓reduceIte, pTup, pLst, lenOk, pI0, pI, pIB, asT, asL, asS, truth, asI, asB, flatD, flatDs, pSub, pMod, pEq, pLe, pGe, pGt, pLt, pIs, pIsNot, nonD, pTuple, pList, pInt, pNeg, Bool.not_true, Bool.not_false, if_true, if_false, Bool.and_self, Bool.true_and, Bool.and_true, Bool.false_eq_true, wipeR, sz0, sz1, sz2, sz3, sz4, sz5, sz6]
  obtain ⟨g, hg, g0, g1⟩ : ∃ g : Int, (if decide (r = 5) = true then 1 else 0) = g ∧ 0 ≤ g ∧ g < 2 := by
    by_cases e : r = 5
    · exact ⟨1, by simp [e], by omega, by omega⟩
    · exact ⟨0, by simp [e], by omega, by omega⟩
  rw [hg]
  obtain ⟨n1, hn1, e1⟩ := ix_ints (ns := [3, 7]) (r := g) g0 (by simpa using g1)
  obtain ⟨n2, hn2, e2⟩ := ix_ints (ns := [2, 7]) (r := g) g0 (by simpa using g1)
  obtain ⟨n3, hn3, e3⟩ := ix_ints (ns := [2, 4]) (r := g) g0 (by simpa using g1)
  have b1 : 3 ≤ n1 ∧ n1 ≤ 7 := by rcases List.mem_cons.mp hn1 with h | h <;> (try (have h : n1 = 7 := by simpa using h)) <;> omega
  have b2 : 2 ≤ n2 ∧ n2 ≤ 7 := by rcases List.mem_cons.mp hn2 with h | h <;> (try (have h : n2 = 7 := by simpa using h)) <;> omega
  have b3 : 2 ≤ n3 ∧ n3 ≤ 4 := by rcases List.mem_cons.mp hn3 with h | h <;> (try (have h : n3 = 4 := by simpa using h)) <;> omega
  simp only [List.map_cons, List.map_nil] at e1 e2 e3
  refine k_forP (fun ds _ => ∃ n : Nat, ds = rngD 0 n ∧ n ≤ 6) ?_ ?_
  · simp only [e_fn, e_seq, e_asg, startR, sSet, sOwn, sRet, sIf, sNx, cB, cU, cK, cVar, cN, cCall, aNil, aCons, aN, aCat, cNl, cFl, aFl, qT, qNot, qAnd, qOr, cAnd, cOr, cNot, cIf, cSl, oNo, oOf, cCh, iOf, iOfA, qYes, ok_bnd, ok_some, ok_put, bnd_of, put_of, gNm, gTp, gC, gN0, List.map_cons, List.map_nil, List.length_cons, List.length_nil, List.replicate, List.cons_append, List.nil_append, List.set_cons_zero, List.set_cons_succ, List.getElem?_cons_zero, List.getElem?_cons_succ, Option.some.injEq, exists_eq_left', Option.bind_some, Nat.reduceAdd, Nat.reduceSub, Nat.sub_zero, Nat.sub_self, Nat.zero_add, Nat.reduceEqDiff, ↓reduceIte, pTup, pLst, lenOk, pI0, pI, pIB, asT, asL, asS, truth, asI, asB, flatD, flatDs, pSub, pMod, pEq, pLe, pGe, pGt, pLt, pIs, pIsNot, nonD, pTuple, pList, pInt, pNeg, Bool.not_true, Bool.not_false, if_true, if_false, Bool.and_self, Bool.true_and, Bool.and_true, Bool.false_eq_true, wipeR, sz0, sz1, sz2, sz3, sz4, sz5, sz6, e1]
    exact k_draw (by omega) (by omega) fun m s2 m0 m1 => ⟨_, pr1 (by omega) (by omega), m.toNat, rfl, by omega⟩
  rintro _ s2 ⟨n, rfl, hn⟩
  refine ⟨fun j ρ _ => ∃ (ns : List Str) (y z : Option D), ns.length = j ∧ ρ = [some (hnd 0), some (.list (ownW.map .str)), some (.int g), some (.list (ns.map .str)), y, z, none, none], ⟨[], none, none, rfl, rfl⟩, ?_, ?_⟩
  · rintro j d ρ s hd ⟨ns, y, z, hl, rfl⟩
    obtain ⟨hj, rfl⟩ := range_get hd
    refine ⟨_, rfl, ?_⟩
    refine k_seq (k_set ?_)
    try simp only [e_fn, e_seq, e_asg, startR, sSet, sOwn, sRet, sIf, sNx, cB, cU, cK, cVar, cN, cCall, aNil, aCons, aN, aCat, cNl, cFl, aFl, qT, qNot, qAnd, qOr, cAnd, cOr, cNot, cIf, cSl, oNo, oOf, cCh, iOf, iOfA, qYes, ok_bnd, ok_some, ok_put, bnd_of, put_of, gNm, gTp, gC, gN0, List.map_cons, List.map_nil, List.length_cons, List.length_nil, List.replicate, List.cons_append, List.nil_append, List.set_cons_zero, List.set_cons_succ, List.getElem?_cons_zero, List.getElem?_cons_succ, Option.some.injEq, exists_eq_left', Option.bind_some, Nat.reduceAdd, Nat.reduceSub, Nat.sub_zero, Nat.sub_self, Nat.zero_add, Nat.reduceEqDiff, ↓reduceIte, pTup, pLst, lenOk, pI0, pI, pIB, asT, asL, asS, truth, asI, asB, flatD, flatDs, pSub, pMod, pEq, pLe, pGe, pGt, pLt, pIs, pIsNot, nonD, pTuple, pList, pInt, pNeg, Bool.not_true, Bool.not_false, if_true, if_false, Bool.and_self, Bool.true_and, Bool.and_true, Bool.false_eq_true, wipeR, sz0, sz1, sz2, sz3, sz4, sz5, sz6]
    refine ok_signs (by omega) (by omega) fun z1 s3 hz1 => ?_
    rw [upperS (by omega)]
    try simp only [e_fn, e_seq, e_asg, startR, sSet, sOwn, sRet, sIf, sNx, cB, cU, cK, cVar, cN, cCall, aNil, aCons, aN, aCat, cNl, cFl, aFl, qT, qNot, qAnd, qOr, cAnd, cOr, cNot, cIf, cSl, oNo, oOf, cCh, iOf, iOfA, qYes, ok_bnd, ok_some, ok_put, bnd_of, put_of, gNm, gTp, gC, gN0, List.map_cons, List.map_nil, List.length_cons, List.length_nil, List.replicate, List.cons_append, List.nil_append, List.set_cons_zero, List.set_cons_succ, List.getElem?_cons_zero, List.getElem?_cons_succ, Option.some.injEq, exists_eq_left', Option.bind_some, Nat.reduceAdd, Nat.reduceSub, Nat.sub_zero, Nat.sub_self, Nat.zero_add, Nat.reduceEqDiff, ↓reduceIte, pTup, pLst, lenOk, pI0, pI, pIB, asT, asL, asS, truth, asI, asB, flatD, flatDs, pSub, pMod, pEq, pLe, pGe, pGt, pLt, pIs, pIsNot, nonD, pTuple, pList, pInt, pNeg, Bool.not_true, Bool.not_false, if_true, if_false, Bool.and_self, Bool.true_and, Bool.and_true, Bool.false_eq_true, wipeR, sz0, sz1, sz2, sz3, sz4, sz5, sz6]
    refine k_draw (by omega) (by omega) fun i s4 i0 i1 => ?_
    obtain ⟨l, hl4, e4⟩ := ix_ints (ns := [0, 1, 2, 7]) (r := i) i0 (by simpa using i1)
    simp only [List.map_cons, List.map_nil] at e4
    rw [e4]
    have bl : 0 ≤ l ∧ l ≤ 7 := by simp at hl4; omega
    try simp only [e_fn, e_seq, e_asg, startR, sSet, sOwn, sRet, sIf, sNx, cB, cU, cK, cVar, cN, cCall, aNil, aCons, aN, aCat, cNl, cFl, aFl, qT, qNot, qAnd, qOr, cAnd, cOr, cNot, cIf, cSl, oNo, oOf, cCh, iOf, iOfA, qYes, ok_bnd, ok_some, ok_put, bnd_of, put_of, gNm, gTp, gC, gN0, List.map_cons, List.map_nil, List.length_cons, List.length_nil, List.replicate, List.cons_append, List.nil_append, List.set_cons_zero, List.set_cons_succ, List.getElem?_cons_zero, List.getElem?_cons_succ, Option.some.injEq, exists_eq_left', Option.bind_some, Nat.reduceAdd, Nat.reduceSub, Nat.sub_zero, Nat.sub_self, Nat.zero_add, Nat.reduceEqDiff, ↓reduceIte, pTup, pLst, lenOk, pI0, pI, pIB, asT, asL, asS, truth, asI, asB, flatD, flatDs, pSub, pMod, pEq, pLe, pGe, pGt, pLt, pIs, pIsNot, nonD, pTuple, pList, pInt, pNeg, Bool.not_true, Bool.not_false, if_true, if_false, Bool.and_self, Bool.true_and, Bool.and_true, Bool.false_eq_true, wipeR, sz0, sz1, sz2, sz3, sz4, sz5, sz6]
    refine ok_signs (by omega) (by omega) fun z2 s5 hz2 => ?_
    have u1 := up_len z1
    rw [addS (by omega)]
    try simp only [e_fn, e_seq, e_asg, startR, sSet, sOwn, sRet, sIf, sNx, cB, cU, cK, cVar, cN, cCall, aNil, aCons, aN, aCat, cNl, cFl, aFl, qT, qNot, qAnd, qOr, cAnd, cOr, cNot, cIf, cSl, oNo, oOf, cCh, iOf, iOfA, qYes, ok_bnd, ok_some, ok_put, bnd_of, put_of, gNm, gTp, gC, gN0, List.map_cons, List.map_nil, List.length_cons, List.length_nil, List.replicate, List.cons_append, List.nil_append, List.set_cons_zero, List.set_cons_succ, List.getElem?_cons_zero, List.getElem?_cons_succ, Option.some.injEq, exists_eq_left', Option.bind_some, Nat.reduceAdd, Nat.reduceSub, Nat.sub_zero, Nat.sub_self, Nat.zero_add, Nat.reduceEqDiff, ↓reduceIte, pTup, pLst, lenOk, pI0, pI, pIB, asT, asL, asS, truth, asI, asB, flatD, flatDs, pSub, pMod, pEq, pLe, pGe, pGt, pLt, pIs, pIsNot, nonD, pTuple, pList, pInt, pNeg, Bool.not_true, Bool.not_false, if_true, if_false, Bool.and_self, Bool.true_and, Bool.and_true, Bool.false_eq_true, wipeR, sz0, sz1, sz2, sz3, sz4, sz5, sz6]
    refine k_app rfl (by rw [List.length_map]; exact szl (by omega)) ?_
    try simp only [e_fn, e_seq, e_asg, startR, sSet, sOwn, sRet, sIf, sNx, cB, cU, cK, cVar, cN, cCall, aNil, aCons, aN, aCat, cNl, cFl, aFl, qT, qNot, qAnd, qOr, cAnd, cOr, cNot, cIf, cSl, oNo, oOf, cCh, iOf, iOfA, qYes, ok_bnd, ok_some, ok_put, bnd_of, put_of, gNm, gTp, gC, gN0, List.map_cons, List.map_nil, List.length_cons, List.length_nil, List.replicate, List.cons_append, List.nil_append, List.set_cons_zero, List.set_cons_succ, List.getElem?_cons_zero, List.getElem?_cons_succ, Option.some.injEq, exists_eq_left', Option.bind_some, Nat.reduceAdd, Nat.reduceSub, Nat.sub_zero, Nat.sub_self, Nat.zero_add, Nat.reduceEqDiff, ↓reduceIte, pTup, pLst, lenOk, pI0, pI, pIB, asT, asL, asS, truth, asI, asB, flatD, flatDs, pSub, pMod, pEq, pLe, pGe, pGt, pLt, pIs, pIsNot, nonD, pTuple, pList, pInt, pNeg, Bool.not_true, Bool.not_false, if_true, if_false, Bool.and_self, Bool.true_and, Bool.and_true, Bool.false_eq_true, wipeR, sz0, sz1, sz2, sz3, sz4, sz5, sz6]
    refine ok_unlike (by rw [addS_len]; omega) (by decide) ?_ fun x hx hxl => ?_
    · exact Nat.lt_of_le_of_lt (fil_le _ _) (by omega)
    try simp only [e_fn, e_seq, e_asg, startR, sSet, sOwn, sRet, sIf, sNx, cB, cU, cK, cVar, cN, cCall, aNil, aCons, aN, aCat, cNl, cFl, aFl, qT, qNot, qAnd, qOr, cAnd, cOr, cNot, cIf, cSl, oNo, oOf, cCh, iOf, iOfA, qYes, ok_bnd, ok_some, ok_put, bnd_of, put_of, gNm, gTp, gC, gN0, List.map_cons, List.map_nil, List.length_cons, List.length_nil, List.replicate, List.cons_append, List.nil_append, List.set_cons_zero, List.set_cons_succ, List.getElem?_cons_zero, List.getElem?_cons_succ, Option.some.injEq, exists_eq_left', Option.bind_some, Nat.reduceAdd, Nat.reduceSub, Nat.sub_zero, Nat.sub_self, Nat.zero_add, Nat.reduceEqDiff, ↓reduceIte, pTup, pLst, lenOk, pI0, pI, pIB, asT, asL, asS, truth, asI, asB, flatD, flatDs, pSub, pMod, pEq, pLe, pGe, pGt, pLt, pIs, pIsNot, nonD, pTuple, pList, pInt, pNeg, Bool.not_true, Bool.not_false, if_true, if_false, Bool.and_self, Bool.true_and, Bool.and_true, Bool.false_eq_true, wipeR, sz0, sz1, sz2, sz3, sz4, sz5, sz6]
    exact ⟨ns ++ [x], _, _, by simp [hl], by rw [List.map_append]; rfl⟩
  rintro ρ s6 ⟨ns, y, z, hl, rfl⟩
  rw [rng_len] at hl
  try simp only [e_fn, e_seq, e_asg, startR, sSet, sOwn, sRet, sIf, sNx, cB, cU, cK, cVar, cN, cCall, aNil, aCons, aN, aCat, cNl, cFl, aFl, qT, qNot, qAnd, qOr, cAnd, cOr, cNot, cIf, cSl, oNo, oOf, cCh, iOf, iOfA, qYes, ok_bnd, ok_some, ok_put, bnd_of, put_of, gNm, gTp, gC, gN0, List.map_cons, List.map_nil, List.length_cons, List.length_nil, List.replicate, List.cons_append, List.nil_append, List.set_cons_zero, List.set_cons_succ, List.getElem?_cons_zero, List.getElem?_cons_succ, Option.some.injEq, exists_eq_left', Option.bind_some, Nat.reduceAdd, Nat.reduceSub, Nat.sub_zero, Nat.sub_self, Nat.zero_add, Nat.reduceEqDiff, ↓reduceIte, pTup, pLst, lenOk, pI0, pI, pIB, asT, asL, asS, truth, asI, asB, flatD, flatDs, pSub, pMod, pEq, pLe, pGe, pGt, pLt, pIs, pIsNot, nonD, pTuple, pList, pInt, pNeg, Bool.not_true, Bool.not_false, if_true, if_false, Bool.and_self, Bool.true_and, Bool.and_true, Bool.false_eq_true, wipeR, sz0, sz1, sz2, sz3, sz4, sz5, sz6]
  -- kinds
  refine k_forP (fun ds _ => ∃ n : Nat, ds = rngD 0 n ∧ n ≤ 6) ?_ ?_
  · simp only [e_fn, e_seq, e_asg, startR, sSet, sOwn, sRet, sIf, sNx, cB, cU, cK, cVar, cN, cCall, aNil, aCons, aN, aCat, cNl, cFl, aFl, qT, qNot, qAnd, qOr, cAnd, cOr, cNot, cIf, cSl, oNo, oOf, cCh, iOf, iOfA, qYes, ok_bnd, ok_some, ok_put, bnd_of, put_of, gNm, gTp, gC, gN0, List.map_cons, List.map_nil, List.length_cons, List.length_nil, List.replicate, List.cons_append, List.nil_append, List.set_cons_zero, List.set_cons_succ, List.getElem?_cons_zero, List.getElem?_cons_succ, Option.some.injEq, exists_eq_left', Option.bind_some, Nat.reduceAdd, Nat.reduceSub, Nat.sub_zero, Nat.sub_self, Nat.zero_add, Nat.reduceEqDiff, ↓reduceIte, pTup, pLst, lenOk, pI0, pI, pIB, asT, asL, asS, truth, asI, asB, flatD, flatDs, pSub, pMod, pEq, pLe, pGe, pGt, pLt, pIs, pIsNot, nonD, pTuple, pList, pInt, pNeg, Bool.not_true, Bool.not_false, if_true, if_false, Bool.and_self, Bool.true_and, Bool.and_true, Bool.false_eq_true, wipeR, sz0, sz1, sz2, sz3, sz4, sz5, sz6, e1]
    exact k_draw (by omega) (by omega) fun m s2 m0 m1 => ⟨_, pr1 (by omega) (by omega), m.toNat, rfl, by omega⟩
  rintro _ s2 ⟨n', rfl, hn'⟩
  refine ⟨fun j ρ _ => ∃ (ks : List Str) (y : Option D), ks.length = j ∧ ρ = [some (hnd 0), some (.list (ownW.map .str)), some (.int g), some (.list (ns.map .str)), y, z, some (.list (ks.map .str)), none], ⟨[], y, rfl, rfl⟩, ?_, ?_⟩
  · rintro j d ρ s hd ⟨ks, y, hl', rfl⟩
    obtain ⟨hj, rfl⟩ := range_get hd
    refine ⟨_, rfl, ?_⟩
    refine k_app rfl (by rw [List.length_map]; exact szl (by omega)) ?_
    try simp only [e_fn, e_seq, e_asg, startR, sSet, sOwn, sRet, sIf, sNx, cB, cU, cK, cVar, cN, cCall, aNil, aCons, aN, aCat, cNl, cFl, aFl, qT, qNot, qAnd, qOr, cAnd, cOr, cNot, cIf, cSl, oNo, oOf, cCh, iOf, iOfA, qYes, ok_bnd, ok_some, ok_put, bnd_of, put_of, gNm, gTp, gC, gN0, List.map_cons, List.map_nil, List.length_cons, List.length_nil, List.replicate, List.cons_append, List.nil_append, List.set_cons_zero, List.set_cons_succ, List.getElem?_cons_zero, List.getElem?_cons_succ, Option.some.injEq, exists_eq_left', Option.bind_some, Nat.reduceAdd, Nat.reduceSub, Nat.sub_zero, Nat.sub_self, Nat.zero_add, Nat.reduceEqDiff, ↓reduceIte, pTup, pLst, lenOk, pI0, pI, pIB, asT, asL, asS, truth, asI, asB, flatD, flatDs, pSub, pMod, pEq, pLe, pGe, pGt, pLt, pIs, pIsNot, nonD, pTuple, pList, pInt, pNeg, Bool.not_true, Bool.not_false, if_true, if_false, Bool.and_self, Bool.true_and, Bool.and_true, Bool.false_eq_true, wipeR, sz0, sz1, sz2, sz3, sz4, sz5, sz6]
    rw [e2]
    try simp only [e_fn, e_seq, e_asg, startR, sSet, sOwn, sRet, sIf, sNx, cB, cU, cK, cVar, cN, cCall, aNil, aCons, aN, aCat, cNl, cFl, aFl, qT, qNot, qAnd, qOr, cAnd, cOr, cNot, cIf, cSl, oNo, oOf, cCh, iOf, iOfA, qYes, ok_bnd, ok_some, ok_put, bnd_of, put_of, gNm, gTp, gC, gN0, List.map_cons, List.map_nil, List.length_cons, List.length_nil, List.replicate, List.cons_append, List.nil_append, List.set_cons_zero, List.set_cons_succ, List.getElem?_cons_zero, List.getElem?_cons_succ, Option.some.injEq, exists_eq_left', Option.bind_some, Nat.reduceAdd, Nat.reduceSub, Nat.sub_zero, Nat.sub_self, Nat.zero_add, Nat.reduceEqDiff, ↓reduceIte, pTup, pLst, lenOk, pI0, pI, pIB, asT, asL, asS, truth, asI, asB, flatD, flatDs, pSub, pMod, pEq, pLe, pGe, pGt, pLt, pIs, pIsNot, nonD, pTuple, pList, pInt, pNeg, Bool.not_true, Bool.not_false, if_true, if_false, Bool.and_self, Bool.true_and, Bool.and_true, Bool.false_eq_true, wipeR, sz0, sz1, sz2, sz3, sz4, sz5, sz6]
    refine k_draw (by omega) (by omega) fun i s4 i0 i1 => ?_
    simp only [e_fn, e_seq, e_asg, startR, sSet, sOwn, sRet, sIf, sNx, cB, cU, cK, cVar, cN, cCall, aNil, aCons, aN, aCat, cNl, cFl, aFl, qT, qNot, qAnd, qOr, cAnd, cOr, cNot, cIf, cSl, oNo, oOf, cCh, iOf, iOfA, qYes, ok_bnd, ok_some, ok_put, bnd_of, put_of, gNm, gTp, gC, gN0, List.map_cons, List.map_nil, List.length_cons, List.length_nil, List.replicate, List.cons_append, List.nil_append, List.set_cons_zero, List.set_cons_succ, List.getElem?_cons_zero, List.getElem?_cons_succ, Option.some.injEq, exists_eq_left', Option.bind_some, Nat.reduceAdd, Nat.reduceSub, Nat.sub_zero, Nat.sub_self, Nat.zero_add, Nat.reduceEqDiff, ↓reduceIte, pTup, pLst, lenOk, pI0, pI, pIB, asT, asL, asS, truth, asI, asB, flatD, flatDs, pSub, pMod, pEq, pLe, pGe, pGt, pLt, pIs, pIsNot, nonD, pTuple, pList, pInt, pNeg, Bool.not_true, Bool.not_false, if_true, if_false, Bool.and_self, Bool.true_and, Bool.and_true, Bool.false_eq_true, wipeR, sz0, sz1, sz2, sz3, sz4, sz5, sz6, pAdd]
    refine ok_signs (by omega) (by omega) fun z2 s5 hz2 => ?_
    rw [show (if (ownW.map PyData.str).length + (ks.map PyData.str).length ≤ sizeLine then some (PyData.list (ownW.map PyData.str ++ ks.map PyData.str)) else none) = pAdd (.list (ownW.map .str)) (.list (ks.map .str)) from rfl, catS (by rw [own_len]; omega)]
    try simp only [e_fn, e_seq, e_asg, startR, sSet, sOwn, sRet, sIf, sNx, cB, cU, cK, cVar, cN, cCall, aNil, aCons, aN, aCat, cNl, cFl, aFl, qT, qNot, qAnd, qOr, cAnd, cOr, cNot, cIf, cSl, oNo, oOf, cCh, iOf, iOfA, qYes, ok_bnd, ok_some, ok_put, bnd_of, put_of, gNm, gTp, gC, gN0, List.map_cons, List.map_nil, List.length_cons, List.length_nil, List.replicate, List.cons_append, List.nil_append, List.set_cons_zero, List.set_cons_succ, List.getElem?_cons_zero, List.getElem?_cons_succ, Option.some.injEq, exists_eq_left', Option.bind_some, Nat.reduceAdd, Nat.reduceSub, Nat.sub_zero, Nat.sub_self, Nat.zero_add, Nat.reduceEqDiff, ↓reduceIte, pTup, pLst, lenOk, pI0, pI, pIB, asT, asL, asS, truth, asI, asB, flatD, flatDs, pSub, pMod, pEq, pLe, pGe, pGt, pLt, pIs, pIsNot, nonD, pTuple, pList, pInt, pNeg, Bool.not_true, Bool.not_false, if_true, if_false, Bool.and_self, Bool.true_and, Bool.and_true, Bool.false_eq_true, wipeR, sz0, sz1, sz2, sz3, sz4, sz5, sz6]
    refine ok_unlike (by omega) (by decide) (few_app own0 (fil_le _ _) (by omega)) fun x hx hxl => ?_
    try simp only [e_fn, e_seq, e_asg, startR, sSet, sOwn, sRet, sIf, sNx, cB, cU, cK, cVar, cN, cCall, aNil, aCons, aN, aCat, cNl, cFl, aFl, qT, qNot, qAnd, qOr, cAnd, cOr, cNot, cIf, cSl, oNo, oOf, cCh, iOf, iOfA, qYes, ok_bnd, ok_some, ok_put, bnd_of, put_of, gNm, gTp, gC, gN0, List.map_cons, List.map_nil, List.length_cons, List.length_nil, List.replicate, List.cons_append, List.nil_append, List.set_cons_zero, List.set_cons_succ, List.getElem?_cons_zero, List.getElem?_cons_succ, Option.some.injEq, exists_eq_left', Option.bind_some, Nat.reduceAdd, Nat.reduceSub, Nat.sub_zero, Nat.sub_self, Nat.zero_add, Nat.reduceEqDiff, ↓reduceIte, pTup, pLst, lenOk, pI0, pI, pIB, asT, asL, asS, truth, asI, asB, flatD, flatDs, pSub, pMod, pEq, pLe, pGe, pGt, pLt, pIs, pIsNot, nonD, pTuple, pList, pInt, pNeg, Bool.not_true, Bool.not_false, if_true, if_false, Bool.and_self, Bool.true_and, Bool.and_true, Bool.false_eq_true, wipeR, sz0, sz1, sz2, sz3, sz4, sz5, sz6]
    exact ⟨ks ++ [x], _, by simp [hl'], by rw [List.map_append]; rfl⟩
  rintro ρ s7 ⟨ks, y, hl', rfl⟩
  rw [rng_len] at hl'
  try simp only [e_fn, e_seq, e_asg, startR, sSet, sOwn, sRet, sIf, sNx, cB, cU, cK, cVar, cN, cCall, aNil, aCons, aN, aCat, cNl, cFl, aFl, qT, qNot, qAnd, qOr, cAnd, cOr, cNot, cIf, cSl, oNo, oOf, cCh, iOf, iOfA, qYes, ok_bnd, ok_some, ok_put, bnd_of, put_of, gNm, gTp, gC, gN0, List.map_cons, List.map_nil, List.length_cons, List.length_nil, List.replicate, List.cons_append, List.nil_append, List.set_cons_zero, List.set_cons_succ, List.getElem?_cons_zero, List.getElem?_cons_succ, Option.some.injEq, exists_eq_left', Option.bind_some, Nat.reduceAdd, Nat.reduceSub, Nat.sub_zero, Nat.sub_self, Nat.zero_add, Nat.reduceEqDiff, ↓reduceIte, pTup, pLst, lenOk, pI0, pI, pIB, asT, asL, asS, truth, asI, asB, flatD, flatDs, pSub, pMod, pEq, pLe, pGe, pGt, pLt, pIs, pIsNot, nonD, pTuple, pList, pInt, pNeg, Bool.not_true, Bool.not_false, if_true, if_false, Bool.and_self, Bool.true_and, Bool.and_true, Bool.false_eq_true, wipeR, sz0, sz1, sz2, sz3, sz4, sz5, sz6]
  -- doings
  refine k_forP (fun ds _ => ∃ n : Nat, ds = rngD 0 n ∧ n ≤ 3) ?_ ?_
  · simp only [e_fn, e_seq, e_asg, startR, sSet, sOwn, sRet, sIf, sNx, cB, cU, cK, cVar, cN, cCall, aNil, aCons, aN, aCat, cNl, cFl, aFl, qT, qNot, qAnd, qOr, cAnd, cOr, cNot, cIf, cSl, oNo, oOf, cCh, iOf, iOfA, qYes, ok_bnd, ok_some, ok_put, bnd_of, put_of, gNm, gTp, gC, gN0, List.map_cons, List.map_nil, List.length_cons, List.length_nil, List.replicate, List.cons_append, List.nil_append, List.set_cons_zero, List.set_cons_succ, List.getElem?_cons_zero, List.getElem?_cons_succ, Option.some.injEq, exists_eq_left', Option.bind_some, Nat.reduceAdd, Nat.reduceSub, Nat.sub_zero, Nat.sub_self, Nat.zero_add, Nat.reduceEqDiff, ↓reduceIte, pTup, pLst, lenOk, pI0, pI, pIB, asT, asL, asS, truth, asI, asB, flatD, flatDs, pSub, pMod, pEq, pLe, pGe, pGt, pLt, pIs, pIsNot, nonD, pTuple, pList, pInt, pNeg, Bool.not_true, Bool.not_false, if_true, if_false, Bool.and_self, Bool.true_and, Bool.and_true, Bool.false_eq_true, wipeR, sz0, sz1, sz2, sz3, sz4, sz5, sz6, e3]
    exact k_draw (by omega) (by omega) fun m s2 m0 m1 => ⟨_, pr1 (by omega) (by omega), m.toNat, rfl, by omega⟩
  rintro _ s2 ⟨n'', rfl, hn''⟩
  refine ⟨fun j ρ _ => ∃ (ds : List Str) (y : Option D), ds.length = j ∧ ρ = [some (hnd 0), some (.list (ownW.map .str)), some (.int g), some (.list (ns.map .str)), y, z, some (.list (ks.map .str)), some (.list (ds.map .str))], ⟨[], y, rfl, rfl⟩, ?_, ?_⟩
  · rintro j d ρ s hd ⟨ds, y, hl'', rfl⟩
    obtain ⟨hj, rfl⟩ := range_get hd
    refine ⟨_, rfl, ?_⟩
    refine k_app rfl (by rw [List.length_map]; exact szl (by omega)) ?_
    try simp only [e_fn, e_seq, e_asg, startR, sSet, sOwn, sRet, sIf, sNx, cB, cU, cK, cVar, cN, cCall, aNil, aCons, aN, aCat, cNl, cFl, aFl, qT, qNot, qAnd, qOr, cAnd, cOr, cNot, cIf, cSl, oNo, oOf, cCh, iOf, iOfA, qYes, ok_bnd, ok_some, ok_put, bnd_of, put_of, gNm, gTp, gC, gN0, List.map_cons, List.map_nil, List.length_cons, List.length_nil, List.replicate, List.cons_append, List.nil_append, List.set_cons_zero, List.set_cons_succ, List.getElem?_cons_zero, List.getElem?_cons_succ, Option.some.injEq, exists_eq_left', Option.bind_some, Nat.reduceAdd, Nat.reduceSub, Nat.sub_zero, Nat.sub_self, Nat.zero_add, Nat.reduceEqDiff, ↓reduceIte, pTup, pLst, lenOk, pI0, pI, pIB, asT, asL, asS, truth, asI, asB, flatD, flatDs, pSub, pMod, pEq, pLe, pGe, pGt, pLt, pIs, pIsNot, nonD, pTuple, pList, pInt, pNeg, Bool.not_true, Bool.not_false, if_true, if_false, Bool.and_self, Bool.true_and, Bool.and_true, Bool.false_eq_true, wipeR, sz0, sz1, sz2, sz3, sz4, sz5, sz6]
    refine k_draw (by omega) (by omega) fun i s4 i0 i1 => ?_
    try simp only [e_fn, e_seq, e_asg, startR, sSet, sOwn, sRet, sIf, sNx, cB, cU, cK, cVar, cN, cCall, aNil, aCons, aN, aCat, cNl, cFl, aFl, qT, qNot, qAnd, qOr, cAnd, cOr, cNot, cIf, cSl, oNo, oOf, cCh, iOf, iOfA, qYes, ok_bnd, ok_some, ok_put, bnd_of, put_of, gNm, gTp, gC, gN0, List.map_cons, List.map_nil, List.length_cons, List.length_nil, List.replicate, List.cons_append, List.nil_append, List.set_cons_zero, List.set_cons_succ, List.getElem?_cons_zero, List.getElem?_cons_succ, Option.some.injEq, exists_eq_left', Option.bind_some, Nat.reduceAdd, Nat.reduceSub, Nat.sub_zero, Nat.sub_self, Nat.zero_add, Nat.reduceEqDiff, ↓reduceIte, pTup, pLst, lenOk, pI0, pI, pIB, asT, asL, asS, truth, asI, asB, flatD, flatDs, pSub, pMod, pEq, pLe, pGe, pGt, pLt, pIs, pIsNot, nonD, pTuple, pList, pInt, pNeg, Bool.not_true, Bool.not_false, if_true, if_false, Bool.and_self, Bool.true_and, Bool.and_true, Bool.false_eq_true, wipeR, sz0, sz1, sz2, sz3, sz4, sz5, sz6]
    rw [show pAdd (.int 2) (.int i) = some (.int (2 + i)) from rfl]
    try simp only [e_fn, e_seq, e_asg, startR, sSet, sOwn, sRet, sIf, sNx, cB, cU, cK, cVar, cN, cCall, aNil, aCons, aN, aCat, cNl, cFl, aFl, qT, qNot, qAnd, qOr, cAnd, cOr, cNot, cIf, cSl, oNo, oOf, cCh, iOf, iOfA, qYes, ok_bnd, ok_some, ok_put, bnd_of, put_of, gNm, gTp, gC, gN0, List.map_cons, List.map_nil, List.length_cons, List.length_nil, List.replicate, List.cons_append, List.nil_append, List.set_cons_zero, List.set_cons_succ, List.getElem?_cons_zero, List.getElem?_cons_succ, Option.some.injEq, exists_eq_left', Option.bind_some, Nat.reduceAdd, Nat.reduceSub, Nat.sub_zero, Nat.sub_self, Nat.zero_add, Nat.reduceEqDiff, ↓reduceIte, pTup, pLst, lenOk, pI0, pI, pIB, asT, asL, asS, truth, asI, asB, flatD, flatDs, pSub, pMod, pEq, pLe, pGe, pGt, pLt, pIs, pIsNot, nonD, pTuple, pList, pInt, pNeg, Bool.not_true, Bool.not_false, if_true, if_false, Bool.and_self, Bool.true_and, Bool.and_true, Bool.false_eq_true, wipeR, sz0, sz1, sz2, sz3, sz4, sz5, sz6]
    refine ok_signs (by omega) (by omega) fun z2 s5 hz2 => ?_
    rw [catS (by rw [own_len]; omega)]
    try simp only [e_fn, e_seq, e_asg, startR, sSet, sOwn, sRet, sIf, sNx, cB, cU, cK, cVar, cN, cCall, aNil, aCons, aN, aCat, cNl, cFl, aFl, qT, qNot, qAnd, qOr, cAnd, cOr, cNot, cIf, cSl, oNo, oOf, cCh, iOf, iOfA, qYes, ok_bnd, ok_some, ok_put, bnd_of, put_of, gNm, gTp, gC, gN0, List.map_cons, List.map_nil, List.length_cons, List.length_nil, List.replicate, List.cons_append, List.nil_append, List.set_cons_zero, List.set_cons_succ, List.getElem?_cons_zero, List.getElem?_cons_succ, Option.some.injEq, exists_eq_left', Option.bind_some, Nat.reduceAdd, Nat.reduceSub, Nat.sub_zero, Nat.sub_self, Nat.zero_add, Nat.reduceEqDiff, ↓reduceIte, pTup, pLst, lenOk, pI0, pI, pIB, asT, asL, asS, truth, asI, asB, flatD, flatDs, pSub, pMod, pEq, pLe, pGe, pGt, pLt, pIs, pIsNot, nonD, pTuple, pList, pInt, pNeg, Bool.not_true, Bool.not_false, if_true, if_false, Bool.and_self, Bool.true_and, Bool.and_true, Bool.false_eq_true, wipeR, sz0, sz1, sz2, sz3, sz4, sz5, sz6]
    rw [catS (by simp [own_len]; omega)]
    try simp only [e_fn, e_seq, e_asg, startR, sSet, sOwn, sRet, sIf, sNx, cB, cU, cK, cVar, cN, cCall, aNil, aCons, aN, aCat, cNl, cFl, aFl, qT, qNot, qAnd, qOr, cAnd, cOr, cNot, cIf, cSl, oNo, oOf, cCh, iOf, iOfA, qYes, ok_bnd, ok_some, ok_put, bnd_of, put_of, gNm, gTp, gC, gN0, List.map_cons, List.map_nil, List.length_cons, List.length_nil, List.replicate, List.cons_append, List.nil_append, List.set_cons_zero, List.set_cons_succ, List.getElem?_cons_zero, List.getElem?_cons_succ, Option.some.injEq, exists_eq_left', Option.bind_some, Nat.reduceAdd, Nat.reduceSub, Nat.sub_zero, Nat.sub_self, Nat.zero_add, Nat.reduceEqDiff, ↓reduceIte, pTup, pLst, lenOk, pI0, pI, pIB, asT, asL, asS, truth, asI, asB, flatD, flatDs, pSub, pMod, pEq, pLe, pGe, pGt, pLt, pIs, pIsNot, nonD, pTuple, pList, pInt, pNeg, Bool.not_true, Bool.not_false, if_true, if_false, Bool.and_self, Bool.true_and, Bool.and_true, Bool.false_eq_true, wipeR, sz0, sz1, sz2, sz3, sz4, sz5, sz6]
    refine ok_unlike (by omega) (by decide) ?_ fun x hx hxl => ?_
    · exact few_app (few_le own0 (fil_le _ _)) (fil_le _ _) (by omega)
    try simp only [e_fn, e_seq, e_asg, startR, sSet, sOwn, sRet, sIf, sNx, cB, cU, cK, cVar, cN, cCall, aNil, aCons, aN, aCat, cNl, cFl, aFl, qT, qNot, qAnd, qOr, cAnd, cOr, cNot, cIf, cSl, oNo, oOf, cCh, iOf, iOfA, qYes, ok_bnd, ok_some, ok_put, bnd_of, put_of, gNm, gTp, gC, gN0, List.map_cons, List.map_nil, List.length_cons, List.length_nil, List.replicate, List.cons_append, List.nil_append, List.set_cons_zero, List.set_cons_succ, List.getElem?_cons_zero, List.getElem?_cons_succ, Option.some.injEq, exists_eq_left', Option.bind_some, Nat.reduceAdd, Nat.reduceSub, Nat.sub_zero, Nat.sub_self, Nat.zero_add, Nat.reduceEqDiff, ↓reduceIte, pTup, pLst, lenOk, pI0, pI, pIB, asT, asL, asS, truth, asI, asB, flatD, flatDs, pSub, pMod, pEq, pLe, pGe, pGt, pLt, pIs, pIsNot, nonD, pTuple, pList, pInt, pNeg, Bool.not_true, Bool.not_false, if_true, if_false, Bool.and_self, Bool.true_and, Bool.and_true, Bool.false_eq_true, wipeR, sz0, sz1, sz2, sz3, sz4, sz5, sz6]
    exact ⟨ds ++ [x], _, by simp [hl''], by rw [List.map_append]; rfl⟩
  rintro ρ s8 ⟨ds, y, hl'', rfl⟩
  rw [rng_len] at hl''
  try simp only [e_fn, e_seq, e_asg, startR, sSet, sOwn, sRet, sIf, sNx, cB, cU, cK, cVar, cN, cCall, aNil, aCons, aN, aCat, cNl, cFl, aFl, qT, qNot, qAnd, qOr, cAnd, cOr, cNot, cIf, cSl, oNo, oOf, cCh, iOf, iOfA, qYes, ok_bnd, ok_some, ok_put, bnd_of, put_of, gNm, gTp, gC, gN0, List.map_cons, List.map_nil, List.length_cons, List.length_nil, List.replicate, List.cons_append, List.nil_append, List.set_cons_zero, List.set_cons_succ, List.getElem?_cons_zero, List.getElem?_cons_succ, Option.some.injEq, exists_eq_left', Option.bind_some, Nat.reduceAdd, Nat.reduceSub, Nat.sub_zero, Nat.sub_self, Nat.zero_add, Nat.reduceEqDiff, ↓reduceIte, pTup, pLst, lenOk, pI0, pI, pIB, asT, asL, asS, truth, asI, asB, flatD, flatDs, pSub, pMod, pEq, pLe, pGe, pGt, pLt, pIs, pIsNot, nonD, pTuple, pList, pInt, pNeg, Bool.not_true, Bool.not_false, if_true, if_false, Bool.and_self, Bool.true_and, Bool.and_true, Bool.false_eq_true, wipeR, sz0, sz1, sz2, sz3, sz4, sz5, sz6]
  rw [sortedS (by omega), sortedS (by omega), sortedS (by omega)]
  try simp only [e_fn, e_seq, e_asg, startR, sSet, sOwn, sRet, sIf, sNx, cB, cU, cK, cVar, cN, cCall, aNil, aCons, aN, aCat, cNl, cFl, aFl, qT, qNot, qAnd, qOr, cAnd, cOr, cNot, cIf, cSl, oNo, oOf, cCh, iOf, iOfA, qYes, ok_bnd, ok_some, ok_put, bnd_of, put_of, gNm, gTp, gC, gN0, List.map_cons, List.map_nil, List.length_cons, List.length_nil, List.replicate, List.cons_append, List.nil_append, List.set_cons_zero, List.set_cons_succ, List.getElem?_cons_zero, List.getElem?_cons_succ, Option.some.injEq, exists_eq_left', Option.bind_some, Nat.reduceAdd, Nat.reduceSub, Nat.sub_zero, Nat.sub_self, Nat.zero_add, Nat.reduceEqDiff, ↓reduceIte, pTup, pLst, lenOk, pI0, pI, pIB, asT, asL, asS, truth, asI, asB, flatD, flatDs, pSub, pMod, pEq, pLe, pGe, pGt, pLt, pIs, pIsNot, nonD, pTuple, pList, pInt, pNeg, Bool.not_true, Bool.not_false, if_true, if_false, Bool.and_self, Bool.true_and, Bool.and_true, Bool.false_eq_true, wipeR, sz0, sz1, sz2, sz3, sz4, sz5, sz6]
  refine q _ _ ⟨sortS ns, sortS ks, sortS ds, rfl, ?_, ?_, ?_⟩
  · rw [(sortS_perm ns).length_eq]; omega
  · rw [(sortS_perm ks).length_eq]; omega
  · rw [(sortS_perm ds).length_eq]; omega
end Lw23
set_option Elab.async false
set_option linter.all false
set_option maxRecDepth 100000
set_option maxHeartbeats 4000000
namespace Lw23
open PySem PySem.Spec L2 Dl
theorem pow9 : pPow (.int 10) (.int 9) = some (.int 1000000000) := rfl
theorem bit {c : Prop} [Decidable c] : ∃ g : Int, (if decide c = true then (1 : Int) else 0) = g ∧ 0 ≤ g ∧ g < 2 := by
  by_cases e : c
  · exact ⟨1, by simp [e], by omega, by omega⟩
  · exact ⟨0, by simp [e], by omega, by omega⟩
abbrev Ftotal : Fn DS := K_w_total Fdraw
abbrev Fatom : Fn DS := K_w_atom Fdraw Ftotal
theorem ok_total {s : DS} {ks : List Str} (hk : ks.length ≤ 100) {Q : D → DS → Prop} (q : ∀ d s', Q d s') : Ok (Ftotal [hnd 0, .list (ks.map .str)] s) Q := by
  unfold Ftotal K_w_total B_w_total
  refine k_fn (k_seq (k_own ?_))
  try simp only [ok_V0, ok_Vs, ok_K, ok_B, ok_U, ok_nil, ok_cons, ok_N, ok_aN, ok_call, ok_nl, ok_fl, ok_afl, ok_T, ok_qNot, ok_qAnd, ok_qOr, ok_and, ok_or, ok_not, ok_if, ok_Sl, ok_oNo, ok_oOf, ok_Ch, ok_it, ok_itA, ok_yes, v_addI, v_sub, v_neg, v_eqI, v_eqS, v_eqB, v_eq0, v_eqT0, v_neI, v_neS, v_neB, v_ne0, v_neT0, v_ltI, v_leI, v_gtI, v_geI, v_is, v_isNot, v_nn, v_ns, v_ni, v_nl, v_nt, v_tb, v_tl, v_tt, v_tn, v_ti, v_asB, v_asI, v_asL, v_asT, v_asS, v_lenL, v_lenT, v_tupL, v_tupT, v_listL, v_listT, v_intB, v_tup0, v_tup1, v_tup2, v_tup3, v_tup4, v_tup5, v_lst0, v_lst1, v_lst2, v_lst3, v_lst4, v_lst5, v_ok0, v_ok1, v_ok2, v_ix0L, v_ix0, v_ix1, v_ix2, v_ix3, v_fs, v_fi, v_fb, v_fn, v_ft, v_f0, v_fc, startR, List.map_cons, List.map_nil, List.length_cons, List.length_nil, List.replicate, List.cons_append, List.nil_append, List.set_cons_zero, List.set_cons_succ, Option.some.injEq, exists_eq_left', Nat.reduceAdd, Nat.reduceSub, Nat.sub_zero, Nat.sub_self, Nat.zero_add, Nat.reduceEqDiff, Bool.not_true, Bool.not_false, if_true, if_false, Bool.and_self, Bool.true_and, Bool.and_true, Bool.false_eq_true, ↓reduceIte, true_and, and_true, decide_true, decide_false, wipeR]
  refine k_seq (k_forP (fun ds _ => ds = ks.map .str) ?_ ?_)
  · simp only [ok_V0, ok_Vs, ok_K, ok_B, ok_U, ok_nil, ok_cons, ok_N, ok_aN, ok_call, ok_nl, ok_fl, ok_afl, ok_T, ok_qNot, ok_qAnd, ok_qOr, ok_and, ok_or, ok_not, ok_if, ok_Sl, ok_oNo, ok_oOf, ok_Ch, ok_it, ok_itA, ok_yes, v_addI, v_sub, v_neg, v_eqI, v_eqS, v_eqB, v_eq0, v_eqT0, v_neI, v_neS, v_neB, v_ne0, v_neT0, v_ltI, v_leI, v_gtI, v_geI, v_is, v_isNot, v_nn, v_ns, v_ni, v_nl, v_nt, v_tb, v_tl, v_tt, v_tn, v_ti, v_asB, v_asI, v_asL, v_asT, v_asS, v_lenL, v_lenT, v_tupL, v_tupT, v_listL, v_listT, v_intB, v_tup0, v_tup1, v_tup2, v_tup3, v_tup4, v_tup5, v_lst0, v_lst1, v_lst2, v_lst3, v_lst4, v_lst5, v_ok0, v_ok1, v_ok2, v_ix0L, v_ix0, v_ix1, v_ix2, v_ix3, v_fs, v_fi, v_fb, v_fn, v_ft, v_f0, v_fc, startR, List.map_cons, List.map_nil, List.length_cons, List.length_nil, List.replicate, List.cons_append, List.nil_append, List.set_cons_zero, List.set_cons_succ, Option.some.injEq, exists_eq_left', Nat.reduceAdd, Nat.reduceSub, Nat.sub_zero, Nat.sub_self, Nat.zero_add, Nat.reduceEqDiff, Bool.not_true, Bool.not_false, if_true, if_false, Bool.and_self, Bool.true_and, Bool.and_true, Bool.false_eq_true, ↓reduceIte, true_and, and_true, decide_true, decide_false, wipeR]
  rintro _ s1 rfl
  refine ⟨fun j ρ _ => ∃ (ps : List D) (y : Option D), ps.length ≤ j ∧ ρ = [some (hnd 0), some (.list (ks.map .str)), some (.list ps), y], ⟨[], none, by simp, rfl⟩, ?_, ?_⟩
  · rintro j d ρ s hd ⟨ps, y, hl, rfl⟩
    have hj : j < 100 := by have := (List.getElem?_eq_some_iff.mp hd).1; simp at this; omega
    refine ⟨_, rfl, k_sIf ?_⟩
    try simp only [ok_V0, ok_Vs, ok_K, ok_B, ok_U, ok_nil, ok_cons, ok_N, ok_aN, ok_call, ok_nl, ok_fl, ok_afl, ok_T, ok_qNot, ok_qAnd, ok_qOr, ok_and, ok_or, ok_not, ok_if, ok_Sl, ok_oNo, ok_oOf, ok_Ch, ok_it, ok_itA, ok_yes, v_addI, v_sub, v_neg, v_eqI, v_eqS, v_eqB, v_eq0, v_eqT0, v_neI, v_neS, v_neB, v_ne0, v_neT0, v_ltI, v_leI, v_gtI, v_geI, v_is, v_isNot, v_nn, v_ns, v_ni, v_nl, v_nt, v_tb, v_tl, v_tt, v_tn, v_ti, v_asB, v_asI, v_asL, v_asT, v_asS, v_lenL, v_lenT, v_tupL, v_tupT, v_listL, v_listT, v_intB, v_tup0, v_tup1, v_tup2, v_tup3, v_tup4, v_tup5, v_lst0, v_lst1, v_lst2, v_lst3, v_lst4, v_lst5, v_ok0, v_ok1, v_ok2, v_ix0L, v_ix0, v_ix1, v_ix2, v_ix3, v_fs, v_fi, v_fb, v_fn, v_ft, v_f0, v_fc, startR, List.map_cons, List.map_nil, List.length_cons, List.length_nil, List.replicate, List.cons_append, List.nil_append, List.set_cons_zero, List.set_cons_succ, Option.some.injEq, exists_eq_left', Nat.reduceAdd, Nat.reduceSub, Nat.sub_zero, Nat.sub_self, Nat.zero_add, Nat.reduceEqDiff, Bool.not_true, Bool.not_false, if_true, if_false, Bool.and_self, Bool.true_and, Bool.and_true, Bool.false_eq_true, ↓reduceIte, true_and, and_true, decide_true, decide_false, wipeR]
    refine k_draw (by omega) (by omega) fun i s4 i0 i1 => ?_
    by_cases hi : i = 0
    · simp only [ok_V0, ok_Vs, ok_K, ok_B, ok_U, ok_nil, ok_cons, ok_N, ok_aN, ok_call, ok_nl, ok_fl, ok_afl, ok_T, ok_qNot, ok_qAnd, ok_qOr, ok_and, ok_or, ok_not, ok_if, ok_Sl, ok_oNo, ok_oOf, ok_Ch, ok_it, ok_itA, ok_yes, v_addI, v_sub, v_neg, v_eqI, v_eqS, v_eqB, v_eq0, v_eqT0, v_neI, v_neS, v_neB, v_ne0, v_neT0, v_ltI, v_leI, v_gtI, v_geI, v_is, v_isNot, v_nn, v_ns, v_ni, v_nl, v_nt, v_tb, v_tl, v_tt, v_tn, v_ti, v_asB, v_asI, v_asL, v_asT, v_asS, v_lenL, v_lenT, v_tupL, v_tupT, v_listL, v_listT, v_intB, v_tup0, v_tup1, v_tup2, v_tup3, v_tup4, v_tup5, v_lst0, v_lst1, v_lst2, v_lst3, v_lst4, v_lst5, v_ok0, v_ok1, v_ok2, v_ix0L, v_ix0, v_ix1, v_ix2, v_ix3, v_fs, v_fi, v_fb, v_fn, v_ft, v_f0, v_fc, startR, List.map_cons, List.map_nil, List.length_cons, List.length_nil, List.replicate, List.cons_append, List.nil_append, List.set_cons_zero, List.set_cons_succ, Option.some.injEq, exists_eq_left', Nat.reduceAdd, Nat.reduceSub, Nat.sub_zero, Nat.sub_self, Nat.zero_add, Nat.reduceEqDiff, Bool.not_true, Bool.not_false, if_true, if_false, Bool.and_self, Bool.true_and, Bool.and_true, Bool.false_eq_true, ↓reduceIte, true_and, and_true, decide_true, decide_false, wipeR, hi]
      refine k_app rfl (szl (by omega)) ?_
      try simp only [ok_V0, ok_Vs, ok_K, ok_B, ok_U, ok_nil, ok_cons, ok_N, ok_aN, ok_call, ok_nl, ok_fl, ok_afl, ok_T, ok_qNot, ok_qAnd, ok_qOr, ok_and, ok_or, ok_not, ok_if, ok_Sl, ok_oNo, ok_oOf, ok_Ch, ok_it, ok_itA, ok_yes, v_addI, v_sub, v_neg, v_eqI, v_eqS, v_eqB, v_eq0, v_eqT0, v_neI, v_neS, v_neB, v_ne0, v_neT0, v_ltI, v_leI, v_gtI, v_geI, v_is, v_isNot, v_nn, v_ns, v_ni, v_nl, v_nt, v_tb, v_tl, v_tt, v_tn, v_ti, v_asB, v_asI, v_asL, v_asT, v_asS, v_lenL, v_lenT, v_tupL, v_tupT, v_listL, v_listT, v_intB, v_tup0, v_tup1, v_tup2, v_tup3, v_tup4, v_tup5, v_lst0, v_lst1, v_lst2, v_lst3, v_lst4, v_lst5, v_ok0, v_ok1, v_ok2, v_ix0L, v_ix0, v_ix1, v_ix2, v_ix3, v_fs, v_fi, v_fb, v_fn, v_ft, v_f0, v_fc, startR, List.map_cons, List.map_nil, List.length_cons, List.length_nil, List.replicate, List.cons_append, List.nil_append, List.set_cons_zero, List.set_cons_succ, Option.some.injEq, exists_eq_left', Nat.reduceAdd, Nat.reduceSub, Nat.sub_zero, Nat.sub_self, Nat.zero_add, Nat.reduceEqDiff, Bool.not_true, Bool.not_false, if_true, if_false, Bool.and_self, Bool.true_and, Bool.and_true, Bool.false_eq_true, ↓reduceIte, true_and, and_true, decide_true, decide_false, wipeR]
      refine k_draw (by omega) (by omega) fun i s5 j0 j1 => ?_
      obtain ⟨g, hg, g0, g1⟩ := bit (c := i = 3)
      obtain ⟨n1, hn1, e1⟩ := ix_ints (ns := [2, 30]) (r := g) g0 (by simpa using g1)
      simp only [List.map_cons, List.map_nil] at e1
      have b1 : 2 ≤ n1 ∧ n1 ≤ 30 := by simp at hn1; omega
      simp only [ok_V0, ok_Vs, ok_K, ok_B, ok_U, ok_nil, ok_cons, ok_N, ok_aN, ok_call, ok_nl, ok_fl, ok_afl, ok_T, ok_qNot, ok_qAnd, ok_qOr, ok_and, ok_or, ok_not, ok_if, ok_Sl, ok_oNo, ok_oOf, ok_Ch, ok_it, ok_itA, ok_yes, v_addI, v_sub, v_neg, v_eqI, v_eqS, v_eqB, v_eq0, v_eqT0, v_neI, v_neS, v_neB, v_ne0, v_neT0, v_ltI, v_leI, v_gtI, v_geI, v_is, v_isNot, v_nn, v_ns, v_ni, v_nl, v_nt, v_tb, v_tl, v_tt, v_tn, v_ti, v_asB, v_asI, v_asL, v_asT, v_asS, v_lenL, v_lenT, v_tupL, v_tupT, v_listL, v_listT, v_intB, v_tup0, v_tup1, v_tup2, v_tup3, v_tup4, v_tup5, v_lst0, v_lst1, v_lst2, v_lst3, v_lst4, v_lst5, v_ok0, v_ok1, v_ok2, v_ix0L, v_ix0, v_ix1, v_ix2, v_ix3, v_fs, v_fi, v_fb, v_fn, v_ft, v_f0, v_fc, startR, List.map_cons, List.map_nil, List.length_cons, List.length_nil, List.replicate, List.cons_append, List.nil_append, List.set_cons_zero, List.set_cons_succ, Option.some.injEq, exists_eq_left', Nat.reduceAdd, Nat.reduceSub, Nat.sub_zero, Nat.sub_self, Nat.zero_add, Nat.reduceEqDiff, Bool.not_true, Bool.not_false, if_true, if_false, Bool.and_self, Bool.true_and, Bool.and_true, Bool.false_eq_true, ↓reduceIte, true_and, and_true, decide_true, decide_false, wipeR, hg, e1]
      refine k_draw (by omega) (by omega) fun i s5 j0 j1 => ?_
      try simp only [ok_V0, ok_Vs, ok_K, ok_B, ok_U, ok_nil, ok_cons, ok_N, ok_aN, ok_call, ok_nl, ok_fl, ok_afl, ok_T, ok_qNot, ok_qAnd, ok_qOr, ok_and, ok_or, ok_not, ok_if, ok_Sl, ok_oNo, ok_oOf, ok_Ch, ok_it, ok_itA, ok_yes, v_addI, v_sub, v_neg, v_eqI, v_eqS, v_eqB, v_eq0, v_eqT0, v_neI, v_neS, v_neB, v_ne0, v_neT0, v_ltI, v_leI, v_gtI, v_geI, v_is, v_isNot, v_nn, v_ns, v_ni, v_nl, v_nt, v_tb, v_tl, v_tt, v_tn, v_ti, v_asB, v_asI, v_asL, v_asT, v_asS, v_lenL, v_lenT, v_tupL, v_tupT, v_listL, v_listT, v_intB, v_tup0, v_tup1, v_tup2, v_tup3, v_tup4, v_tup5, v_lst0, v_lst1, v_lst2, v_lst3, v_lst4, v_lst5, v_ok0, v_ok1, v_ok2, v_ix0L, v_ix0, v_ix1, v_ix2, v_ix3, v_fs, v_fi, v_fb, v_fn, v_ft, v_f0, v_fc, startR, List.map_cons, List.map_nil, List.length_cons, List.length_nil, List.replicate, List.cons_append, List.nil_append, List.set_cons_zero, List.set_cons_succ, Option.some.injEq, exists_eq_left', Nat.reduceAdd, Nat.reduceSub, Nat.sub_zero, Nat.sub_self, Nat.zero_add, Nat.reduceEqDiff, Bool.not_true, Bool.not_false, if_true, if_false, Bool.and_self, Bool.true_and, Bool.and_true, Bool.false_eq_true, ↓reduceIte, true_and, and_true, decide_true, decide_false, wipeR]
      exact ⟨_, _, by simp; omega, rfl⟩
    · simp only [ok_V0, ok_Vs, ok_K, ok_B, ok_U, ok_nil, ok_cons, ok_N, ok_aN, ok_call, ok_nl, ok_fl, ok_afl, ok_T, ok_qNot, ok_qAnd, ok_qOr, ok_and, ok_or, ok_not, ok_if, ok_Sl, ok_oNo, ok_oOf, ok_Ch, ok_it, ok_itA, ok_yes, v_addI, v_sub, v_neg, v_eqI, v_eqS, v_eqB, v_eq0, v_eqT0, v_neI, v_neS, v_neB, v_ne0, v_neT0, v_ltI, v_leI, v_gtI, v_geI, v_is, v_isNot, v_nn, v_ns, v_ni, v_nl, v_nt, v_tb, v_tl, v_tt, v_tn, v_ti, v_asB, v_asI, v_asL, v_asT, v_asS, v_lenL, v_lenT, v_tupL, v_tupT, v_listL, v_listT, v_intB, v_tup0, v_tup1, v_tup2, v_tup3, v_tup4, v_tup5, v_lst0, v_lst1, v_lst2, v_lst3, v_lst4, v_lst5, v_ok0, v_ok1, v_ok2, v_ix0L, v_ix0, v_ix1, v_ix2, v_ix3, v_fs, v_fi, v_fb, v_fn, v_ft, v_f0, v_fc, startR, List.map_cons, List.map_nil, List.length_cons, List.length_nil, List.replicate, List.cons_append, List.nil_append, List.set_cons_zero, List.set_cons_succ, Option.some.injEq, exists_eq_left', Nat.reduceAdd, Nat.reduceSub, Nat.sub_zero, Nat.sub_self, Nat.zero_add, Nat.reduceEqDiff, Bool.not_true, Bool.not_false, if_true, if_false, Bool.and_self, Bool.true_and, Bool.and_true, Bool.false_eq_true, ↓reduceIte, true_and, and_true, decide_true, decide_false, wipeR, hi]
      exact k_nx ⟨ps, _, by omega, rfl⟩
  rintro ρ s6 ⟨ps, y, hl, rfl⟩
  refine k_ret ?_
  simp only [ok_V0, ok_Vs, ok_K, ok_B, ok_U, ok_nil, ok_cons, ok_N, ok_aN, ok_call, ok_nl, ok_fl, ok_afl, ok_T, ok_qNot, ok_qAnd, ok_qOr, ok_and, ok_or, ok_not, ok_if, ok_Sl, ok_oNo, ok_oOf, ok_Ch, ok_it, ok_itA, ok_yes, v_addI, v_sub, v_neg, v_eqI, v_eqS, v_eqB, v_eq0, v_eqT0, v_neI, v_neS, v_neB, v_ne0, v_neT0, v_ltI, v_leI, v_gtI, v_geI, v_is, v_isNot, v_nn, v_ns, v_ni, v_nl, v_nt, v_tb, v_tl, v_tt, v_tn, v_ti, v_asB, v_asI, v_asL, v_asT, v_asS, v_lenL, v_lenT, v_tupL, v_tupT, v_listL, v_listT, v_intB, v_tup0, v_tup1, v_tup2, v_tup3, v_tup4, v_tup5, v_lst0, v_lst1, v_lst2, v_lst3, v_lst4, v_lst5, v_ok0, v_ok1, v_ok2, v_ix0L, v_ix0, v_ix1, v_ix2, v_ix3, v_fs, v_fi, v_fb, v_fn, v_ft, v_f0, v_fc, startR, List.map_cons, List.map_nil, List.length_cons, List.length_nil, List.replicate, List.cons_append, List.nil_append, List.set_cons_zero, List.set_cons_succ, Option.some.injEq, exists_eq_left', Nat.reduceAdd, Nat.reduceSub, Nat.sub_zero, Nat.sub_self, Nat.zero_add, Nat.reduceEqDiff, Bool.not_true, Bool.not_false, if_true, if_false, Bool.and_self, Bool.true_and, Bool.and_true, Bool.false_eq_true, ↓reduceIte, true_and, and_true, decide_true, decide_false, wipeR, pow9]
  refine k_draw (by omega) (by omega) fun i s5 j0 j1 => ?_
  obtain ⟨n1, hn1, e1⟩ := ix_ints (ns := [2, 10, 1000000000]) (r := i) j0 (by simpa using j1)
  simp only [List.map_cons, List.map_nil] at e1
  have b1 : 2 ≤ n1 ∧ n1 ≤ 1000000000 := by simp at hn1; omega
  simp only [ok_V0, ok_Vs, ok_K, ok_B, ok_U, ok_nil, ok_cons, ok_N, ok_aN, ok_call, ok_nl, ok_fl, ok_afl, ok_T, ok_qNot, ok_qAnd, ok_qOr, ok_and, ok_or, ok_not, ok_if, ok_Sl, ok_oNo, ok_oOf, ok_Ch, ok_it, ok_itA, ok_yes, v_addI, v_sub, v_neg, v_eqI, v_eqS, v_eqB, v_eq0, v_eqT0, v_neI, v_neS, v_neB, v_ne0, v_neT0, v_ltI, v_leI, v_gtI, v_geI, v_is, v_isNot, v_nn, v_ns, v_ni, v_nl, v_nt, v_tb, v_tl, v_tt, v_tn, v_ti, v_asB, v_asI, v_asL, v_asT, v_asS, v_lenL, v_lenT, v_tupL, v_tupT, v_listL, v_listT, v_intB, v_tup0, v_tup1, v_tup2, v_tup3, v_tup4, v_tup5, v_lst0, v_lst1, v_lst2, v_lst3, v_lst4, v_lst5, v_ok0, v_ok1, v_ok2, v_ix0L, v_ix0, v_ix1, v_ix2, v_ix3, v_fs, v_fi, v_fb, v_fn, v_ft, v_f0, v_fc, startR, List.map_cons, List.map_nil, List.length_cons, List.length_nil, List.replicate, List.cons_append, List.nil_append, List.set_cons_zero, List.set_cons_succ, Option.some.injEq, exists_eq_left', Nat.reduceAdd, Nat.reduceSub, Nat.sub_zero, Nat.sub_self, Nat.zero_add, Nat.reduceEqDiff, Bool.not_true, Bool.not_false, if_true, if_false, Bool.and_self, Bool.true_and, Bool.and_true, Bool.false_eq_true, ↓reduceIte, true_and, and_true, decide_true, decide_false, wipeR, e1]
  refine k_draw (by omega) (by omega) fun i s5 j0 j1 => ?_
  exact q _ _
/-- kinds, counted kinds, doings, letters -/
def stockD (ks cs ds ls : List Str) : D := .tuple [.list (ks.map .str), .list (cs.map .str), .list (ds.map .str), .list (ls.map .str)]
/-- one of some texts is drawn -/
theorem k_pick {ts : List Str} {s : DS} (h : 0 < ts.length) (h2 : ts.length ≤ 100000) {Q : D → DS → Prop} (q : ∀ x s', x ∈ ts → Q (.str x) s') : Ok (Fdraw [hnd 0, .int (ts.map PyData.str).length] s) fun a s => ∃ z, pIx (.list (ts.map .str)) a = some z ∧ Q z s := by
  refine k_draw (by rw [List.length_map]; omega) (by rw [List.length_map]; omega) fun i s2 i0 i1 => ?_
  obtain ⟨z, hz, e⟩ := ix_strs (xs := ts) i0 (by simpa using i1)
  exact ⟨_, e, q _ _ hz⟩
theorem emp_map (ts : List Str) : (ts.map PyData.str).isEmpty = ts.isEmpty := by cases ts <;> rfl
theorem emp_dec (ts : List Str) (h : ts.length ≠ 0) : ts.isEmpty = false := by cases ts <;> simp at h ⊢
theorem ok_atom {s : DS} {ks cs ds ls ts : List Str} (hk : ks.length ≤ 100) (hc : cs.length ≤ 100) (hd : ds.length ≤ 100) (ht : ts.length ≤ 1000) {Q : D → DS → Prop} (q : ∀ d s', Q d s') : Ok (Fatom [hnd 0, stockD ks cs ds ls, .list (ts.map .str)] s) Q := by
  unfold Fatom K_w_atom B_w_atom stockD
  refine k_fn (k_seq (k_asg ?_))
  try simp only [ok_V0, ok_Vs, ok_K, ok_B, ok_U, ok_nil, ok_cons, ok_N, ok_aN, ok_call, ok_nl, ok_fl, ok_afl, ok_T, ok_qNot, ok_qAnd, ok_qOr, ok_and, ok_or, ok_not, ok_if, ok_Sl, ok_oNo, ok_oOf, ok_Ch, ok_it, ok_itA, ok_yes, v_addI, v_sub, v_neg, v_eqI, v_eqS, v_eqB, v_eq0, v_eqT0, v_neI, v_neS, v_neB, v_ne0, v_neT0, v_ltI, v_leI, v_gtI, v_geI, v_is, v_isNot, v_nn, v_ns, v_ni, v_nl, v_nt, v_tb, v_tl, v_tt, v_tn, v_ti, v_asB, v_asI, v_asL, v_asT, v_asS, v_lenL, v_lenT, v_tupL, v_tupT, v_listL, v_listT, v_intB, v_tup0, v_tup1, v_tup2, v_tup3, v_tup4, v_tup5, v_lst0, v_lst1, v_lst2, v_lst3, v_lst4, v_lst5, v_ok0, v_ok1, v_ok2, v_ix0L, v_ix0, v_ix1, v_ix2, v_ix3, v_fs, v_fi, v_fb, v_fn, v_ft, v_f0, v_fc, startR, List.map_cons, List.map_nil, List.length_cons, List.length_nil, List.replicate, List.cons_append, List.nil_append, List.set_cons_zero, List.set_cons_succ, Option.some.injEq, exists_eq_left', Nat.reduceAdd, Nat.reduceSub, Nat.sub_zero, Nat.sub_self, Nat.zero_add, Nat.reduceEqDiff, Bool.not_true, Bool.not_false, if_true, if_false, Bool.and_self, Bool.true_and, Bool.and_true, Bool.false_eq_true, ↓reduceIte, true_and, and_true, decide_true, decide_false, wipeR]
  refine ⟨_, rfl, k_seq (k_set ?_)⟩
  try simp only [ok_V0, ok_Vs, ok_K, ok_B, ok_U, ok_nil, ok_cons, ok_N, ok_aN, ok_call, ok_nl, ok_fl, ok_afl, ok_T, ok_qNot, ok_qAnd, ok_qOr, ok_and, ok_or, ok_not, ok_if, ok_Sl, ok_oNo, ok_oOf, ok_Ch, ok_it, ok_itA, ok_yes, v_addI, v_sub, v_neg, v_eqI, v_eqS, v_eqB, v_eq0, v_eqT0, v_neI, v_neS, v_neB, v_ne0, v_neT0, v_ltI, v_leI, v_gtI, v_geI, v_is, v_isNot, v_nn, v_ns, v_ni, v_nl, v_nt, v_tb, v_tl, v_tt, v_tn, v_ti, v_asB, v_asI, v_asL, v_asT, v_asS, v_lenL, v_lenT, v_tupL, v_tupT, v_listL, v_listT, v_intB, v_tup0, v_tup1, v_tup2, v_tup3, v_tup4, v_tup5, v_lst0, v_lst1, v_lst2, v_lst3, v_lst4, v_lst5, v_ok0, v_ok1, v_ok2, v_ix0L, v_ix0, v_ix1, v_ix2, v_ix3, v_fs, v_fi, v_fb, v_fn, v_ft, v_f0, v_fc, startR, List.map_cons, List.map_nil, List.length_cons, List.length_nil, List.replicate, List.cons_append, List.nil_append, List.set_cons_zero, List.set_cons_succ, Option.some.injEq, exists_eq_left', Nat.reduceAdd, Nat.reduceSub, Nat.sub_zero, Nat.sub_self, Nat.zero_add, Nat.reduceEqDiff, Bool.not_true, Bool.not_false, if_true, if_false, Bool.and_self, Bool.true_and, Bool.and_true, Bool.false_eq_true, ↓reduceIte, true_and, and_true, decide_true, decide_false, wipeR]
  refine k_draw (by omega) (by omega) fun r s1 r0 r1 => k_seq (k_sIf ?_)
  try simp only [ok_V0, ok_Vs, ok_K, ok_B, ok_U, ok_nil, ok_cons, ok_N, ok_aN, ok_call, ok_nl, ok_fl, ok_afl, ok_T, ok_qNot, ok_qAnd, ok_qOr, ok_and, ok_or, ok_not, ok_if, ok_Sl, ok_oNo, ok_oOf, ok_Ch, ok_it, ok_itA, ok_yes, v_addI, v_sub, v_neg, v_eqI, v_eqS, v_eqB, v_eq0, v_eqT0, v_neI, v_neS, v_neB, v_ne0, v_neT0, v_ltI, v_leI, v_gtI, v_geI, v_is, v_isNot, v_nn, v_ns, v_ni, v_nl, v_nt, v_tb, v_tl, v_tt, v_tn, v_ti, v_asB, v_asI, v_asL, v_asT, v_asS, v_lenL, v_lenT, v_tupL, v_tupT, v_listL, v_listT, v_intB, v_tup0, v_tup1, v_tup2, v_tup3, v_tup4, v_tup5, v_lst0, v_lst1, v_lst2, v_lst3, v_lst4, v_lst5, v_ok0, v_ok1, v_ok2, v_ix0L, v_ix0, v_ix1, v_ix2, v_ix3, v_fs, v_fi, v_fb, v_fn, v_ft, v_f0, v_fc, startR, List.map_cons, List.map_nil, List.length_cons, List.length_nil, List.replicate, List.cons_append, List.nil_append, List.set_cons_zero, List.set_cons_succ, Option.some.injEq, exists_eq_left', Nat.reduceAdd, Nat.reduceSub, Nat.sub_zero, Nat.sub_self, Nat.zero_add, Nat.reduceEqDiff, Bool.not_true, Bool.not_false, if_true, if_false, Bool.and_self, Bool.true_and, Bool.and_true, Bool.false_eq_true, ↓reduceIte, true_and, and_true, decide_true, decide_false, wipeR]
  by_cases e3 : r = 3
  · simp only [ok_V0, ok_Vs, ok_K, ok_B, ok_U, ok_nil, ok_cons, ok_N, ok_aN, ok_call, ok_nl, ok_fl, ok_afl, ok_T, ok_qNot, ok_qAnd, ok_qOr, ok_and, ok_or, ok_not, ok_if, ok_Sl, ok_oNo, ok_oOf, ok_Ch, ok_it, ok_itA, ok_yes, v_addI, v_sub, v_neg, v_eqI, v_eqS, v_eqB, v_eq0, v_eqT0, v_neI, v_neS, v_neB, v_ne0, v_neT0, v_ltI, v_leI, v_gtI, v_geI, v_is, v_isNot, v_nn, v_ns, v_ni, v_nl, v_nt, v_tb, v_tl, v_tt, v_tn, v_ti, v_asB, v_asI, v_asL, v_asT, v_asS, v_lenL, v_lenT, v_tupL, v_tupT, v_listL, v_listT, v_intB, v_tup0, v_tup1, v_tup2, v_tup3, v_tup4, v_tup5, v_lst0, v_lst1, v_lst2, v_lst3, v_lst4, v_lst5, v_ok0, v_ok1, v_ok2, v_ix0L, v_ix0, v_ix1, v_ix2, v_ix3, v_fs, v_fi, v_fb, v_fn, v_ft, v_f0, v_fc, startR, List.map_cons, List.map_nil, List.length_cons, List.length_nil, List.replicate, List.cons_append, List.nil_append, List.set_cons_zero, List.set_cons_succ, Option.some.injEq, exists_eq_left', Nat.reduceAdd, Nat.reduceSub, Nat.sub_zero, Nat.sub_self, Nat.zero_add, Nat.reduceEqDiff, Bool.not_true, Bool.not_false, if_true, if_false, Bool.and_self, Bool.true_and, Bool.and_true, Bool.false_eq_true, ↓reduceIte, true_and, and_true, decide_true, decide_false, wipeR, e3]
    refine k_ret ?_
    try simp only [ok_V0, ok_Vs, ok_K, ok_B, ok_U, ok_nil, ok_cons, ok_N, ok_aN, ok_call, ok_nl, ok_fl, ok_afl, ok_T, ok_qNot, ok_qAnd, ok_qOr, ok_and, ok_or, ok_not, ok_if, ok_Sl, ok_oNo, ok_oOf, ok_Ch, ok_it, ok_itA, ok_yes, v_addI, v_sub, v_neg, v_eqI, v_eqS, v_eqB, v_eq0, v_eqT0, v_neI, v_neS, v_neB, v_ne0, v_neT0, v_ltI, v_leI, v_gtI, v_geI, v_is, v_isNot, v_nn, v_ns, v_ni, v_nl, v_nt, v_tb, v_tl, v_tt, v_tn, v_ti, v_asB, v_asI, v_asL, v_asT, v_asS, v_lenL, v_lenT, v_tupL, v_tupT, v_listL, v_listT, v_intB, v_tup0, v_tup1, v_tup2, v_tup3, v_tup4, v_tup5, v_lst0, v_lst1, v_lst2, v_lst3, v_lst4, v_lst5, v_ok0, v_ok1, v_ok2, v_ix0L, v_ix0, v_ix1, v_ix2, v_ix3, v_fs, v_fi, v_fb, v_fn, v_ft, v_f0, v_fc, startR, List.map_cons, List.map_nil, List.length_cons, List.length_nil, List.replicate, List.cons_append, List.nil_append, List.set_cons_zero, List.set_cons_succ, Option.some.injEq, exists_eq_left', Nat.reduceAdd, Nat.reduceSub, Nat.sub_zero, Nat.sub_self, Nat.zero_add, Nat.reduceEqDiff, Bool.not_true, Bool.not_false, if_true, if_false, Bool.and_self, Bool.true_and, Bool.and_true, Bool.false_eq_true, ↓reduceIte, true_and, and_true, decide_true, decide_false, wipeR]
    refine ok_total hc fun d1 s2 => ok_total hc fun d2 s3 => ?_
    try simp only [ok_V0, ok_Vs, ok_K, ok_B, ok_U, ok_nil, ok_cons, ok_N, ok_aN, ok_call, ok_nl, ok_fl, ok_afl, ok_T, ok_qNot, ok_qAnd, ok_qOr, ok_and, ok_or, ok_not, ok_if, ok_Sl, ok_oNo, ok_oOf, ok_Ch, ok_it, ok_itA, ok_yes, v_addI, v_sub, v_neg, v_eqI, v_eqS, v_eqB, v_eq0, v_eqT0, v_neI, v_neS, v_neB, v_ne0, v_neT0, v_ltI, v_leI, v_gtI, v_geI, v_is, v_isNot, v_nn, v_ns, v_ni, v_nl, v_nt, v_tb, v_tl, v_tt, v_tn, v_ti, v_asB, v_asI, v_asL, v_asT, v_asS, v_lenL, v_lenT, v_tupL, v_tupT, v_listL, v_listT, v_intB, v_tup0, v_tup1, v_tup2, v_tup3, v_tup4, v_tup5, v_lst0, v_lst1, v_lst2, v_lst3, v_lst4, v_lst5, v_ok0, v_ok1, v_ok2, v_ix0L, v_ix0, v_ix1, v_ix2, v_ix3, v_fs, v_fi, v_fb, v_fn, v_ft, v_f0, v_fc, startR, List.map_cons, List.map_nil, List.length_cons, List.length_nil, List.replicate, List.cons_append, List.nil_append, List.set_cons_zero, List.set_cons_succ, Option.some.injEq, exists_eq_left', Nat.reduceAdd, Nat.reduceSub, Nat.sub_zero, Nat.sub_self, Nat.zero_add, Nat.reduceEqDiff, Bool.not_true, Bool.not_false, if_true, if_false, Bool.and_self, Bool.true_and, Bool.and_true, Bool.false_eq_true, ↓reduceIte, true_and, and_true, decide_true, decide_false, wipeR]
    exact q _ _
  simp only [ok_V0, ok_Vs, ok_K, ok_B, ok_U, ok_nil, ok_cons, ok_N, ok_aN, ok_call, ok_nl, ok_fl, ok_afl, ok_T, ok_qNot, ok_qAnd, ok_qOr, ok_and, ok_or, ok_not, ok_if, ok_Sl, ok_oNo, ok_oOf, ok_Ch, ok_it, ok_itA, ok_yes, v_addI, v_sub, v_neg, v_eqI, v_eqS, v_eqB, v_eq0, v_eqT0, v_neI, v_neS, v_neB, v_ne0, v_neT0, v_ltI, v_leI, v_gtI, v_geI, v_is, v_isNot, v_nn, v_ns, v_ni, v_nl, v_nt, v_tb, v_tl, v_tt, v_tn, v_ti, v_asB, v_asI, v_asL, v_asT, v_asS, v_lenL, v_lenT, v_tupL, v_tupT, v_listL, v_listT, v_intB, v_tup0, v_tup1, v_tup2, v_tup3, v_tup4, v_tup5, v_lst0, v_lst1, v_lst2, v_lst3, v_lst4, v_lst5, v_ok0, v_ok1, v_ok2, v_ix0L, v_ix0, v_ix1, v_ix2, v_ix3, v_fs, v_fi, v_fb, v_fn, v_ft, v_f0, v_fc, startR, List.map_cons, List.map_nil, List.length_cons, List.length_nil, List.replicate, List.cons_append, List.nil_append, List.set_cons_zero, List.set_cons_succ, Option.some.injEq, exists_eq_left', Nat.reduceAdd, Nat.reduceSub, Nat.sub_zero, Nat.sub_self, Nat.zero_add, Nat.reduceEqDiff, Bool.not_true, Bool.not_false, if_true, if_false, Bool.and_self, Bool.true_and, Bool.and_true, Bool.false_eq_true, ↓reduceIte, true_and, and_true, decide_true, decide_false, wipeR, e3]
  refine k_nx (k_seq (k_sIf ?_))
  simp only [ok_V0, ok_Vs, ok_K, ok_B, ok_U, ok_nil, ok_cons, ok_N, ok_aN, ok_call, ok_nl, ok_fl, ok_afl, ok_T, ok_qNot, ok_qAnd, ok_qOr, ok_and, ok_or, ok_not, ok_if, ok_Sl, ok_oNo, ok_oOf, ok_Ch, ok_it, ok_itA, ok_yes, v_addI, v_sub, v_neg, v_eqI, v_eqS, v_eqB, v_eq0, v_eqT0, v_neI, v_neS, v_neB, v_ne0, v_neT0, v_ltI, v_leI, v_gtI, v_geI, v_is, v_isNot, v_nn, v_ns, v_ni, v_nl, v_nt, v_tb, v_tl, v_tt, v_tn, v_ti, v_asB, v_asI, v_asL, v_asT, v_asS, v_lenL, v_lenT, v_tupL, v_tupT, v_listL, v_listT, v_intB, v_tup0, v_tup1, v_tup2, v_tup3, v_tup4, v_tup5, v_lst0, v_lst1, v_lst2, v_lst3, v_lst4, v_lst5, v_ok0, v_ok1, v_ok2, v_ix0L, v_ix0, v_ix1, v_ix2, v_ix3, v_fs, v_fi, v_fb, v_fn, v_ft, v_f0, v_fc, startR, List.map_cons, List.map_nil, List.length_cons, List.length_nil, List.replicate, List.cons_append, List.nil_append, List.set_cons_zero, List.set_cons_succ, Option.some.injEq, exists_eq_left', Nat.reduceAdd, Nat.reduceSub, Nat.sub_zero, Nat.sub_self, Nat.zero_add, Nat.reduceEqDiff, Bool.not_true, Bool.not_false, if_true, if_false, Bool.and_self, Bool.true_and, Bool.and_true, Bool.false_eq_true, ↓reduceIte, true_and, and_true, decide_true, decide_false, wipeR, emp_map]
  by_cases e4 : r = 4
  · simp only [ok_V0, ok_Vs, ok_K, ok_B, ok_U, ok_nil, ok_cons, ok_N, ok_aN, ok_call, ok_nl, ok_fl, ok_afl, ok_T, ok_qNot, ok_qAnd, ok_qOr, ok_and, ok_or, ok_not, ok_if, ok_Sl, ok_oNo, ok_oOf, ok_Ch, ok_it, ok_itA, ok_yes, v_addI, v_sub, v_neg, v_eqI, v_eqS, v_eqB, v_eq0, v_eqT0, v_neI, v_neS, v_neB, v_ne0, v_neT0, v_ltI, v_leI, v_gtI, v_geI, v_is, v_isNot, v_nn, v_ns, v_ni, v_nl, v_nt, v_tb, v_tl, v_tt, v_tn, v_ti, v_asB, v_asI, v_asL, v_asT, v_asS, v_lenL, v_lenT, v_tupL, v_tupT, v_listL, v_listT, v_intB, v_tup0, v_tup1, v_tup2, v_tup3, v_tup4, v_tup5, v_lst0, v_lst1, v_lst2, v_lst3, v_lst4, v_lst5, v_ok0, v_ok1, v_ok2, v_ix0L, v_ix0, v_ix1, v_ix2, v_ix3, v_fs, v_fi, v_fb, v_fn, v_ft, v_f0, v_fc, startR, List.map_cons, List.map_nil, List.length_cons, List.length_nil, List.replicate, List.cons_append, List.nil_append, List.set_cons_zero, List.set_cons_succ, Option.some.injEq, exists_eq_left', Nat.reduceAdd, Nat.reduceSub, Nat.sub_zero, Nat.sub_self, Nat.zero_add, Nat.reduceEqDiff, Bool.not_true, Bool.not_false, if_true, if_false, Bool.and_self, Bool.true_and, Bool.and_true, Bool.false_eq_true, ↓reduceIte, true_and, and_true, decide_true, decide_false, wipeR, e4]
    refine k_ret ?_
    try simp only [ok_V0, ok_Vs, ok_K, ok_B, ok_U, ok_nil, ok_cons, ok_N, ok_aN, ok_call, ok_nl, ok_fl, ok_afl, ok_T, ok_qNot, ok_qAnd, ok_qOr, ok_and, ok_or, ok_not, ok_if, ok_Sl, ok_oNo, ok_oOf, ok_Ch, ok_it, ok_itA, ok_yes, v_addI, v_sub, v_neg, v_eqI, v_eqS, v_eqB, v_eq0, v_eqT0, v_neI, v_neS, v_neB, v_ne0, v_neT0, v_ltI, v_leI, v_gtI, v_geI, v_is, v_isNot, v_nn, v_ns, v_ni, v_nl, v_nt, v_tb, v_tl, v_tt, v_tn, v_ti, v_asB, v_asI, v_asL, v_asT, v_asS, v_lenL, v_lenT, v_tupL, v_tupT, v_listL, v_listT, v_intB, v_tup0, v_tup1, v_tup2, v_tup3, v_tup4, v_tup5, v_lst0, v_lst1, v_lst2, v_lst3, v_lst4, v_lst5, v_ok0, v_ok1, v_ok2, v_ix0L, v_ix0, v_ix1, v_ix2, v_ix3, v_fs, v_fi, v_fb, v_fn, v_ft, v_f0, v_fc, startR, List.map_cons, List.map_nil, List.length_cons, List.length_nil, List.replicate, List.cons_append, List.nil_append, List.set_cons_zero, List.set_cons_succ, Option.some.injEq, exists_eq_left', Nat.reduceAdd, Nat.reduceSub, Nat.sub_zero, Nat.sub_self, Nat.zero_add, Nat.reduceEqDiff, Bool.not_true, Bool.not_false, if_true, if_false, Bool.and_self, Bool.true_and, Bool.and_true, Bool.false_eq_true, ↓reduceIte, true_and, and_true, decide_true, decide_false, wipeR]
    exact q _ _
  by_cases e0 : ts.length = 0
  · have : ts = [] := by cases ts <;> simp at e0 ⊢
    subst this
    simp only [ok_V0, ok_Vs, ok_K, ok_B, ok_U, ok_nil, ok_cons, ok_N, ok_aN, ok_call, ok_nl, ok_fl, ok_afl, ok_T, ok_qNot, ok_qAnd, ok_qOr, ok_and, ok_or, ok_not, ok_if, ok_Sl, ok_oNo, ok_oOf, ok_Ch, ok_it, ok_itA, ok_yes, v_addI, v_sub, v_neg, v_eqI, v_eqS, v_eqB, v_eq0, v_eqT0, v_neI, v_neS, v_neB, v_ne0, v_neT0, v_ltI, v_leI, v_gtI, v_geI, v_is, v_isNot, v_nn, v_ns, v_ni, v_nl, v_nt, v_tb, v_tl, v_tt, v_tn, v_ti, v_asB, v_asI, v_asL, v_asT, v_asS, v_lenL, v_lenT, v_tupL, v_tupT, v_listL, v_listT, v_intB, v_tup0, v_tup1, v_tup2, v_tup3, v_tup4, v_tup5, v_lst0, v_lst1, v_lst2, v_lst3, v_lst4, v_lst5, v_ok0, v_ok1, v_ok2, v_ix0L, v_ix0, v_ix1, v_ix2, v_ix3, v_fs, v_fi, v_fb, v_fn, v_ft, v_f0, v_fc, startR, List.map_cons, List.map_nil, List.length_cons, List.length_nil, List.replicate, List.cons_append, List.nil_append, List.set_cons_zero, List.set_cons_succ, Option.some.injEq, exists_eq_left', Nat.reduceAdd, Nat.reduceSub, Nat.sub_zero, Nat.sub_self, Nat.zero_add, Nat.reduceEqDiff, Bool.not_true, Bool.not_false, if_true, if_false, Bool.and_self, Bool.true_and, Bool.and_true, Bool.false_eq_true, ↓reduceIte, true_and, and_true, decide_true, decide_false, wipeR, e4, List.isEmpty_nil]
    refine k_ret ?_
    try simp only [ok_V0, ok_Vs, ok_K, ok_B, ok_U, ok_nil, ok_cons, ok_N, ok_aN, ok_call, ok_nl, ok_fl, ok_afl, ok_T, ok_qNot, ok_qAnd, ok_qOr, ok_and, ok_or, ok_not, ok_if, ok_Sl, ok_oNo, ok_oOf, ok_Ch, ok_it, ok_itA, ok_yes, v_addI, v_sub, v_neg, v_eqI, v_eqS, v_eqB, v_eq0, v_eqT0, v_neI, v_neS, v_neB, v_ne0, v_neT0, v_ltI, v_leI, v_gtI, v_geI, v_is, v_isNot, v_nn, v_ns, v_ni, v_nl, v_nt, v_tb, v_tl, v_tt, v_tn, v_ti, v_asB, v_asI, v_asL, v_asT, v_asS, v_lenL, v_lenT, v_tupL, v_tupT, v_listL, v_listT, v_intB, v_tup0, v_tup1, v_tup2, v_tup3, v_tup4, v_tup5, v_lst0, v_lst1, v_lst2, v_lst3, v_lst4, v_lst5, v_ok0, v_ok1, v_ok2, v_ix0L, v_ix0, v_ix1, v_ix2, v_ix3, v_fs, v_fi, v_fb, v_fn, v_ft, v_f0, v_fc, startR, List.map_cons, List.map_nil, List.length_cons, List.length_nil, List.replicate, List.cons_append, List.nil_append, List.set_cons_zero, List.set_cons_succ, Option.some.injEq, exists_eq_left', Nat.reduceAdd, Nat.reduceSub, Nat.sub_zero, Nat.sub_self, Nat.zero_add, Nat.reduceEqDiff, Bool.not_true, Bool.not_false, if_true, if_false, Bool.and_self, Bool.true_and, Bool.and_true, Bool.false_eq_true, ↓reduceIte, true_and, and_true, decide_true, decide_false, wipeR]
    exact q _ _
  simp only [ok_V0, ok_Vs, ok_K, ok_B, ok_U, ok_nil, ok_cons, ok_N, ok_aN, ok_call, ok_nl, ok_fl, ok_afl, ok_T, ok_qNot, ok_qAnd, ok_qOr, ok_and, ok_or, ok_not, ok_if, ok_Sl, ok_oNo, ok_oOf, ok_Ch, ok_it, ok_itA, ok_yes, v_addI, v_sub, v_neg, v_eqI, v_eqS, v_eqB, v_eq0, v_eqT0, v_neI, v_neS, v_neB, v_ne0, v_neT0, v_ltI, v_leI, v_gtI, v_geI, v_is, v_isNot, v_nn, v_ns, v_ni, v_nl, v_nt, v_tb, v_tl, v_tt, v_tn, v_ti, v_asB, v_asI, v_asL, v_asT, v_asS, v_lenL, v_lenT, v_tupL, v_tupT, v_listL, v_listT, v_intB, v_tup0, v_tup1, v_tup2, v_tup3, v_tup4, v_tup5, v_lst0, v_lst1, v_lst2, v_lst3, v_lst4, v_lst5, v_ok0, v_ok1, v_ok2, v_ix0L, v_ix0, v_ix1, v_ix2, v_ix3, v_fs, v_fi, v_fb, v_fn, v_ft, v_f0, v_fc, startR, List.map_cons, List.map_nil, List.length_cons, List.length_nil, List.replicate, List.cons_append, List.nil_append, List.set_cons_zero, List.set_cons_succ, Option.some.injEq, exists_eq_left', Nat.reduceAdd, Nat.reduceSub, Nat.sub_zero, Nat.sub_self, Nat.zero_add, Nat.reduceEqDiff, Bool.not_true, Bool.not_false, if_true, if_false, Bool.and_self, Bool.true_and, Bool.and_true, Bool.false_eq_true, ↓reduceIte, true_and, and_true, decide_true, decide_false, wipeR, e4, emp_dec ts e0]
  refine k_nx (k_seq (k_set ?_))
  try simp only [ok_V0, ok_Vs, ok_K, ok_B, ok_U, ok_nil, ok_cons, ok_N, ok_aN, ok_call, ok_nl, ok_fl, ok_afl, ok_T, ok_qNot, ok_qAnd, ok_qOr, ok_and, ok_or, ok_not, ok_if, ok_Sl, ok_oNo, ok_oOf, ok_Ch, ok_it, ok_itA, ok_yes, v_addI, v_sub, v_neg, v_eqI, v_eqS, v_eqB, v_eq0, v_eqT0, v_neI, v_neS, v_neB, v_ne0, v_neT0, v_ltI, v_leI, v_gtI, v_geI, v_is, v_isNot, v_nn, v_ns, v_ni, v_nl, v_nt, v_tb, v_tl, v_tt, v_tn, v_ti, v_asB, v_asI, v_asL, v_asT, v_asS, v_lenL, v_lenT, v_tupL, v_tupT, v_listL, v_listT, v_intB, v_tup0, v_tup1, v_tup2, v_tup3, v_tup4, v_tup5, v_lst0, v_lst1, v_lst2, v_lst3, v_lst4, v_lst5, v_ok0, v_ok1, v_ok2, v_ix0L, v_ix0, v_ix1, v_ix2, v_ix3, v_fs, v_fi, v_fb, v_fn, v_ft, v_f0, v_fc, startR, List.map_cons, List.map_nil, List.length_cons, List.length_nil, List.replicate, List.cons_append, List.nil_append, List.set_cons_zero, List.set_cons_succ, Option.some.injEq, exists_eq_left', Nat.reduceAdd, Nat.reduceSub, Nat.sub_zero, Nat.sub_self, Nat.zero_add, Nat.reduceEqDiff, Bool.not_true, Bool.not_false, if_true, if_false, Bool.and_self, Bool.true_and, Bool.and_true, Bool.false_eq_true, ↓reduceIte, true_and, and_true, decide_true, decide_false, wipeR]
  refine k_pick (by omega) (by omega) fun x1 s2 _ => k_seq (k_set ?_)
  try simp only [ok_V0, ok_Vs, ok_K, ok_B, ok_U, ok_nil, ok_cons, ok_N, ok_aN, ok_call, ok_nl, ok_fl, ok_afl, ok_T, ok_qNot, ok_qAnd, ok_qOr, ok_and, ok_or, ok_not, ok_if, ok_Sl, ok_oNo, ok_oOf, ok_Ch, ok_it, ok_itA, ok_yes, v_addI, v_sub, v_neg, v_eqI, v_eqS, v_eqB, v_eq0, v_eqT0, v_neI, v_neS, v_neB, v_ne0, v_neT0, v_ltI, v_leI, v_gtI, v_geI, v_is, v_isNot, v_nn, v_ns, v_ni, v_nl, v_nt, v_tb, v_tl, v_tt, v_tn, v_ti, v_asB, v_asI, v_asL, v_asT, v_asS, v_lenL, v_lenT, v_tupL, v_tupT, v_listL, v_listT, v_intB, v_tup0, v_tup1, v_tup2, v_tup3, v_tup4, v_tup5, v_lst0, v_lst1, v_lst2, v_lst3, v_lst4, v_lst5, v_ok0, v_ok1, v_ok2, v_ix0L, v_ix0, v_ix1, v_ix2, v_ix3, v_fs, v_fi, v_fb, v_fn, v_ft, v_f0, v_fc, startR, List.map_cons, List.map_nil, List.length_cons, List.length_nil, List.replicate, List.cons_append, List.nil_append, List.set_cons_zero, List.set_cons_succ, Option.some.injEq, exists_eq_left', Nat.reduceAdd, Nat.reduceSub, Nat.sub_zero, Nat.sub_self, Nat.zero_add, Nat.reduceEqDiff, Bool.not_true, Bool.not_false, if_true, if_false, Bool.and_self, Bool.true_and, Bool.and_true, Bool.false_eq_true, ↓reduceIte, true_and, and_true, decide_true, decide_false, wipeR]
  refine k_pick (by omega) (by omega) fun x2 s3 _ => k_seq (k_sIf ?_)
  simp only [ok_V0, ok_Vs, ok_K, ok_B, ok_U, ok_nil, ok_cons, ok_N, ok_aN, ok_call, ok_nl, ok_fl, ok_afl, ok_T, ok_qNot, ok_qAnd, ok_qOr, ok_and, ok_or, ok_not, ok_if, ok_Sl, ok_oNo, ok_oOf, ok_Ch, ok_it, ok_itA, ok_yes, v_addI, v_sub, v_neg, v_eqI, v_eqS, v_eqB, v_eq0, v_eqT0, v_neI, v_neS, v_neB, v_ne0, v_neT0, v_ltI, v_leI, v_gtI, v_geI, v_is, v_isNot, v_nn, v_ns, v_ni, v_nl, v_nt, v_tb, v_tl, v_tt, v_tn, v_ti, v_asB, v_asI, v_asL, v_asT, v_asS, v_lenL, v_lenT, v_tupL, v_tupT, v_listL, v_listT, v_intB, v_tup0, v_tup1, v_tup2, v_tup3, v_tup4, v_tup5, v_lst0, v_lst1, v_lst2, v_lst3, v_lst4, v_lst5, v_ok0, v_ok1, v_ok2, v_ix0L, v_ix0, v_ix1, v_ix2, v_ix3, v_fs, v_fi, v_fb, v_fn, v_ft, v_f0, v_fc, startR, List.map_cons, List.map_nil, List.length_cons, List.length_nil, List.replicate, List.cons_append, List.nil_append, List.set_cons_zero, List.set_cons_succ, Option.some.injEq, exists_eq_left', Nat.reduceAdd, Nat.reduceSub, Nat.sub_zero, Nat.sub_self, Nat.zero_add, Nat.reduceEqDiff, Bool.not_true, Bool.not_false, if_true, if_false, Bool.and_self, Bool.true_and, Bool.and_true, Bool.false_eq_true, ↓reduceIte, true_and, and_true, decide_true, decide_false, wipeR, emp_map]
  by_cases e2 : r = 2
  · simp only [ok_V0, ok_Vs, ok_K, ok_B, ok_U, ok_nil, ok_cons, ok_N, ok_aN, ok_call, ok_nl, ok_fl, ok_afl, ok_T, ok_qNot, ok_qAnd, ok_qOr, ok_and, ok_or, ok_not, ok_if, ok_Sl, ok_oNo, ok_oOf, ok_Ch, ok_it, ok_itA, ok_yes, v_addI, v_sub, v_neg, v_eqI, v_eqS, v_eqB, v_eq0, v_eqT0, v_neI, v_neS, v_neB, v_ne0, v_neT0, v_ltI, v_leI, v_gtI, v_geI, v_is, v_isNot, v_nn, v_ns, v_ni, v_nl, v_nt, v_tb, v_tl, v_tt, v_tn, v_ti, v_asB, v_asI, v_asL, v_asT, v_asS, v_lenL, v_lenT, v_tupL, v_tupT, v_listL, v_listT, v_intB, v_tup0, v_tup1, v_tup2, v_tup3, v_tup4, v_tup5, v_lst0, v_lst1, v_lst2, v_lst3, v_lst4, v_lst5, v_ok0, v_ok1, v_ok2, v_ix0L, v_ix0, v_ix1, v_ix2, v_ix3, v_fs, v_fi, v_fb, v_fn, v_ft, v_f0, v_fc, startR, List.map_cons, List.map_nil, List.length_cons, List.length_nil, List.replicate, List.cons_append, List.nil_append, List.set_cons_zero, List.set_cons_succ, Option.some.injEq, exists_eq_left', Nat.reduceAdd, Nat.reduceSub, Nat.sub_zero, Nat.sub_self, Nat.zero_add, Nat.reduceEqDiff, Bool.not_true, Bool.not_false, if_true, if_false, Bool.and_self, Bool.true_and, Bool.and_true, Bool.false_eq_true, ↓reduceIte, true_and, and_true, decide_true, decide_false, wipeR, e2]
    refine k_ret ?_
    try simp only [ok_V0, ok_Vs, ok_K, ok_B, ok_U, ok_nil, ok_cons, ok_N, ok_aN, ok_call, ok_nl, ok_fl, ok_afl, ok_T, ok_qNot, ok_qAnd, ok_qOr, ok_and, ok_or, ok_not, ok_if, ok_Sl, ok_oNo, ok_oOf, ok_Ch, ok_it, ok_itA, ok_yes, v_addI, v_sub, v_neg, v_eqI, v_eqS, v_eqB, v_eq0, v_eqT0, v_neI, v_neS, v_neB, v_ne0, v_neT0, v_ltI, v_leI, v_gtI, v_geI, v_is, v_isNot, v_nn, v_ns, v_ni, v_nl, v_nt, v_tb, v_tl, v_tt, v_tn, v_ti, v_asB, v_asI, v_asL, v_asT, v_asS, v_lenL, v_lenT, v_tupL, v_tupT, v_listL, v_listT, v_intB, v_tup0, v_tup1, v_tup2, v_tup3, v_tup4, v_tup5, v_lst0, v_lst1, v_lst2, v_lst3, v_lst4, v_lst5, v_ok0, v_ok1, v_ok2, v_ix0L, v_ix0, v_ix1, v_ix2, v_ix3, v_fs, v_fi, v_fb, v_fn, v_ft, v_f0, v_fc, startR, List.map_cons, List.map_nil, List.length_cons, List.length_nil, List.replicate, List.cons_append, List.nil_append, List.set_cons_zero, List.set_cons_succ, Option.some.injEq, exists_eq_left', Nat.reduceAdd, Nat.reduceSub, Nat.sub_zero, Nat.sub_self, Nat.zero_add, Nat.reduceEqDiff, Bool.not_true, Bool.not_false, if_true, if_false, Bool.and_self, Bool.true_and, Bool.and_true, Bool.false_eq_true, ↓reduceIte, true_and, and_true, decide_true, decide_false, wipeR]
    exact q _ _
  by_cases e5 : r = 5
  · by_cases d0 : ds.length = 0
    · have : ds = [] := by cases ds <;> simp at d0 ⊢
      subst this
      simp only [ok_V0, ok_Vs, ok_K, ok_B, ok_U, ok_nil, ok_cons, ok_N, ok_aN, ok_call, ok_nl, ok_fl, ok_afl, ok_T, ok_qNot, ok_qAnd, ok_qOr, ok_and, ok_or, ok_not, ok_if, ok_Sl, ok_oNo, ok_oOf, ok_Ch, ok_it, ok_itA, ok_yes, v_addI, v_sub, v_neg, v_eqI, v_eqS, v_eqB, v_eq0, v_eqT0, v_neI, v_neS, v_neB, v_ne0, v_neT0, v_ltI, v_leI, v_gtI, v_geI, v_is, v_isNot, v_nn, v_ns, v_ni, v_nl, v_nt, v_tb, v_tl, v_tt, v_tn, v_ti, v_asB, v_asI, v_asL, v_asT, v_asS, v_lenL, v_lenT, v_tupL, v_tupT, v_listL, v_listT, v_intB, v_tup0, v_tup1, v_tup2, v_tup3, v_tup4, v_tup5, v_lst0, v_lst1, v_lst2, v_lst3, v_lst4, v_lst5, v_ok0, v_ok1, v_ok2, v_ix0L, v_ix0, v_ix1, v_ix2, v_ix3, v_fs, v_fi, v_fb, v_fn, v_ft, v_f0, v_fc, startR, List.map_cons, List.map_nil, List.length_cons, List.length_nil, List.replicate, List.cons_append, List.nil_append, List.set_cons_zero, List.set_cons_succ, Option.some.injEq, exists_eq_left', Nat.reduceAdd, Nat.reduceSub, Nat.sub_zero, Nat.sub_self, Nat.zero_add, Nat.reduceEqDiff, Bool.not_true, Bool.not_false, if_true, if_false, Bool.and_self, Bool.true_and, Bool.and_true, Bool.false_eq_true, ↓reduceIte, true_and, and_true, decide_true, decide_false, wipeR, e5, List.isEmpty_nil, show ((5 : Int) = 2) = False from by decide]
      refine k_ret ?_
      try simp only [ok_V0, ok_Vs, ok_K, ok_B, ok_U, ok_nil, ok_cons, ok_N, ok_aN, ok_call, ok_nl, ok_fl, ok_afl, ok_T, ok_qNot, ok_qAnd, ok_qOr, ok_and, ok_or, ok_not, ok_if, ok_Sl, ok_oNo, ok_oOf, ok_Ch, ok_it, ok_itA, ok_yes, v_addI, v_sub, v_neg, v_eqI, v_eqS, v_eqB, v_eq0, v_eqT0, v_neI, v_neS, v_neB, v_ne0, v_neT0, v_ltI, v_leI, v_gtI, v_geI, v_is, v_isNot, v_nn, v_ns, v_ni, v_nl, v_nt, v_tb, v_tl, v_tt, v_tn, v_ti, v_asB, v_asI, v_asL, v_asT, v_asS, v_lenL, v_lenT, v_tupL, v_tupT, v_listL, v_listT, v_intB, v_tup0, v_tup1, v_tup2, v_tup3, v_tup4, v_tup5, v_lst0, v_lst1, v_lst2, v_lst3, v_lst4, v_lst5, v_ok0, v_ok1, v_ok2, v_ix0L, v_ix0, v_ix1, v_ix2, v_ix3, v_fs, v_fi, v_fb, v_fn, v_ft, v_f0, v_fc, startR, List.map_cons, List.map_nil, List.length_cons, List.length_nil, List.replicate, List.cons_append, List.nil_append, List.set_cons_zero, List.set_cons_succ, Option.some.injEq, exists_eq_left', Nat.reduceAdd, Nat.reduceSub, Nat.sub_zero, Nat.sub_self, Nat.zero_add, Nat.reduceEqDiff, Bool.not_true, Bool.not_false, if_true, if_false, Bool.and_self, Bool.true_and, Bool.and_true, Bool.false_eq_true, ↓reduceIte, true_and, and_true, decide_true, decide_false, wipeR]
      exact q _ _
    · simp only [ok_V0, ok_Vs, ok_K, ok_B, ok_U, ok_nil, ok_cons, ok_N, ok_aN, ok_call, ok_nl, ok_fl, ok_afl, ok_T, ok_qNot, ok_qAnd, ok_qOr, ok_and, ok_or, ok_not, ok_if, ok_Sl, ok_oNo, ok_oOf, ok_Ch, ok_it, ok_itA, ok_yes, v_addI, v_sub, v_neg, v_eqI, v_eqS, v_eqB, v_eq0, v_eqT0, v_neI, v_neS, v_neB, v_ne0, v_neT0, v_ltI, v_leI, v_gtI, v_geI, v_is, v_isNot, v_nn, v_ns, v_ni, v_nl, v_nt, v_tb, v_tl, v_tt, v_tn, v_ti, v_asB, v_asI, v_asL, v_asT, v_asS, v_lenL, v_lenT, v_tupL, v_tupT, v_listL, v_listT, v_intB, v_tup0, v_tup1, v_tup2, v_tup3, v_tup4, v_tup5, v_lst0, v_lst1, v_lst2, v_lst3, v_lst4, v_lst5, v_ok0, v_ok1, v_ok2, v_ix0L, v_ix0, v_ix1, v_ix2, v_ix3, v_fs, v_fi, v_fb, v_fn, v_ft, v_f0, v_fc, startR, List.map_cons, List.map_nil, List.length_cons, List.length_nil, List.replicate, List.cons_append, List.nil_append, List.set_cons_zero, List.set_cons_succ, Option.some.injEq, exists_eq_left', Nat.reduceAdd, Nat.reduceSub, Nat.sub_zero, Nat.sub_self, Nat.zero_add, Nat.reduceEqDiff, Bool.not_true, Bool.not_false, if_true, if_false, Bool.and_self, Bool.true_and, Bool.and_true, Bool.false_eq_true, ↓reduceIte, true_and, and_true, decide_true, decide_false, wipeR, e5, emp_dec ds d0, show ((5 : Int) = 2) = False from by decide]
      refine k_nx (k_seq (k_sIf ?_))
      try simp only [ok_V0, ok_Vs, ok_K, ok_B, ok_U, ok_nil, ok_cons, ok_N, ok_aN, ok_call, ok_nl, ok_fl, ok_afl, ok_T, ok_qNot, ok_qAnd, ok_qOr, ok_and, ok_or, ok_not, ok_if, ok_Sl, ok_oNo, ok_oOf, ok_Ch, ok_it, ok_itA, ok_yes, v_addI, v_sub, v_neg, v_eqI, v_eqS, v_eqB, v_eq0, v_eqT0, v_neI, v_neS, v_neB, v_ne0, v_neT0, v_ltI, v_leI, v_gtI, v_geI, v_is, v_isNot, v_nn, v_ns, v_ni, v_nl, v_nt, v_tb, v_tl, v_tt, v_tn, v_ti, v_asB, v_asI, v_asL, v_asT, v_asS, v_lenL, v_lenT, v_tupL, v_tupT, v_listL, v_listT, v_intB, v_tup0, v_tup1, v_tup2, v_tup3, v_tup4, v_tup5, v_lst0, v_lst1, v_lst2, v_lst3, v_lst4, v_lst5, v_ok0, v_ok1, v_ok2, v_ix0L, v_ix0, v_ix1, v_ix2, v_ix3, v_fs, v_fi, v_fb, v_fn, v_ft, v_f0, v_fc, startR, List.map_cons, List.map_nil, List.length_cons, List.length_nil, List.replicate, List.cons_append, List.nil_append, List.set_cons_zero, List.set_cons_succ, Option.some.injEq, exists_eq_left', Nat.reduceAdd, Nat.reduceSub, Nat.sub_zero, Nat.sub_self, Nat.zero_add, Nat.reduceEqDiff, Bool.not_true, Bool.not_false, if_true, if_false, Bool.and_self, Bool.true_and, Bool.and_true, Bool.false_eq_true, ↓reduceIte, true_and, and_true, decide_true, decide_false, wipeR]
      refine k_ret ?_
      try simp only [ok_V0, ok_Vs, ok_K, ok_B, ok_U, ok_nil, ok_cons, ok_N, ok_aN, ok_call, ok_nl, ok_fl, ok_afl, ok_T, ok_qNot, ok_qAnd, ok_qOr, ok_and, ok_or, ok_not, ok_if, ok_Sl, ok_oNo, ok_oOf, ok_Ch, ok_it, ok_itA, ok_yes, v_addI, v_sub, v_neg, v_eqI, v_eqS, v_eqB, v_eq0, v_eqT0, v_neI, v_neS, v_neB, v_ne0, v_neT0, v_ltI, v_leI, v_gtI, v_geI, v_is, v_isNot, v_nn, v_ns, v_ni, v_nl, v_nt, v_tb, v_tl, v_tt, v_tn, v_ti, v_asB, v_asI, v_asL, v_asT, v_asS, v_lenL, v_lenT, v_tupL, v_tupT, v_listL, v_listT, v_intB, v_tup0, v_tup1, v_tup2, v_tup3, v_tup4, v_tup5, v_lst0, v_lst1, v_lst2, v_lst3, v_lst4, v_lst5, v_ok0, v_ok1, v_ok2, v_ix0L, v_ix0, v_ix1, v_ix2, v_ix3, v_fs, v_fi, v_fb, v_fn, v_ft, v_f0, v_fc, startR, List.map_cons, List.map_nil, List.length_cons, List.length_nil, List.replicate, List.cons_append, List.nil_append, List.set_cons_zero, List.set_cons_succ, Option.some.injEq, exists_eq_left', Nat.reduceAdd, Nat.reduceSub, Nat.sub_zero, Nat.sub_self, Nat.zero_add, Nat.reduceEqDiff, Bool.not_true, Bool.not_false, if_true, if_false, Bool.and_self, Bool.true_and, Bool.and_true, Bool.false_eq_true, ↓reduceIte, true_and, and_true, decide_true, decide_false, wipeR]
      refine k_pick (by omega) (by omega) fun x3 s4 _ => ?_
      exact q _ _
  · by_cases d0 : ks.length = 0
    · have : ks = [] := by cases ks <;> simp at d0 ⊢
      subst this
      simp only [ok_V0, ok_Vs, ok_K, ok_B, ok_U, ok_nil, ok_cons, ok_N, ok_aN, ok_call, ok_nl, ok_fl, ok_afl, ok_T, ok_qNot, ok_qAnd, ok_qOr, ok_and, ok_or, ok_not, ok_if, ok_Sl, ok_oNo, ok_oOf, ok_Ch, ok_it, ok_itA, ok_yes, v_addI, v_sub, v_neg, v_eqI, v_eqS, v_eqB, v_eq0, v_eqT0, v_neI, v_neS, v_neB, v_ne0, v_neT0, v_ltI, v_leI, v_gtI, v_geI, v_is, v_isNot, v_nn, v_ns, v_ni, v_nl, v_nt, v_tb, v_tl, v_tt, v_tn, v_ti, v_asB, v_asI, v_asL, v_asT, v_asS, v_lenL, v_lenT, v_tupL, v_tupT, v_listL, v_listT, v_intB, v_tup0, v_tup1, v_tup2, v_tup3, v_tup4, v_tup5, v_lst0, v_lst1, v_lst2, v_lst3, v_lst4, v_lst5, v_ok0, v_ok1, v_ok2, v_ix0L, v_ix0, v_ix1, v_ix2, v_ix3, v_fs, v_fi, v_fb, v_fn, v_ft, v_f0, v_fc, startR, List.map_cons, List.map_nil, List.length_cons, List.length_nil, List.replicate, List.cons_append, List.nil_append, List.set_cons_zero, List.set_cons_succ, Option.some.injEq, exists_eq_left', Nat.reduceAdd, Nat.reduceSub, Nat.sub_zero, Nat.sub_self, Nat.zero_add, Nat.reduceEqDiff, Bool.not_true, Bool.not_false, if_true, if_false, Bool.and_self, Bool.true_and, Bool.and_true, Bool.false_eq_true, ↓reduceIte, true_and, and_true, decide_true, decide_false, wipeR, e5, e2, List.isEmpty_nil]
      refine k_ret ?_
      try simp only [ok_V0, ok_Vs, ok_K, ok_B, ok_U, ok_nil, ok_cons, ok_N, ok_aN, ok_call, ok_nl, ok_fl, ok_afl, ok_T, ok_qNot, ok_qAnd, ok_qOr, ok_and, ok_or, ok_not, ok_if, ok_Sl, ok_oNo, ok_oOf, ok_Ch, ok_it, ok_itA, ok_yes, v_addI, v_sub, v_neg, v_eqI, v_eqS, v_eqB, v_eq0, v_eqT0, v_neI, v_neS, v_neB, v_ne0, v_neT0, v_ltI, v_leI, v_gtI, v_geI, v_is, v_isNot, v_nn, v_ns, v_ni, v_nl, v_nt, v_tb, v_tl, v_tt, v_tn, v_ti, v_asB, v_asI, v_asL, v_asT, v_asS, v_lenL, v_lenT, v_tupL, v_tupT, v_listL, v_listT, v_intB, v_tup0, v_tup1, v_tup2, v_tup3, v_tup4, v_tup5, v_lst0, v_lst1, v_lst2, v_lst3, v_lst4, v_lst5, v_ok0, v_ok1, v_ok2, v_ix0L, v_ix0, v_ix1, v_ix2, v_ix3, v_fs, v_fi, v_fb, v_fn, v_ft, v_f0, v_fc, startR, List.map_cons, List.map_nil, List.length_cons, List.length_nil, List.replicate, List.cons_append, List.nil_append, List.set_cons_zero, List.set_cons_succ, Option.some.injEq, exists_eq_left', Nat.reduceAdd, Nat.reduceSub, Nat.sub_zero, Nat.sub_self, Nat.zero_add, Nat.reduceEqDiff, Bool.not_true, Bool.not_false, if_true, if_false, Bool.and_self, Bool.true_and, Bool.and_true, Bool.false_eq_true, ↓reduceIte, true_and, and_true, decide_true, decide_false, wipeR]
      exact q _ _
    · simp only [ok_V0, ok_Vs, ok_K, ok_B, ok_U, ok_nil, ok_cons, ok_N, ok_aN, ok_call, ok_nl, ok_fl, ok_afl, ok_T, ok_qNot, ok_qAnd, ok_qOr, ok_and, ok_or, ok_not, ok_if, ok_Sl, ok_oNo, ok_oOf, ok_Ch, ok_it, ok_itA, ok_yes, v_addI, v_sub, v_neg, v_eqI, v_eqS, v_eqB, v_eq0, v_eqT0, v_neI, v_neS, v_neB, v_ne0, v_neT0, v_ltI, v_leI, v_gtI, v_geI, v_is, v_isNot, v_nn, v_ns, v_ni, v_nl, v_nt, v_tb, v_tl, v_tt, v_tn, v_ti, v_asB, v_asI, v_asL, v_asT, v_asS, v_lenL, v_lenT, v_tupL, v_tupT, v_listL, v_listT, v_intB, v_tup0, v_tup1, v_tup2, v_tup3, v_tup4, v_tup5, v_lst0, v_lst1, v_lst2, v_lst3, v_lst4, v_lst5, v_ok0, v_ok1, v_ok2, v_ix0L, v_ix0, v_ix1, v_ix2, v_ix3, v_fs, v_fi, v_fb, v_fn, v_ft, v_f0, v_fc, startR, List.map_cons, List.map_nil, List.length_cons, List.length_nil, List.replicate, List.cons_append, List.nil_append, List.set_cons_zero, List.set_cons_succ, Option.some.injEq, exists_eq_left', Nat.reduceAdd, Nat.reduceSub, Nat.sub_zero, Nat.sub_self, Nat.zero_add, Nat.reduceEqDiff, Bool.not_true, Bool.not_false, if_true, if_false, Bool.and_self, Bool.true_and, Bool.and_true, Bool.false_eq_true, ↓reduceIte, true_and, and_true, decide_true, decide_false, wipeR, e5, e2, emp_dec ks d0]
      refine k_nx (k_seq (k_sIf ?_))
      simp only [ok_V0, ok_Vs, ok_K, ok_B, ok_U, ok_nil, ok_cons, ok_N, ok_aN, ok_call, ok_nl, ok_fl, ok_afl, ok_T, ok_qNot, ok_qAnd, ok_qOr, ok_and, ok_or, ok_not, ok_if, ok_Sl, ok_oNo, ok_oOf, ok_Ch, ok_it, ok_itA, ok_yes, v_addI, v_sub, v_neg, v_eqI, v_eqS, v_eqB, v_eq0, v_eqT0, v_neI, v_neS, v_neB, v_ne0, v_neT0, v_ltI, v_leI, v_gtI, v_geI, v_is, v_isNot, v_nn, v_ns, v_ni, v_nl, v_nt, v_tb, v_tl, v_tt, v_tn, v_ti, v_asB, v_asI, v_asL, v_asT, v_asS, v_lenL, v_lenT, v_tupL, v_tupT, v_listL, v_listT, v_intB, v_tup0, v_tup1, v_tup2, v_tup3, v_tup4, v_tup5, v_lst0, v_lst1, v_lst2, v_lst3, v_lst4, v_lst5, v_ok0, v_ok1, v_ok2, v_ix0L, v_ix0, v_ix1, v_ix2, v_ix3, v_fs, v_fi, v_fb, v_fn, v_ft, v_f0, v_fc, startR, List.map_cons, List.map_nil, List.length_cons, List.length_nil, List.replicate, List.cons_append, List.nil_append, List.set_cons_zero, List.set_cons_succ, Option.some.injEq, exists_eq_left', Nat.reduceAdd, Nat.reduceSub, Nat.sub_zero, Nat.sub_self, Nat.zero_add, Nat.reduceEqDiff, Bool.not_true, Bool.not_false, if_true, if_false, Bool.and_self, Bool.true_and, Bool.and_true, Bool.false_eq_true, ↓reduceIte, true_and, and_true, decide_true, decide_false, wipeR, e5]
      refine k_nx (k_ret ?_)
      try simp only [ok_V0, ok_Vs, ok_K, ok_B, ok_U, ok_nil, ok_cons, ok_N, ok_aN, ok_call, ok_nl, ok_fl, ok_afl, ok_T, ok_qNot, ok_qAnd, ok_qOr, ok_and, ok_or, ok_not, ok_if, ok_Sl, ok_oNo, ok_oOf, ok_Ch, ok_it, ok_itA, ok_yes, v_addI, v_sub, v_neg, v_eqI, v_eqS, v_eqB, v_eq0, v_eqT0, v_neI, v_neS, v_neB, v_ne0, v_neT0, v_ltI, v_leI, v_gtI, v_geI, v_is, v_isNot, v_nn, v_ns, v_ni, v_nl, v_nt, v_tb, v_tl, v_tt, v_tn, v_ti, v_asB, v_asI, v_asL, v_asT, v_asS, v_lenL, v_lenT, v_tupL, v_tupT, v_listL, v_listT, v_intB, v_tup0, v_tup1, v_tup2, v_tup3, v_tup4, v_tup5, v_lst0, v_lst1, v_lst2, v_lst3, v_lst4, v_lst5, v_ok0, v_ok1, v_ok2, v_ix0L, v_ix0, v_ix1, v_ix2, v_ix3, v_fs, v_fi, v_fb, v_fn, v_ft, v_f0, v_fc, startR, List.map_cons, List.map_nil, List.length_cons, List.length_nil, List.replicate, List.cons_append, List.nil_append, List.set_cons_zero, List.set_cons_succ, Option.some.injEq, exists_eq_left', Nat.reduceAdd, Nat.reduceSub, Nat.sub_zero, Nat.sub_self, Nat.zero_add, Nat.reduceEqDiff, Bool.not_true, Bool.not_false, if_true, if_false, Bool.and_self, Bool.true_and, Bool.and_true, Bool.false_eq_true, ↓reduceIte, true_and, and_true, decide_true, decide_false, wipeR]
      refine k_pick (by omega) (by omega) fun x3 s4 _ => ?_
      exact q _ _
/-- the drawn form, so many deep -/
def Fform : Nat → Fn DS
  | 0 => fun _ _ => none
  | k + 1 => K_w_form Fdraw Fatom (Fform k)
theorem v_stock3 {ks cs ds ls : List Str} : pIx (stockD ks cs ds ls) (.int 3) = some (.list (ls.map .str)) := v_ix3
theorem ok_form {ks cs ds ls : List Str} (hk : ks.length ≤ 100) (hc : cs.length ≤ 100) (hd : ds.length ≤ 100) (hl : 0 < ls.length ∧ ls.length ≤ 100) : ∀ (n m : Nat) (s : DS) (ts : List Str), n < m → ts.length + n ≤ 1000 → ∀ {Q : D → DS → Prop}, (∀ d s', Q d s') → Ok (Fform m [hnd 0, stockD ks cs ds ls, .list (ts.map .str), .int (n : Nat)] s) Q := by
  intro n
  induction n with
  | zero =>
    intro m s ts hm ht Q q
    obtain ⟨m, rfl⟩ : ∃ k, m = k + 1 := ⟨m - 1, by omega⟩
    unfold Fform K_w_form B_w_form
    refine k_fn (k_seq (k_set ?_))
    try simp only [ok_V0, ok_Vs, ok_K, ok_B, ok_U, ok_nil, ok_cons, ok_N, ok_aN, ok_call, ok_nl, ok_fl, ok_afl, ok_T, ok_qNot, ok_qAnd, ok_qOr, ok_and, ok_or, ok_not, ok_if, ok_Sl, ok_oNo, ok_oOf, ok_Ch, ok_it, ok_itA, ok_yes, v_addI, v_sub, v_neg, v_eqI, v_eqS, v_eqB, v_eq0, v_eqT0, v_neI, v_neS, v_neB, v_ne0, v_neT0, v_ltI, v_leI, v_gtI, v_geI, v_is, v_isNot, v_nn, v_ns, v_ni, v_nl, v_nt, v_tb, v_tl, v_tt, v_tn, v_ti, v_asB, v_asI, v_asL, v_asT, v_asS, v_lenL, v_lenT, v_tupL, v_tupT, v_listL, v_listT, v_intB, v_tup0, v_tup1, v_tup2, v_tup3, v_tup4, v_tup5, v_lst0, v_lst1, v_lst2, v_lst3, v_lst4, v_lst5, v_ok0, v_ok1, v_ok2, v_ix0L, v_ix0, v_ix1, v_ix2, v_ix3, v_fs, v_fi, v_fb, v_fn, v_ft, v_f0, v_fc, startR, List.map_cons, List.map_nil, List.length_cons, List.length_nil, List.replicate, List.cons_append, List.nil_append, List.set_cons_zero, List.set_cons_succ, Option.some.injEq, exists_eq_left', Nat.reduceAdd, Nat.reduceSub, Nat.sub_zero, Nat.sub_self, Nat.zero_add, Nat.reduceEqDiff, Bool.not_true, Bool.not_false, if_true, if_false, Bool.and_self, Bool.true_and, Bool.and_true, Bool.false_eq_true, ↓reduceIte, true_and, and_true, decide_true, decide_false, wipeR]
    refine k_draw (by omega) (by omega) fun r s1 r0 r1 => k_seq (k_sIf ?_)
    simp only [ok_V0, ok_Vs, ok_K, ok_B, ok_U, ok_nil, ok_cons, ok_N, ok_aN, ok_call, ok_nl, ok_fl, ok_afl, ok_T, ok_qNot, ok_qAnd, ok_qOr, ok_and, ok_or, ok_not, ok_if, ok_Sl, ok_oNo, ok_oOf, ok_Ch, ok_it, ok_itA, ok_yes, v_addI, v_sub, v_neg, v_eqI, v_eqS, v_eqB, v_eq0, v_eqT0, v_neI, v_neS, v_neB, v_ne0, v_neT0, v_ltI, v_leI, v_gtI, v_geI, v_is, v_isNot, v_nn, v_ns, v_ni, v_nl, v_nt, v_tb, v_tl, v_tt, v_tn, v_ti, v_asB, v_asI, v_asL, v_asT, v_asS, v_lenL, v_lenT, v_tupL, v_tupT, v_listL, v_listT, v_intB, v_tup0, v_tup1, v_tup2, v_tup3, v_tup4, v_tup5, v_lst0, v_lst1, v_lst2, v_lst3, v_lst4, v_lst5, v_ok0, v_ok1, v_ok2, v_ix0L, v_ix0, v_ix1, v_ix2, v_ix3, v_fs, v_fi, v_fb, v_fn, v_ft, v_f0, v_fc, startR, List.map_cons, List.map_nil, List.length_cons, List.length_nil, List.replicate, List.cons_append, List.nil_append, List.set_cons_zero, List.set_cons_succ, Option.some.injEq, exists_eq_left', Nat.reduceAdd, Nat.reduceSub, Nat.sub_zero, Nat.sub_self, Nat.zero_add, Nat.reduceEqDiff, Bool.not_true, Bool.not_false, if_true, if_false, Bool.and_self, Bool.true_and, Bool.and_true, Bool.false_eq_true, ↓reduceIte, true_and, and_true, decide_true, decide_false, wipeR, show ((((0 : Nat) : Int)) = 0) = True from eq_true rfl]
    refine k_ret ?_
    try simp only [ok_V0, ok_Vs, ok_K, ok_B, ok_U, ok_nil, ok_cons, ok_N, ok_aN, ok_call, ok_nl, ok_fl, ok_afl, ok_T, ok_qNot, ok_qAnd, ok_qOr, ok_and, ok_or, ok_not, ok_if, ok_Sl, ok_oNo, ok_oOf, ok_Ch, ok_it, ok_itA, ok_yes, v_addI, v_sub, v_neg, v_eqI, v_eqS, v_eqB, v_eq0, v_eqT0, v_neI, v_neS, v_neB, v_ne0, v_neT0, v_ltI, v_leI, v_gtI, v_geI, v_is, v_isNot, v_nn, v_ns, v_ni, v_nl, v_nt, v_tb, v_tl, v_tt, v_tn, v_ti, v_asB, v_asI, v_asL, v_asT, v_asS, v_lenL, v_lenT, v_tupL, v_tupT, v_listL, v_listT, v_intB, v_tup0, v_tup1, v_tup2, v_tup3, v_tup4, v_tup5, v_lst0, v_lst1, v_lst2, v_lst3, v_lst4, v_lst5, v_ok0, v_ok1, v_ok2, v_ix0L, v_ix0, v_ix1, v_ix2, v_ix3, v_fs, v_fi, v_fb, v_fn, v_ft, v_f0, v_fc, startR, List.map_cons, List.map_nil, List.length_cons, List.length_nil, List.replicate, List.cons_append, List.nil_append, List.set_cons_zero, List.set_cons_succ, Option.some.injEq, exists_eq_left', Nat.reduceAdd, Nat.reduceSub, Nat.sub_zero, Nat.sub_self, Nat.zero_add, Nat.reduceEqDiff, Bool.not_true, Bool.not_false, if_true, if_false, Bool.and_self, Bool.true_and, Bool.and_true, Bool.false_eq_true, ↓reduceIte, true_and, and_true, decide_true, decide_false, wipeR]
    exact ok_atom hk hc hd (by omega) fun d s' => q _ _
  | succ n ih =>
    intro m s ts hm ht Q q
    obtain ⟨m, rfl⟩ : ∃ k, m = k + 1 := ⟨m - 1, by omega⟩
    have sub : ((n + 1 : Nat) : Int) - 1 = (n : Nat) := by omega
    unfold Fform K_w_form B_w_form
    refine k_fn (k_seq (k_set ?_))
    try simp only [ok_V0, ok_Vs, ok_K, ok_B, ok_U, ok_nil, ok_cons, ok_N, ok_aN, ok_call, ok_nl, ok_fl, ok_afl, ok_T, ok_qNot, ok_qAnd, ok_qOr, ok_and, ok_or, ok_not, ok_if, ok_Sl, ok_oNo, ok_oOf, ok_Ch, ok_it, ok_itA, ok_yes, v_addI, v_sub, v_neg, v_eqI, v_eqS, v_eqB, v_eq0, v_eqT0, v_neI, v_neS, v_neB, v_ne0, v_neT0, v_ltI, v_leI, v_gtI, v_geI, v_is, v_isNot, v_nn, v_ns, v_ni, v_nl, v_nt, v_tb, v_tl, v_tt, v_tn, v_ti, v_asB, v_asI, v_asL, v_asT, v_asS, v_lenL, v_lenT, v_tupL, v_tupT, v_listL, v_listT, v_intB, v_tup0, v_tup1, v_tup2, v_tup3, v_tup4, v_tup5, v_lst0, v_lst1, v_lst2, v_lst3, v_lst4, v_lst5, v_ok0, v_ok1, v_ok2, v_ix0L, v_ix0, v_ix1, v_ix2, v_ix3, v_fs, v_fi, v_fb, v_fn, v_ft, v_f0, v_fc, startR, List.map_cons, List.map_nil, List.length_cons, List.length_nil, List.replicate, List.cons_append, List.nil_append, List.set_cons_zero, List.set_cons_succ, Option.some.injEq, exists_eq_left', Nat.reduceAdd, Nat.reduceSub, Nat.sub_zero, Nat.sub_self, Nat.zero_add, Nat.reduceEqDiff, Bool.not_true, Bool.not_false, if_true, if_false, Bool.and_self, Bool.true_and, Bool.and_true, Bool.false_eq_true, ↓reduceIte, true_and, and_true, decide_true, decide_false, wipeR]
    refine k_draw (by omega) (by omega) fun r s1 r0 r1 => k_seq (k_sIf ?_)
    have ne0 : ((((n + 1 : Nat)) : Int) = 0) = False := eq_false (by omega)
    simp only [ok_V0, ok_Vs, ok_K, ok_B, ok_U, ok_nil, ok_cons, ok_N, ok_aN, ok_call, ok_nl, ok_fl, ok_afl, ok_T, ok_qNot, ok_qAnd, ok_qOr, ok_and, ok_or, ok_not, ok_if, ok_Sl, ok_oNo, ok_oOf, ok_Ch, ok_it, ok_itA, ok_yes, v_addI, v_sub, v_neg, v_eqI, v_eqS, v_eqB, v_eq0, v_eqT0, v_neI, v_neS, v_neB, v_ne0, v_neT0, v_ltI, v_leI, v_gtI, v_geI, v_is, v_isNot, v_nn, v_ns, v_ni, v_nl, v_nt, v_tb, v_tl, v_tt, v_tn, v_ti, v_asB, v_asI, v_asL, v_asT, v_asS, v_lenL, v_lenT, v_tupL, v_tupT, v_listL, v_listT, v_intB, v_tup0, v_tup1, v_tup2, v_tup3, v_tup4, v_tup5, v_lst0, v_lst1, v_lst2, v_lst3, v_lst4, v_lst5, v_ok0, v_ok1, v_ok2, v_ix0L, v_ix0, v_ix1, v_ix2, v_ix3, v_fs, v_fi, v_fb, v_fn, v_ft, v_f0, v_fc, startR, List.map_cons, List.map_nil, List.length_cons, List.length_nil, List.replicate, List.cons_append, List.nil_append, List.set_cons_zero, List.set_cons_succ, Option.some.injEq, exists_eq_left', Nat.reduceAdd, Nat.reduceSub, Nat.sub_zero, Nat.sub_self, Nat.zero_add, Nat.reduceEqDiff, Bool.not_true, Bool.not_false, if_true, if_false, Bool.and_self, Bool.true_and, Bool.and_true, Bool.false_eq_true, ↓reduceIte, true_and, and_true, decide_true, decide_false, wipeR, ne0]
    by_cases h4 : r < 4
    · simp only [ok_V0, ok_Vs, ok_K, ok_B, ok_U, ok_nil, ok_cons, ok_N, ok_aN, ok_call, ok_nl, ok_fl, ok_afl, ok_T, ok_qNot, ok_qAnd, ok_qOr, ok_and, ok_or, ok_not, ok_if, ok_Sl, ok_oNo, ok_oOf, ok_Ch, ok_it, ok_itA, ok_yes, v_addI, v_sub, v_neg, v_eqI, v_eqS, v_eqB, v_eq0, v_eqT0, v_neI, v_neS, v_neB, v_ne0, v_neT0, v_ltI, v_leI, v_gtI, v_geI, v_is, v_isNot, v_nn, v_ns, v_ni, v_nl, v_nt, v_tb, v_tl, v_tt, v_tn, v_ti, v_asB, v_asI, v_asL, v_asT, v_asS, v_lenL, v_lenT, v_tupL, v_tupT, v_listL, v_listT, v_intB, v_tup0, v_tup1, v_tup2, v_tup3, v_tup4, v_tup5, v_lst0, v_lst1, v_lst2, v_lst3, v_lst4, v_lst5, v_ok0, v_ok1, v_ok2, v_ix0L, v_ix0, v_ix1, v_ix2, v_ix3, v_fs, v_fi, v_fb, v_fn, v_ft, v_f0, v_fc, startR, List.map_cons, List.map_nil, List.length_cons, List.length_nil, List.replicate, List.cons_append, List.nil_append, List.set_cons_zero, List.set_cons_succ, Option.some.injEq, exists_eq_left', Nat.reduceAdd, Nat.reduceSub, Nat.sub_zero, Nat.sub_self, Nat.zero_add, Nat.reduceEqDiff, Bool.not_true, Bool.not_false, if_true, if_false, Bool.and_self, Bool.true_and, Bool.and_true, Bool.false_eq_true, ↓reduceIte, true_and, and_true, decide_true, decide_false, wipeR, h4]
      refine k_ret ?_
      try simp only [ok_V0, ok_Vs, ok_K, ok_B, ok_U, ok_nil, ok_cons, ok_N, ok_aN, ok_call, ok_nl, ok_fl, ok_afl, ok_T, ok_qNot, ok_qAnd, ok_qOr, ok_and, ok_or, ok_not, ok_if, ok_Sl, ok_oNo, ok_oOf, ok_Ch, ok_it, ok_itA, ok_yes, v_addI, v_sub, v_neg, v_eqI, v_eqS, v_eqB, v_eq0, v_eqT0, v_neI, v_neS, v_neB, v_ne0, v_neT0, v_ltI, v_leI, v_gtI, v_geI, v_is, v_isNot, v_nn, v_ns, v_ni, v_nl, v_nt, v_tb, v_tl, v_tt, v_tn, v_ti, v_asB, v_asI, v_asL, v_asT, v_asS, v_lenL, v_lenT, v_tupL, v_tupT, v_listL, v_listT, v_intB, v_tup0, v_tup1, v_tup2, v_tup3, v_tup4, v_tup5, v_lst0, v_lst1, v_lst2, v_lst3, v_lst4, v_lst5, v_ok0, v_ok1, v_ok2, v_ix0L, v_ix0, v_ix1, v_ix2, v_ix3, v_fs, v_fi, v_fb, v_fn, v_ft, v_f0, v_fc, startR, List.map_cons, List.map_nil, List.length_cons, List.length_nil, List.replicate, List.cons_append, List.nil_append, List.set_cons_zero, List.set_cons_succ, Option.some.injEq, exists_eq_left', Nat.reduceAdd, Nat.reduceSub, Nat.sub_zero, Nat.sub_self, Nat.zero_add, Nat.reduceEqDiff, Bool.not_true, Bool.not_false, if_true, if_false, Bool.and_self, Bool.true_and, Bool.and_true, Bool.false_eq_true, ↓reduceIte, true_and, and_true, decide_true, decide_false, wipeR]
      exact ok_atom hk hc hd (by omega) fun d s' => q _ _
    simp only [ok_V0, ok_Vs, ok_K, ok_B, ok_U, ok_nil, ok_cons, ok_N, ok_aN, ok_call, ok_nl, ok_fl, ok_afl, ok_T, ok_qNot, ok_qAnd, ok_qOr, ok_and, ok_or, ok_not, ok_if, ok_Sl, ok_oNo, ok_oOf, ok_Ch, ok_it, ok_itA, ok_yes, v_addI, v_sub, v_neg, v_eqI, v_eqS, v_eqB, v_eq0, v_eqT0, v_neI, v_neS, v_neB, v_ne0, v_neT0, v_ltI, v_leI, v_gtI, v_geI, v_is, v_isNot, v_nn, v_ns, v_ni, v_nl, v_nt, v_tb, v_tl, v_tt, v_tn, v_ti, v_asB, v_asI, v_asL, v_asT, v_asS, v_lenL, v_lenT, v_tupL, v_tupT, v_listL, v_listT, v_intB, v_tup0, v_tup1, v_tup2, v_tup3, v_tup4, v_tup5, v_lst0, v_lst1, v_lst2, v_lst3, v_lst4, v_lst5, v_ok0, v_ok1, v_ok2, v_ix0L, v_ix0, v_ix1, v_ix2, v_ix3, v_fs, v_fi, v_fb, v_fn, v_ft, v_f0, v_fc, startR, List.map_cons, List.map_nil, List.length_cons, List.length_nil, List.replicate, List.cons_append, List.nil_append, List.set_cons_zero, List.set_cons_succ, Option.some.injEq, exists_eq_left', Nat.reduceAdd, Nat.reduceSub, Nat.sub_zero, Nat.sub_self, Nat.zero_add, Nat.reduceEqDiff, Bool.not_true, Bool.not_false, if_true, if_false, Bool.and_self, Bool.true_and, Bool.and_true, Bool.false_eq_true, ↓reduceIte, true_and, and_true, decide_true, decide_false, wipeR, h4]
    refine k_nx (k_seq (k_sIf ?_))
    try simp only [ok_V0, ok_Vs, ok_K, ok_B, ok_U, ok_nil, ok_cons, ok_N, ok_aN, ok_call, ok_nl, ok_fl, ok_afl, ok_T, ok_qNot, ok_qAnd, ok_qOr, ok_and, ok_or, ok_not, ok_if, ok_Sl, ok_oNo, ok_oOf, ok_Ch, ok_it, ok_itA, ok_yes, v_addI, v_sub, v_neg, v_eqI, v_eqS, v_eqB, v_eq0, v_eqT0, v_neI, v_neS, v_neB, v_ne0, v_neT0, v_ltI, v_leI, v_gtI, v_geI, v_is, v_isNot, v_nn, v_ns, v_ni, v_nl, v_nt, v_tb, v_tl, v_tt, v_tn, v_ti, v_asB, v_asI, v_asL, v_asT, v_asS, v_lenL, v_lenT, v_tupL, v_tupT, v_listL, v_listT, v_intB, v_tup0, v_tup1, v_tup2, v_tup3, v_tup4, v_tup5, v_lst0, v_lst1, v_lst2, v_lst3, v_lst4, v_lst5, v_ok0, v_ok1, v_ok2, v_ix0L, v_ix0, v_ix1, v_ix2, v_ix3, v_fs, v_fi, v_fb, v_fn, v_ft, v_f0, v_fc, startR, List.map_cons, List.map_nil, List.length_cons, List.length_nil, List.replicate, List.cons_append, List.nil_append, List.set_cons_zero, List.set_cons_succ, Option.some.injEq, exists_eq_left', Nat.reduceAdd, Nat.reduceSub, Nat.sub_zero, Nat.sub_self, Nat.zero_add, Nat.reduceEqDiff, Bool.not_true, Bool.not_false, if_true, if_false, Bool.and_self, Bool.true_and, Bool.and_true, Bool.false_eq_true, ↓reduceIte, true_and, and_true, decide_true, decide_false, wipeR]
    by_cases e4 : r = 4
    · simp only [ok_V0, ok_Vs, ok_K, ok_B, ok_U, ok_nil, ok_cons, ok_N, ok_aN, ok_call, ok_nl, ok_fl, ok_afl, ok_T, ok_qNot, ok_qAnd, ok_qOr, ok_and, ok_or, ok_not, ok_if, ok_Sl, ok_oNo, ok_oOf, ok_Ch, ok_it, ok_itA, ok_yes, v_addI, v_sub, v_neg, v_eqI, v_eqS, v_eqB, v_eq0, v_eqT0, v_neI, v_neS, v_neB, v_ne0, v_neT0, v_ltI, v_leI, v_gtI, v_geI, v_is, v_isNot, v_nn, v_ns, v_ni, v_nl, v_nt, v_tb, v_tl, v_tt, v_tn, v_ti, v_asB, v_asI, v_asL, v_asT, v_asS, v_lenL, v_lenT, v_tupL, v_tupT, v_listL, v_listT, v_intB, v_tup0, v_tup1, v_tup2, v_tup3, v_tup4, v_tup5, v_lst0, v_lst1, v_lst2, v_lst3, v_lst4, v_lst5, v_ok0, v_ok1, v_ok2, v_ix0L, v_ix0, v_ix1, v_ix2, v_ix3, v_fs, v_fi, v_fb, v_fn, v_ft, v_f0, v_fc, startR, List.map_cons, List.map_nil, List.length_cons, List.length_nil, List.replicate, List.cons_append, List.nil_append, List.set_cons_zero, List.set_cons_succ, Option.some.injEq, exists_eq_left', Nat.reduceAdd, Nat.reduceSub, Nat.sub_zero, Nat.sub_self, Nat.zero_add, Nat.reduceEqDiff, Bool.not_true, Bool.not_false, if_true, if_false, Bool.and_self, Bool.true_and, Bool.and_true, Bool.false_eq_true, ↓reduceIte, true_and, and_true, decide_true, decide_false, wipeR, e4]
      refine k_ret ?_
      simp only [ok_V0, ok_Vs, ok_K, ok_B, ok_U, ok_nil, ok_cons, ok_N, ok_aN, ok_call, ok_nl, ok_fl, ok_afl, ok_T, ok_qNot, ok_qAnd, ok_qOr, ok_and, ok_or, ok_not, ok_if, ok_Sl, ok_oNo, ok_oOf, ok_Ch, ok_it, ok_itA, ok_yes, v_addI, v_sub, v_neg, v_eqI, v_eqS, v_eqB, v_eq0, v_eqT0, v_neI, v_neS, v_neB, v_ne0, v_neT0, v_ltI, v_leI, v_gtI, v_geI, v_is, v_isNot, v_nn, v_ns, v_ni, v_nl, v_nt, v_tb, v_tl, v_tt, v_tn, v_ti, v_asB, v_asI, v_asL, v_asT, v_asS, v_lenL, v_lenT, v_tupL, v_tupT, v_listL, v_listT, v_intB, v_tup0, v_tup1, v_tup2, v_tup3, v_tup4, v_tup5, v_lst0, v_lst1, v_lst2, v_lst3, v_lst4, v_lst5, v_ok0, v_ok1, v_ok2, v_ix0L, v_ix0, v_ix1, v_ix2, v_ix3, v_fs, v_fi, v_fb, v_fn, v_ft, v_f0, v_fc, startR, List.map_cons, List.map_nil, List.length_cons, List.length_nil, List.replicate, List.cons_append, List.nil_append, List.set_cons_zero, List.set_cons_succ, Option.some.injEq, exists_eq_left', Nat.reduceAdd, Nat.reduceSub, Nat.sub_zero, Nat.sub_self, Nat.zero_add, Nat.reduceEqDiff, Bool.not_true, Bool.not_false, if_true, if_false, Bool.and_self, Bool.true_and, Bool.and_true, Bool.false_eq_true, ↓reduceIte, true_and, and_true, decide_true, decide_false, wipeR, sub]
      refine ih m s1 ts (by omega) (by omega) fun d s' => ?_
      exact q _ _
    simp only [ok_V0, ok_Vs, ok_K, ok_B, ok_U, ok_nil, ok_cons, ok_N, ok_aN, ok_call, ok_nl, ok_fl, ok_afl, ok_T, ok_qNot, ok_qAnd, ok_qOr, ok_and, ok_or, ok_not, ok_if, ok_Sl, ok_oNo, ok_oOf, ok_Ch, ok_it, ok_itA, ok_yes, v_addI, v_sub, v_neg, v_eqI, v_eqS, v_eqB, v_eq0, v_eqT0, v_neI, v_neS, v_neB, v_ne0, v_neT0, v_ltI, v_leI, v_gtI, v_geI, v_is, v_isNot, v_nn, v_ns, v_ni, v_nl, v_nt, v_tb, v_tl, v_tt, v_tn, v_ti, v_asB, v_asI, v_asL, v_asT, v_asS, v_lenL, v_lenT, v_tupL, v_tupT, v_listL, v_listT, v_intB, v_tup0, v_tup1, v_tup2, v_tup3, v_tup4, v_tup5, v_lst0, v_lst1, v_lst2, v_lst3, v_lst4, v_lst5, v_ok0, v_ok1, v_ok2, v_ix0L, v_ix0, v_ix1, v_ix2, v_ix3, v_fs, v_fi, v_fb, v_fn, v_ft, v_f0, v_fc, startR, List.map_cons, List.map_nil, List.length_cons, List.length_nil, List.replicate, List.cons_append, List.nil_append, List.set_cons_zero, List.set_cons_succ, Option.some.injEq, exists_eq_left', Nat.reduceAdd, Nat.reduceSub, Nat.sub_zero, Nat.sub_self, Nat.zero_add, Nat.reduceEqDiff, Bool.not_true, Bool.not_false, if_true, if_false, Bool.and_self, Bool.true_and, Bool.and_true, Bool.false_eq_true, ↓reduceIte, true_and, and_true, decide_true, decide_false, wipeR, e4]
    refine k_nx (k_seq (k_sIf ?_))
    try simp only [ok_V0, ok_Vs, ok_K, ok_B, ok_U, ok_nil, ok_cons, ok_N, ok_aN, ok_call, ok_nl, ok_fl, ok_afl, ok_T, ok_qNot, ok_qAnd, ok_qOr, ok_and, ok_or, ok_not, ok_if, ok_Sl, ok_oNo, ok_oOf, ok_Ch, ok_it, ok_itA, ok_yes, v_addI, v_sub, v_neg, v_eqI, v_eqS, v_eqB, v_eq0, v_eqT0, v_neI, v_neS, v_neB, v_ne0, v_neT0, v_ltI, v_leI, v_gtI, v_geI, v_is, v_isNot, v_nn, v_ns, v_ni, v_nl, v_nt, v_tb, v_tl, v_tt, v_tn, v_ti, v_asB, v_asI, v_asL, v_asT, v_asS, v_lenL, v_lenT, v_tupL, v_tupT, v_listL, v_listT, v_intB, v_tup0, v_tup1, v_tup2, v_tup3, v_tup4, v_tup5, v_lst0, v_lst1, v_lst2, v_lst3, v_lst4, v_lst5, v_ok0, v_ok1, v_ok2, v_ix0L, v_ix0, v_ix1, v_ix2, v_ix3, v_fs, v_fi, v_fb, v_fn, v_ft, v_f0, v_fc, startR, List.map_cons, List.map_nil, List.length_cons, List.length_nil, List.replicate, List.cons_append, List.nil_append, List.set_cons_zero, List.set_cons_succ, Option.some.injEq, exists_eq_left', Nat.reduceAdd, Nat.reduceSub, Nat.sub_zero, Nat.sub_self, Nat.zero_add, Nat.reduceEqDiff, Bool.not_true, Bool.not_false, if_true, if_false, Bool.and_self, Bool.true_and, Bool.and_true, Bool.false_eq_true, ↓reduceIte, true_and, and_true, decide_true, decide_false, wipeR]
    by_cases h9 : r < 9
    · simp only [ok_V0, ok_Vs, ok_K, ok_B, ok_U, ok_nil, ok_cons, ok_N, ok_aN, ok_call, ok_nl, ok_fl, ok_afl, ok_T, ok_qNot, ok_qAnd, ok_qOr, ok_and, ok_or, ok_not, ok_if, ok_Sl, ok_oNo, ok_oOf, ok_Ch, ok_it, ok_itA, ok_yes, v_addI, v_sub, v_neg, v_eqI, v_eqS, v_eqB, v_eq0, v_eqT0, v_neI, v_neS, v_neB, v_ne0, v_neT0, v_ltI, v_leI, v_gtI, v_geI, v_is, v_isNot, v_nn, v_ns, v_ni, v_nl, v_nt, v_tb, v_tl, v_tt, v_tn, v_ti, v_asB, v_asI, v_asL, v_asT, v_asS, v_lenL, v_lenT, v_tupL, v_tupT, v_listL, v_listT, v_intB, v_tup0, v_tup1, v_tup2, v_tup3, v_tup4, v_tup5, v_lst0, v_lst1, v_lst2, v_lst3, v_lst4, v_lst5, v_ok0, v_ok1, v_ok2, v_ix0L, v_ix0, v_ix1, v_ix2, v_ix3, v_fs, v_fi, v_fb, v_fn, v_ft, v_f0, v_fc, startR, List.map_cons, List.map_nil, List.length_cons, List.length_nil, List.replicate, List.cons_append, List.nil_append, List.set_cons_zero, List.set_cons_succ, Option.some.injEq, exists_eq_left', Nat.reduceAdd, Nat.reduceSub, Nat.sub_zero, Nat.sub_self, Nat.zero_add, Nat.reduceEqDiff, Bool.not_true, Bool.not_false, if_true, if_false, Bool.and_self, Bool.true_and, Bool.and_true, Bool.false_eq_true, ↓reduceIte, true_and, and_true, decide_true, decide_false, wipeR, h9]
      refine k_seq (k_set ?_)
      simp only [ok_V0, ok_Vs, ok_K, ok_B, ok_U, ok_nil, ok_cons, ok_N, ok_aN, ok_call, ok_nl, ok_fl, ok_afl, ok_T, ok_qNot, ok_qAnd, ok_qOr, ok_and, ok_or, ok_not, ok_if, ok_Sl, ok_oNo, ok_oOf, ok_Ch, ok_it, ok_itA, ok_yes, v_addI, v_sub, v_neg, v_eqI, v_eqS, v_eqB, v_eq0, v_eqT0, v_neI, v_neS, v_neB, v_ne0, v_neT0, v_ltI, v_leI, v_gtI, v_geI, v_is, v_isNot, v_nn, v_ns, v_ni, v_nl, v_nt, v_tb, v_tl, v_tt, v_tn, v_ti, v_asB, v_asI, v_asL, v_asT, v_asS, v_lenL, v_lenT, v_tupL, v_tupT, v_listL, v_listT, v_intB, v_tup0, v_tup1, v_tup2, v_tup3, v_tup4, v_tup5, v_lst0, v_lst1, v_lst2, v_lst3, v_lst4, v_lst5, v_ok0, v_ok1, v_ok2, v_ix0L, v_ix0, v_ix1, v_ix2, v_ix3, v_fs, v_fi, v_fb, v_fn, v_ft, v_f0, v_fc, startR, List.map_cons, List.map_nil, List.length_cons, List.length_nil, List.replicate, List.cons_append, List.nil_append, List.set_cons_zero, List.set_cons_succ, Option.some.injEq, exists_eq_left', Nat.reduceAdd, Nat.reduceSub, Nat.sub_zero, Nat.sub_self, Nat.zero_add, Nat.reduceEqDiff, Bool.not_true, Bool.not_false, if_true, if_false, Bool.and_self, Bool.true_and, Bool.and_true, Bool.false_eq_true, ↓reduceIte, true_and, and_true, decide_true, decide_false, wipeR, sub]
      refine ih m s1 ts (by omega) (by omega) fun d s2 => k_ret ?_
      simp only [ok_V0, ok_Vs, ok_K, ok_B, ok_U, ok_nil, ok_cons, ok_N, ok_aN, ok_call, ok_nl, ok_fl, ok_afl, ok_T, ok_qNot, ok_qAnd, ok_qOr, ok_and, ok_or, ok_not, ok_if, ok_Sl, ok_oNo, ok_oOf, ok_Ch, ok_it, ok_itA, ok_yes, v_addI, v_sub, v_neg, v_eqI, v_eqS, v_eqB, v_eq0, v_eqT0, v_neI, v_neS, v_neB, v_ne0, v_neT0, v_ltI, v_leI, v_gtI, v_geI, v_is, v_isNot, v_nn, v_ns, v_ni, v_nl, v_nt, v_tb, v_tl, v_tt, v_tn, v_ti, v_asB, v_asI, v_asL, v_asT, v_asS, v_lenL, v_lenT, v_tupL, v_tupT, v_listL, v_listT, v_intB, v_tup0, v_tup1, v_tup2, v_tup3, v_tup4, v_tup5, v_lst0, v_lst1, v_lst2, v_lst3, v_lst4, v_lst5, v_ok0, v_ok1, v_ok2, v_ix0L, v_ix0, v_ix1, v_ix2, v_ix3, v_fs, v_fi, v_fb, v_fn, v_ft, v_f0, v_fc, startR, List.map_cons, List.map_nil, List.length_cons, List.length_nil, List.replicate, List.cons_append, List.nil_append, List.set_cons_zero, List.set_cons_succ, Option.some.injEq, exists_eq_left', Nat.reduceAdd, Nat.reduceSub, Nat.sub_zero, Nat.sub_self, Nat.zero_add, Nat.reduceEqDiff, Bool.not_true, Bool.not_false, if_true, if_false, Bool.and_self, Bool.true_and, Bool.and_true, Bool.false_eq_true, ↓reduceIte, true_and, and_true, decide_true, decide_false, wipeR, sub]
      obtain ⟨z, _, e⟩ := ix_strs (xs := ["and", "or", "if", "if"]) (r := r - 5) (by omega) (by show r - 5 < 4; omega)
      simp only [List.map_cons, List.map_nil] at e
      rw [e]
      try simp only [ok_V0, ok_Vs, ok_K, ok_B, ok_U, ok_nil, ok_cons, ok_N, ok_aN, ok_call, ok_nl, ok_fl, ok_afl, ok_T, ok_qNot, ok_qAnd, ok_qOr, ok_and, ok_or, ok_not, ok_if, ok_Sl, ok_oNo, ok_oOf, ok_Ch, ok_it, ok_itA, ok_yes, v_addI, v_sub, v_neg, v_eqI, v_eqS, v_eqB, v_eq0, v_eqT0, v_neI, v_neS, v_neB, v_ne0, v_neT0, v_ltI, v_leI, v_gtI, v_geI, v_is, v_isNot, v_nn, v_ns, v_ni, v_nl, v_nt, v_tb, v_tl, v_tt, v_tn, v_ti, v_asB, v_asI, v_asL, v_asT, v_asS, v_lenL, v_lenT, v_tupL, v_tupT, v_listL, v_listT, v_intB, v_tup0, v_tup1, v_tup2, v_tup3, v_tup4, v_tup5, v_lst0, v_lst1, v_lst2, v_lst3, v_lst4, v_lst5, v_ok0, v_ok1, v_ok2, v_ix0L, v_ix0, v_ix1, v_ix2, v_ix3, v_fs, v_fi, v_fb, v_fn, v_ft, v_f0, v_fc, startR, List.map_cons, List.map_nil, List.length_cons, List.length_nil, List.replicate, List.cons_append, List.nil_append, List.set_cons_zero, List.set_cons_succ, Option.some.injEq, exists_eq_left', Nat.reduceAdd, Nat.reduceSub, Nat.sub_zero, Nat.sub_self, Nat.zero_add, Nat.reduceEqDiff, Bool.not_true, Bool.not_false, if_true, if_false, Bool.and_self, Bool.true_and, Bool.and_true, Bool.false_eq_true, ↓reduceIte, true_and, and_true, decide_true, decide_false, wipeR]
      refine ih m s2 ts (by omega) (by omega) fun d s' => ?_
      exact q _ _
    simp only [ok_V0, ok_Vs, ok_K, ok_B, ok_U, ok_nil, ok_cons, ok_N, ok_aN, ok_call, ok_nl, ok_fl, ok_afl, ok_T, ok_qNot, ok_qAnd, ok_qOr, ok_and, ok_or, ok_not, ok_if, ok_Sl, ok_oNo, ok_oOf, ok_Ch, ok_it, ok_itA, ok_yes, v_addI, v_sub, v_neg, v_eqI, v_eqS, v_eqB, v_eq0, v_eqT0, v_neI, v_neS, v_neB, v_ne0, v_neT0, v_ltI, v_leI, v_gtI, v_geI, v_is, v_isNot, v_nn, v_ns, v_ni, v_nl, v_nt, v_tb, v_tl, v_tt, v_tn, v_ti, v_asB, v_asI, v_asL, v_asT, v_asS, v_lenL, v_lenT, v_tupL, v_tupT, v_listL, v_listT, v_intB, v_tup0, v_tup1, v_tup2, v_tup3, v_tup4, v_tup5, v_lst0, v_lst1, v_lst2, v_lst3, v_lst4, v_lst5, v_ok0, v_ok1, v_ok2, v_ix0L, v_ix0, v_ix1, v_ix2, v_ix3, v_fs, v_fi, v_fb, v_fn, v_ft, v_f0, v_fc, startR, List.map_cons, List.map_nil, List.length_cons, List.length_nil, List.replicate, List.cons_append, List.nil_append, List.set_cons_zero, List.set_cons_succ, Option.some.injEq, exists_eq_left', Nat.reduceAdd, Nat.reduceSub, Nat.sub_zero, Nat.sub_self, Nat.zero_add, Nat.reduceEqDiff, Bool.not_true, Bool.not_false, if_true, if_false, Bool.and_self, Bool.true_and, Bool.and_true, Bool.false_eq_true, ↓reduceIte, true_and, and_true, decide_true, decide_false, wipeR, h9]
    refine k_nx (k_seq (k_set ?_))
    simp only [ok_V0, ok_Vs, ok_K, ok_B, ok_U, ok_nil, ok_cons, ok_N, ok_aN, ok_call, ok_nl, ok_fl, ok_afl, ok_T, ok_qNot, ok_qAnd, ok_qOr, ok_and, ok_or, ok_not, ok_if, ok_Sl, ok_oNo, ok_oOf, ok_Ch, ok_it, ok_itA, ok_yes, v_addI, v_sub, v_neg, v_eqI, v_eqS, v_eqB, v_eq0, v_eqT0, v_neI, v_neS, v_neB, v_ne0, v_neT0, v_ltI, v_leI, v_gtI, v_geI, v_is, v_isNot, v_nn, v_ns, v_ni, v_nl, v_nt, v_tb, v_tl, v_tt, v_tn, v_ti, v_asB, v_asI, v_asL, v_asT, v_asS, v_lenL, v_lenT, v_tupL, v_tupT, v_listL, v_listT, v_intB, v_tup0, v_tup1, v_tup2, v_tup3, v_tup4, v_tup5, v_lst0, v_lst1, v_lst2, v_lst3, v_lst4, v_lst5, v_ok0, v_ok1, v_ok2, v_ix0L, v_ix0, v_ix1, v_ix2, v_ix3, v_fs, v_fi, v_fb, v_fn, v_ft, v_f0, v_fc, startR, List.map_cons, List.map_nil, List.length_cons, List.length_nil, List.replicate, List.cons_append, List.nil_append, List.set_cons_zero, List.set_cons_succ, Option.some.injEq, exists_eq_left', Nat.reduceAdd, Nat.reduceSub, Nat.sub_zero, Nat.sub_self, Nat.zero_add, Nat.reduceEqDiff, Bool.not_true, Bool.not_false, if_true, if_false, Bool.and_self, Bool.true_and, Bool.and_true, Bool.false_eq_true, ↓reduceIte, true_and, and_true, decide_true, decide_false, wipeR, v_stock3]
    refine k_pick (by omega) (by omega) fun x s2 _ => k_ret ?_
    obtain ⟨z, _, e⟩ := ix_strs (xs := ["every", "every", "some"]) (r := r - 9) (by omega) (by show r - 9 < 3; omega)
    simp only [List.map_cons, List.map_nil] at e
    simp only [ok_V0, ok_Vs, ok_K, ok_B, ok_U, ok_nil, ok_cons, ok_N, ok_aN, ok_call, ok_nl, ok_fl, ok_afl, ok_T, ok_qNot, ok_qAnd, ok_qOr, ok_and, ok_or, ok_not, ok_if, ok_Sl, ok_oNo, ok_oOf, ok_Ch, ok_it, ok_itA, ok_yes, v_addI, v_sub, v_neg, v_eqI, v_eqS, v_eqB, v_eq0, v_eqT0, v_neI, v_neS, v_neB, v_ne0, v_neT0, v_ltI, v_leI, v_gtI, v_geI, v_is, v_isNot, v_nn, v_ns, v_ni, v_nl, v_nt, v_tb, v_tl, v_tt, v_tn, v_ti, v_asB, v_asI, v_asL, v_asT, v_asS, v_lenL, v_lenT, v_tupL, v_tupT, v_listL, v_listT, v_intB, v_tup0, v_tup1, v_tup2, v_tup3, v_tup4, v_tup5, v_lst0, v_lst1, v_lst2, v_lst3, v_lst4, v_lst5, v_ok0, v_ok1, v_ok2, v_ix0L, v_ix0, v_ix1, v_ix2, v_ix3, v_fs, v_fi, v_fb, v_fn, v_ft, v_f0, v_fc, startR, List.map_cons, List.map_nil, List.length_cons, List.length_nil, List.replicate, List.cons_append, List.nil_append, List.set_cons_zero, List.set_cons_succ, Option.some.injEq, exists_eq_left', Nat.reduceAdd, Nat.reduceSub, Nat.sub_zero, Nat.sub_self, Nat.zero_add, Nat.reduceEqDiff, Bool.not_true, Bool.not_false, if_true, if_false, Bool.and_self, Bool.true_and, Bool.and_true, Bool.false_eq_true, ↓reduceIte, true_and, and_true, decide_true, decide_false, wipeR, sub, e]
    rw [show pAdd (.list (ts.map .str)) (.list [.str x]) = some (.list ((ts ++ [x]).map .str)) from by
      rw [v_addL (szL (by simp; omega))]
      simp]
    try simp only [ok_V0, ok_Vs, ok_K, ok_B, ok_U, ok_nil, ok_cons, ok_N, ok_aN, ok_call, ok_nl, ok_fl, ok_afl, ok_T, ok_qNot, ok_qAnd, ok_qOr, ok_and, ok_or, ok_not, ok_if, ok_Sl, ok_oNo, ok_oOf, ok_Ch, ok_it, ok_itA, ok_yes, v_addI, v_sub, v_neg, v_eqI, v_eqS, v_eqB, v_eq0, v_eqT0, v_neI, v_neS, v_neB, v_ne0, v_neT0, v_ltI, v_leI, v_gtI, v_geI, v_is, v_isNot, v_nn, v_ns, v_ni, v_nl, v_nt, v_tb, v_tl, v_tt, v_tn, v_ti, v_asB, v_asI, v_asL, v_asT, v_asS, v_lenL, v_lenT, v_tupL, v_tupT, v_listL, v_listT, v_intB, v_tup0, v_tup1, v_tup2, v_tup3, v_tup4, v_tup5, v_lst0, v_lst1, v_lst2, v_lst3, v_lst4, v_lst5, v_ok0, v_ok1, v_ok2, v_ix0L, v_ix0, v_ix1, v_ix2, v_ix3, v_fs, v_fi, v_fb, v_fn, v_ft, v_f0, v_fc, startR, List.map_cons, List.map_nil, List.length_cons, List.length_nil, List.replicate, List.cons_append, List.nil_append, List.set_cons_zero, List.set_cons_succ, Option.some.injEq, exists_eq_left', Nat.reduceAdd, Nat.reduceSub, Nat.sub_zero, Nat.sub_self, Nat.zero_add, Nat.reduceEqDiff, Bool.not_true, Bool.not_false, if_true, if_false, Bool.and_self, Bool.true_and, Bool.and_true, Bool.false_eq_true, ↓reduceIte, true_and, and_true, decide_true, decide_false, wipeR]
    refine ih m s2 (ts ++ [x]) (by omega) (by simp; omega) fun d s' => ?_
    exact q _ _
end Lw23
set_option Elab.async false
set_option linter.all false
set_option maxRecDepth 100000
set_option maxHeartbeats 4000000
namespace Lw23
open PySem PySem.Spec L2 Dl
theorem v_slT {ds : List D} {lo hi : Option Int} : pSl (.tuple ds) lo hi = some (.tuple (cutD ds lo hi)) := rfl
theorem v_slL {ds : List D} {lo hi : Option Int} : pSl (.list ds) lo hi = some (.list (cutD ds lo hi)) := rfl
theorem cut_len (ds : List D) (lo hi : Option Int) : (cutD ds lo hi).length ≤ ds.length := by
  unfold cutD
  rw [List.length_take, List.length_drop]
  omega
def onesW : List Str := Txt.split (Str.ofString "again left right orleft orright nothing meaning asmany one someof none nomore cover turned soif not contrary forany forsome") " "
def opW : List Str := ["supposed", "any", "called"]
theorem ones_not : ∀ x ∈ onesW, x ∉ opW := by decide +kernel
theorem ones_len : onesW.length = 19 := by decide +kernel
abbrev Freason : Fn DS := K_w_reason Fdraw Fsigns
abbrev Fopener : Fn DS := K_w_opener Fdraw
/-- a reason that opens no box -/
def noOp (d : D) : Prop := ∃ w zs, d = .tuple (.str w :: zs) ∧ w ∉ opW
/-- one of some written words is drawn -/
theorem k_word {ws : List Str} {n : Int} {s : DS} (hn : n = ws.length) (h : 0 < ws.length) (h2 : ws.length ≤ 100000) {Q : D → DS → Prop} (q : ∀ x s', x ∈ ws → Q (.str x) s') : Ok (Fdraw [hnd 0, .int n] s) fun a s => ∃ z, pIx (.list (ws.map .str)) a = some z ∧ Q z s := by
  subst hn
  refine k_draw (by omega) (by omega) fun i s2 i0 i1 => ?_
  obtain ⟨z, hz, e⟩ := ix_strs (xs := ws) i0 i1
  exact ⟨_, e, q _ _ hz⟩
theorem ok_reason {s : DS} {c : Int} (h : 0 < c) (h2 : c < 1073741824) {Q : D → DS → Prop} (q : ∀ d s', noOp d → Q d s') : Ok (Freason [hnd 0, .int c] s) Q := by
  unfold Freason K_w_reason B_w_reason
  refine k_fn (k_seq (k_set ?_))
  try simp only [ok_V0, ok_Vs, ok_K, ok_B, ok_U, ok_nil, ok_cons, ok_N, ok_aN, ok_call, ok_nl, ok_fl, ok_afl, ok_T, ok_qNot, ok_qAnd, ok_qOr, ok_and, ok_or, ok_not, ok_if, ok_Sl, ok_oNo, ok_oOf, ok_Ch, ok_it, ok_itA, ok_yes, v_addI, v_sub, v_neg, v_eqI, v_eqS, v_eqB, v_eq0, v_eqT0, v_neI, v_neS, v_neB, v_ne0, v_neT0, v_ltI, v_leI, v_gtI, v_geI, v_is, v_isNot, v_nn, v_ns, v_ni, v_nl, v_nt, v_tb, v_tl, v_tt, v_tn, v_ti, v_asB, v_asI, v_asL, v_asT, v_asS, v_lenL, v_lenT, v_tupL, v_tupT, v_listL, v_listT, v_intB, v_tup0, v_tup1, v_tup2, v_tup3, v_tup4, v_tup5, v_lst0, v_lst1, v_lst2, v_lst3, v_lst4, v_lst5, v_ok0, v_ok1, v_ok2, v_ix0L, v_ix0, v_ix1, v_ix2, v_ix3, v_fs, v_fi, v_fb, v_fn, v_ft, v_f0, v_fc, startR, List.map_cons, List.map_nil, List.length_cons, List.length_nil, List.replicate, List.cons_append, List.nil_append, List.set_cons_zero, List.set_cons_succ, Option.some.injEq, exists_eq_left', Nat.reduceAdd, Nat.reduceSub, Nat.sub_zero, Nat.sub_self, Nat.zero_add, Nat.reduceEqDiff, Bool.not_true, Bool.not_false, if_true, if_false, Bool.and_self, Bool.true_and, Bool.and_true, Bool.false_eq_true, ↓reduceIte, true_and, and_true, decide_true, decide_false, wipeR]
  refine k_seq (k_set ?_)
  refine Ok.of (a := .list (onesW.map .str)) (s := s) rfl ?_
  try simp only [ok_V0, ok_Vs, ok_K, ok_B, ok_U, ok_nil, ok_cons, ok_N, ok_aN, ok_call, ok_nl, ok_fl, ok_afl, ok_T, ok_qNot, ok_qAnd, ok_qOr, ok_and, ok_or, ok_not, ok_if, ok_Sl, ok_oNo, ok_oOf, ok_Ch, ok_it, ok_itA, ok_yes, v_addI, v_sub, v_neg, v_eqI, v_eqS, v_eqB, v_eq0, v_eqT0, v_neI, v_neS, v_neB, v_ne0, v_neT0, v_ltI, v_leI, v_gtI, v_geI, v_is, v_isNot, v_nn, v_ns, v_ni, v_nl, v_nt, v_tb, v_tl, v_tt, v_tn, v_ti, v_asB, v_asI, v_asL, v_asT, v_asS, v_lenL, v_lenT, v_tupL, v_tupT, v_listL, v_listT, v_intB, v_tup0, v_tup1, v_tup2, v_tup3, v_tup4, v_tup5, v_lst0, v_lst1, v_lst2, v_lst3, v_lst4, v_lst5, v_ok0, v_ok1, v_ok2, v_ix0L, v_ix0, v_ix1, v_ix2, v_ix3, v_fs, v_fi, v_fb, v_fn, v_ft, v_f0, v_fc, startR, List.map_cons, List.map_nil, List.length_cons, List.length_nil, List.replicate, List.cons_append, List.nil_append, List.set_cons_zero, List.set_cons_succ, Option.some.injEq, exists_eq_left', Nat.reduceAdd, Nat.reduceSub, Nat.sub_zero, Nat.sub_self, Nat.zero_add, Nat.reduceEqDiff, Bool.not_true, Bool.not_false, if_true, if_false, Bool.and_self, Bool.true_and, Bool.and_true, Bool.false_eq_true, ↓reduceIte, true_and, and_true, decide_true, decide_false, wipeR]
  refine k_seq (k_set ?_)
  try simp only [ok_V0, ok_Vs, ok_K, ok_B, ok_U, ok_nil, ok_cons, ok_N, ok_aN, ok_call, ok_nl, ok_fl, ok_afl, ok_T, ok_qNot, ok_qAnd, ok_qOr, ok_and, ok_or, ok_not, ok_if, ok_Sl, ok_oNo, ok_oOf, ok_Ch, ok_it, ok_itA, ok_yes, v_addI, v_sub, v_neg, v_eqI, v_eqS, v_eqB, v_eq0, v_eqT0, v_neI, v_neS, v_neB, v_ne0, v_neT0, v_ltI, v_leI, v_gtI, v_geI, v_is, v_isNot, v_nn, v_ns, v_ni, v_nl, v_nt, v_tb, v_tl, v_tt, v_tn, v_ti, v_asB, v_asI, v_asL, v_asT, v_asS, v_lenL, v_lenT, v_tupL, v_tupT, v_listL, v_listT, v_intB, v_tup0, v_tup1, v_tup2, v_tup3, v_tup4, v_tup5, v_lst0, v_lst1, v_lst2, v_lst3, v_lst4, v_lst5, v_ok0, v_ok1, v_ok2, v_ix0L, v_ix0, v_ix1, v_ix2, v_ix3, v_fs, v_fi, v_fb, v_fn, v_ft, v_f0, v_fc, startR, List.map_cons, List.map_nil, List.length_cons, List.length_nil, List.replicate, List.cons_append, List.nil_append, List.set_cons_zero, List.set_cons_succ, Option.some.injEq, exists_eq_left', Nat.reduceAdd, Nat.reduceSub, Nat.sub_zero, Nat.sub_self, Nat.zero_add, Nat.reduceEqDiff, Bool.not_true, Bool.not_false, if_true, if_false, Bool.and_self, Bool.true_and, Bool.and_true, Bool.false_eq_true, ↓reduceIte, true_and, and_true, decide_true, decide_false, wipeR]
  refine k_lcP (fun ds _ => ds = rngD 0 3) ?_ ?_
  · simp only [ok_V0, ok_Vs, ok_K, ok_B, ok_U, ok_nil, ok_cons, ok_N, ok_aN, ok_call, ok_nl, ok_fl, ok_afl, ok_T, ok_qNot, ok_qAnd, ok_qOr, ok_and, ok_or, ok_not, ok_if, ok_Sl, ok_oNo, ok_oOf, ok_Ch, ok_it, ok_itA, ok_yes, v_addI, v_sub, v_neg, v_eqI, v_eqS, v_eqB, v_eq0, v_eqT0, v_neI, v_neS, v_neB, v_ne0, v_neT0, v_ltI, v_leI, v_gtI, v_geI, v_is, v_isNot, v_nn, v_ns, v_ni, v_nl, v_nt, v_tb, v_tl, v_tt, v_tn, v_ti, v_asB, v_asI, v_asL, v_asT, v_asS, v_lenL, v_lenT, v_tupL, v_tupT, v_listL, v_listT, v_intB, v_tup0, v_tup1, v_tup2, v_tup3, v_tup4, v_tup5, v_lst0, v_lst1, v_lst2, v_lst3, v_lst4, v_lst5, v_ok0, v_ok1, v_ok2, v_ix0L, v_ix0, v_ix1, v_ix2, v_ix3, v_fs, v_fi, v_fb, v_fn, v_ft, v_f0, v_fc, startR, List.map_cons, List.map_nil, List.length_cons, List.length_nil, List.replicate, List.cons_append, List.nil_append, List.set_cons_zero, List.set_cons_succ, Option.some.injEq, exists_eq_left', Nat.reduceAdd, Nat.reduceSub, Nat.sub_zero, Nat.sub_self, Nat.zero_add, Nat.reduceEqDiff, Bool.not_true, Bool.not_false, if_true, if_false, Bool.and_self, Bool.true_and, Bool.and_true, Bool.false_eq_true, ↓reduceIte, true_and, and_true, decide_true, decide_false, wipeR, pr1 (j := 3) (by decide) (by decide)]
    rfl
  rintro _ s1 rfl
  refine ⟨by rw [rng_len]; exact szL (by omega), fun j acc _ => ∃ ns : List Int, acc = ns.map .int ∧ ns.length = j, ⟨[], rfl, rfl⟩, ?_, ?_⟩
  · rintro j d acc s hd ⟨ns, rfl, hl⟩
    refine ⟨_, rfl, ?_⟩
    simp only [ok_V0, ok_Vs, ok_K, ok_B, ok_U, ok_nil, ok_cons, ok_N, ok_aN, ok_call, ok_nl, ok_fl, ok_afl, ok_T, ok_qNot, ok_qAnd, ok_qOr, ok_and, ok_or, ok_not, ok_if, ok_Sl, ok_oNo, ok_oOf, ok_Ch, ok_it, ok_itA, ok_yes, v_addI, v_sub, v_neg, v_eqI, v_eqS, v_eqB, v_eq0, v_eqT0, v_neI, v_neS, v_neB, v_ne0, v_neT0, v_ltI, v_leI, v_gtI, v_geI, v_is, v_isNot, v_nn, v_ns, v_ni, v_nl, v_nt, v_tb, v_tl, v_tt, v_tn, v_ti, v_asB, v_asI, v_asL, v_asT, v_asS, v_lenL, v_lenT, v_tupL, v_tupT, v_listL, v_listT, v_intB, v_tup0, v_tup1, v_tup2, v_tup3, v_tup4, v_tup5, v_lst0, v_lst1, v_lst2, v_lst3, v_lst4, v_lst5, v_ok0, v_ok1, v_ok2, v_ix0L, v_ix0, v_ix1, v_ix2, v_ix3, v_fs, v_fi, v_fb, v_fn, v_ft, v_f0, v_fc, startR, List.map_cons, List.map_nil, List.length_cons, List.length_nil, List.replicate, List.cons_append, List.nil_append, List.set_cons_zero, List.set_cons_succ, Option.some.injEq, exists_eq_left', Nat.reduceAdd, Nat.reduceSub, Nat.sub_zero, Nat.sub_self, Nat.zero_add, Nat.reduceEqDiff, Bool.not_true, Bool.not_false, if_true, if_false, Bool.and_self, Bool.true_and, Bool.and_true, Bool.false_eq_true, ↓reduceIte, true_and, and_true, decide_true, decide_false, wipeR]
    refine k_draw h h2 fun r s2 r0 r1 => ?_
    exact ⟨_, rfl, ns ++ [1 + r], by simp, by simp [hl]⟩
  rintro acc s2 ⟨ns, rfl, hl⟩
  rw [rng_len] at hl
  obtain ⟨n1, n2, n3, rfl⟩ : ∃ a b c : Int, ns = [a, b, c] := by
    match ns, hl with
    | [a, b, c], _ => exact ⟨a, b, c, rfl⟩
  try simp only [ok_V0, ok_Vs, ok_K, ok_B, ok_U, ok_nil, ok_cons, ok_N, ok_aN, ok_call, ok_nl, ok_fl, ok_afl, ok_T, ok_qNot, ok_qAnd, ok_qOr, ok_and, ok_or, ok_not, ok_if, ok_Sl, ok_oNo, ok_oOf, ok_Ch, ok_it, ok_itA, ok_yes, v_addI, v_sub, v_neg, v_eqI, v_eqS, v_eqB, v_eq0, v_eqT0, v_neI, v_neS, v_neB, v_ne0, v_neT0, v_ltI, v_leI, v_gtI, v_geI, v_is, v_isNot, v_nn, v_ns, v_ni, v_nl, v_nt, v_tb, v_tl, v_tt, v_tn, v_ti, v_asB, v_asI, v_asL, v_asT, v_asS, v_lenL, v_lenT, v_tupL, v_tupT, v_listL, v_listT, v_intB, v_tup0, v_tup1, v_tup2, v_tup3, v_tup4, v_tup5, v_lst0, v_lst1, v_lst2, v_lst3, v_lst4, v_lst5, v_ok0, v_ok1, v_ok2, v_ix0L, v_ix0, v_ix1, v_ix2, v_ix3, v_fs, v_fi, v_fb, v_fn, v_ft, v_f0, v_fc, startR, List.map_cons, List.map_nil, List.length_cons, List.length_nil, List.replicate, List.cons_append, List.nil_append, List.set_cons_zero, List.set_cons_succ, Option.some.injEq, exists_eq_left', Nat.reduceAdd, Nat.reduceSub, Nat.sub_zero, Nat.sub_self, Nat.zero_add, Nat.reduceEqDiff, Bool.not_true, Bool.not_false, if_true, if_false, Bool.and_self, Bool.true_and, Bool.and_true, Bool.false_eq_true, ↓reduceIte, true_and, and_true, decide_true, decide_false, wipeR]
  refine k_seq (k_set ?_)
  simp only [ok_V0, ok_Vs, ok_K, ok_B, ok_U, ok_nil, ok_cons, ok_N, ok_aN, ok_call, ok_nl, ok_fl, ok_afl, ok_T, ok_qNot, ok_qAnd, ok_qOr, ok_and, ok_or, ok_not, ok_if, ok_Sl, ok_oNo, ok_oOf, ok_Ch, ok_it, ok_itA, ok_yes, v_addI, v_sub, v_neg, v_eqI, v_eqS, v_eqB, v_eq0, v_eqT0, v_neI, v_neS, v_neB, v_ne0, v_neT0, v_ltI, v_leI, v_gtI, v_geI, v_is, v_isNot, v_nn, v_ns, v_ni, v_nl, v_nt, v_tb, v_tl, v_tt, v_tn, v_ti, v_asB, v_asI, v_asL, v_asT, v_asS, v_lenL, v_lenT, v_tupL, v_tupT, v_listL, v_listT, v_intB, v_tup0, v_tup1, v_tup2, v_tup3, v_tup4, v_tup5, v_lst0, v_lst1, v_lst2, v_lst3, v_lst4, v_lst5, v_ok0, v_ok1, v_ok2, v_ix0L, v_ix0, v_ix1, v_ix2, v_ix3, v_fs, v_fi, v_fb, v_fn, v_ft, v_f0, v_fc, startR, List.map_cons, List.map_nil, List.length_cons, List.length_nil, List.replicate, List.cons_append, List.nil_append, List.set_cons_zero, List.set_cons_succ, Option.some.injEq, exists_eq_left', Nat.reduceAdd, Nat.reduceSub, Nat.sub_zero, Nat.sub_self, Nat.zero_add, Nat.reduceEqDiff, Bool.not_true, Bool.not_false, if_true, if_false, Bool.and_self, Bool.true_and, Bool.and_true, Bool.false_eq_true, ↓reduceIte, true_and, and_true, decide_true, decide_false, wipeR]
  refine k_draw (by omega) (by omega) fun r s3 r0 r1 => ?_
  simp only [ok_V0, ok_Vs, ok_K, ok_B, ok_U, ok_nil, ok_cons, ok_N, ok_aN, ok_call, ok_nl, ok_fl, ok_afl, ok_T, ok_qNot, ok_qAnd, ok_qOr, ok_and, ok_or, ok_not, ok_if, ok_Sl, ok_oNo, ok_oOf, ok_Ch, ok_it, ok_itA, ok_yes, v_addI, v_sub, v_neg, v_eqI, v_eqS, v_eqB, v_eq0, v_eqT0, v_neI, v_neS, v_neB, v_ne0, v_neT0, v_ltI, v_leI, v_gtI, v_geI, v_is, v_isNot, v_nn, v_ns, v_ni, v_nl, v_nt, v_tb, v_tl, v_tt, v_tn, v_ti, v_asB, v_asI, v_asL, v_asT, v_asS, v_lenL, v_lenT, v_tupL, v_tupT, v_listL, v_listT, v_intB, v_tup0, v_tup1, v_tup2, v_tup3, v_tup4, v_tup5, v_lst0, v_lst1, v_lst2, v_lst3, v_lst4, v_lst5, v_ok0, v_ok1, v_ok2, v_ix0L, v_ix0, v_ix1, v_ix2, v_ix3, v_fs, v_fi, v_fb, v_fn, v_ft, v_f0, v_fc, startR, List.map_cons, List.map_nil, List.length_cons, List.length_nil, List.replicate, List.cons_append, List.nil_append, List.set_cons_zero, List.set_cons_succ, Option.some.injEq, exists_eq_left', Nat.reduceAdd, Nat.reduceSub, Nat.sub_zero, Nat.sub_self, Nat.zero_add, Nat.reduceEqDiff, Bool.not_true, Bool.not_false, if_true, if_false, Bool.and_self, Bool.true_and, Bool.and_true, Bool.false_eq_true, ↓reduceIte, true_and, and_true, decide_true, decide_false, wipeR, v_slT]
  generalize hfew : cutD [PyData.int n1, PyData.int n2, PyData.int n3] none (some (1 + r)) = few
  have hfl : few.length ≤ 3 := by rw [← hfew]; exact cut_len _ _ _
  refine k_seq (k_set ?_)
  try simp only [ok_V0, ok_Vs, ok_K, ok_B, ok_U, ok_nil, ok_cons, ok_N, ok_aN, ok_call, ok_nl, ok_fl, ok_afl, ok_T, ok_qNot, ok_qAnd, ok_qOr, ok_and, ok_or, ok_not, ok_if, ok_Sl, ok_oNo, ok_oOf, ok_Ch, ok_it, ok_itA, ok_yes, v_addI, v_sub, v_neg, v_eqI, v_eqS, v_eqB, v_eq0, v_eqT0, v_neI, v_neS, v_neB, v_ne0, v_neT0, v_ltI, v_leI, v_gtI, v_geI, v_is, v_isNot, v_nn, v_ns, v_ni, v_nl, v_nt, v_tb, v_tl, v_tt, v_tn, v_ti, v_asB, v_asI, v_asL, v_asT, v_asS, v_lenL, v_lenT, v_tupL, v_tupT, v_listL, v_listT, v_intB, v_tup0, v_tup1, v_tup2, v_tup3, v_tup4, v_tup5, v_lst0, v_lst1, v_lst2, v_lst3, v_lst4, v_lst5, v_ok0, v_ok1, v_ok2, v_ix0L, v_ix0, v_ix1, v_ix2, v_ix3, v_fs, v_fi, v_fb, v_fn, v_ft, v_f0, v_fc, startR, List.map_cons, List.map_nil, List.length_cons, List.length_nil, List.replicate, List.cons_append, List.nil_append, List.set_cons_zero, List.set_cons_succ, Option.some.injEq, exists_eq_left', Nat.reduceAdd, Nat.reduceSub, Nat.sub_zero, Nat.sub_self, Nat.zero_add, Nat.reduceEqDiff, Bool.not_true, Bool.not_false, if_true, if_false, Bool.and_self, Bool.true_and, Bool.and_true, Bool.false_eq_true, ↓reduceIte, true_and, and_true, decide_true, decide_false, wipeR]
  refine k_draw (by omega) (by omega) fun w s4 w0 w1 => k_seq (k_sIf ?_)
  try simp only [ok_V0, ok_Vs, ok_K, ok_B, ok_U, ok_nil, ok_cons, ok_N, ok_aN, ok_call, ok_nl, ok_fl, ok_afl, ok_T, ok_qNot, ok_qAnd, ok_qOr, ok_and, ok_or, ok_not, ok_if, ok_Sl, ok_oNo, ok_oOf, ok_Ch, ok_it, ok_itA, ok_yes, v_addI, v_sub, v_neg, v_eqI, v_eqS, v_eqB, v_eq0, v_eqT0, v_neI, v_neS, v_neB, v_ne0, v_neT0, v_ltI, v_leI, v_gtI, v_geI, v_is, v_isNot, v_nn, v_ns, v_ni, v_nl, v_nt, v_tb, v_tl, v_tt, v_tn, v_ti, v_asB, v_asI, v_asL, v_asT, v_asS, v_lenL, v_lenT, v_tupL, v_tupT, v_listL, v_listT, v_intB, v_tup0, v_tup1, v_tup2, v_tup3, v_tup4, v_tup5, v_lst0, v_lst1, v_lst2, v_lst3, v_lst4, v_lst5, v_ok0, v_ok1, v_ok2, v_ix0L, v_ix0, v_ix1, v_ix2, v_ix3, v_fs, v_fi, v_fb, v_fn, v_ft, v_f0, v_fc, startR, List.map_cons, List.map_nil, List.length_cons, List.length_nil, List.replicate, List.cons_append, List.nil_append, List.set_cons_zero, List.set_cons_succ, Option.some.injEq, exists_eq_left', Nat.reduceAdd, Nat.reduceSub, Nat.sub_zero, Nat.sub_self, Nat.zero_add, Nat.reduceEqDiff, Bool.not_true, Bool.not_false, if_true, if_false, Bool.and_self, Bool.true_and, Bool.and_true, Bool.false_eq_true, ↓reduceIte, true_and, and_true, decide_true, decide_false, wipeR]
  by_cases e0 : w = 0
  · simp only [ok_V0, ok_Vs, ok_K, ok_B, ok_U, ok_nil, ok_cons, ok_N, ok_aN, ok_call, ok_nl, ok_fl, ok_afl, ok_T, ok_qNot, ok_qAnd, ok_qOr, ok_and, ok_or, ok_not, ok_if, ok_Sl, ok_oNo, ok_oOf, ok_Ch, ok_it, ok_itA, ok_yes, v_addI, v_sub, v_neg, v_eqI, v_eqS, v_eqB, v_eq0, v_eqT0, v_neI, v_neS, v_neB, v_ne0, v_neT0, v_ltI, v_leI, v_gtI, v_geI, v_is, v_isNot, v_nn, v_ns, v_ni, v_nl, v_nt, v_tb, v_tl, v_tt, v_tn, v_ti, v_asB, v_asI, v_asL, v_asT, v_asS, v_lenL, v_lenT, v_tupL, v_tupT, v_listL, v_listT, v_intB, v_tup0, v_tup1, v_tup2, v_tup3, v_tup4, v_tup5, v_lst0, v_lst1, v_lst2, v_lst3, v_lst4, v_lst5, v_ok0, v_ok1, v_ok2, v_ix0L, v_ix0, v_ix1, v_ix2, v_ix3, v_fs, v_fi, v_fb, v_fn, v_ft, v_f0, v_fc, startR, List.map_cons, List.map_nil, List.length_cons, List.length_nil, List.replicate, List.cons_append, List.nil_append, List.set_cons_zero, List.set_cons_succ, Option.some.injEq, exists_eq_left', Nat.reduceAdd, Nat.reduceSub, Nat.sub_zero, Nat.sub_self, Nat.zero_add, Nat.reduceEqDiff, Bool.not_true, Bool.not_false, if_true, if_false, Bool.and_self, Bool.true_and, Bool.and_true, Bool.false_eq_true, ↓reduceIte, true_and, and_true, decide_true, decide_false, wipeR, e0]
    refine k_ret ?_
    try simp only [ok_V0, ok_Vs, ok_K, ok_B, ok_U, ok_nil, ok_cons, ok_N, ok_aN, ok_call, ok_nl, ok_fl, ok_afl, ok_T, ok_qNot, ok_qAnd, ok_qOr, ok_and, ok_or, ok_not, ok_if, ok_Sl, ok_oNo, ok_oOf, ok_Ch, ok_it, ok_itA, ok_yes, v_addI, v_sub, v_neg, v_eqI, v_eqS, v_eqB, v_eq0, v_eqT0, v_neI, v_neS, v_neB, v_ne0, v_neT0, v_ltI, v_leI, v_gtI, v_geI, v_is, v_isNot, v_nn, v_ns, v_ni, v_nl, v_nt, v_tb, v_tl, v_tt, v_tn, v_ti, v_asB, v_asI, v_asL, v_asT, v_asS, v_lenL, v_lenT, v_tupL, v_tupT, v_listL, v_listT, v_intB, v_tup0, v_tup1, v_tup2, v_tup3, v_tup4, v_tup5, v_lst0, v_lst1, v_lst2, v_lst3, v_lst4, v_lst5, v_ok0, v_ok1, v_ok2, v_ix0L, v_ix0, v_ix1, v_ix2, v_ix3, v_fs, v_fi, v_fb, v_fn, v_ft, v_f0, v_fc, startR, List.map_cons, List.map_nil, List.length_cons, List.length_nil, List.replicate, List.cons_append, List.nil_append, List.set_cons_zero, List.set_cons_succ, Option.some.injEq, exists_eq_left', Nat.reduceAdd, Nat.reduceSub, Nat.sub_zero, Nat.sub_self, Nat.zero_add, Nat.reduceEqDiff, Bool.not_true, Bool.not_false, if_true, if_false, Bool.and_self, Bool.true_and, Bool.and_true, Bool.false_eq_true, ↓reduceIte, true_and, and_true, decide_true, decide_false, wipeR]
    refine k_word (ws := ["given", "itself", "clearly"]) rfl (by decide) (by decide) fun x s5 hx => ?_
    exact q _ _ ⟨x, _, rfl, (by decide : ∀ x ∈ (["given", "itself", "clearly"] : List Str), x ∉ opW) x hx⟩
  simp only [ok_V0, ok_Vs, ok_K, ok_B, ok_U, ok_nil, ok_cons, ok_N, ok_aN, ok_call, ok_nl, ok_fl, ok_afl, ok_T, ok_qNot, ok_qAnd, ok_qOr, ok_and, ok_or, ok_not, ok_if, ok_Sl, ok_oNo, ok_oOf, ok_Ch, ok_it, ok_itA, ok_yes, v_addI, v_sub, v_neg, v_eqI, v_eqS, v_eqB, v_eq0, v_eqT0, v_neI, v_neS, v_neB, v_ne0, v_neT0, v_ltI, v_leI, v_gtI, v_geI, v_is, v_isNot, v_nn, v_ns, v_ni, v_nl, v_nt, v_tb, v_tl, v_tt, v_tn, v_ti, v_asB, v_asI, v_asL, v_asT, v_asS, v_lenL, v_lenT, v_tupL, v_tupT, v_listL, v_listT, v_intB, v_tup0, v_tup1, v_tup2, v_tup3, v_tup4, v_tup5, v_lst0, v_lst1, v_lst2, v_lst3, v_lst4, v_lst5, v_ok0, v_ok1, v_ok2, v_ix0L, v_ix0, v_ix1, v_ix2, v_ix3, v_fs, v_fi, v_fb, v_fn, v_ft, v_f0, v_fc, startR, List.map_cons, List.map_nil, List.length_cons, List.length_nil, List.replicate, List.cons_append, List.nil_append, List.set_cons_zero, List.set_cons_succ, Option.some.injEq, exists_eq_left', Nat.reduceAdd, Nat.reduceSub, Nat.sub_zero, Nat.sub_self, Nat.zero_add, Nat.reduceEqDiff, Bool.not_true, Bool.not_false, if_true, if_false, Bool.and_self, Bool.true_and, Bool.and_true, Bool.false_eq_true, ↓reduceIte, true_and, and_true, decide_true, decide_false, wipeR, e0]
  refine k_nx (k_seq (k_sIf ?_))
  try simp only [ok_V0, ok_Vs, ok_K, ok_B, ok_U, ok_nil, ok_cons, ok_N, ok_aN, ok_call, ok_nl, ok_fl, ok_afl, ok_T, ok_qNot, ok_qAnd, ok_qOr, ok_and, ok_or, ok_not, ok_if, ok_Sl, ok_oNo, ok_oOf, ok_Ch, ok_it, ok_itA, ok_yes, v_addI, v_sub, v_neg, v_eqI, v_eqS, v_eqB, v_eq0, v_eqT0, v_neI, v_neS, v_neB, v_ne0, v_neT0, v_ltI, v_leI, v_gtI, v_geI, v_is, v_isNot, v_nn, v_ns, v_ni, v_nl, v_nt, v_tb, v_tl, v_tt, v_tn, v_ti, v_asB, v_asI, v_asL, v_asT, v_asS, v_lenL, v_lenT, v_tupL, v_tupT, v_listL, v_listT, v_intB, v_tup0, v_tup1, v_tup2, v_tup3, v_tup4, v_tup5, v_lst0, v_lst1, v_lst2, v_lst3, v_lst4, v_lst5, v_ok0, v_ok1, v_ok2, v_ix0L, v_ix0, v_ix1, v_ix2, v_ix3, v_fs, v_fi, v_fb, v_fn, v_ft, v_f0, v_fc, startR, List.map_cons, List.map_nil, List.length_cons, List.length_nil, List.replicate, List.cons_append, List.nil_append, List.set_cons_zero, List.set_cons_succ, Option.some.injEq, exists_eq_left', Nat.reduceAdd, Nat.reduceSub, Nat.sub_zero, Nat.sub_self, Nat.zero_add, Nat.reduceEqDiff, Bool.not_true, Bool.not_false, if_true, if_false, Bool.and_self, Bool.true_and, Bool.and_true, Bool.false_eq_true, ↓reduceIte, true_and, and_true, decide_true, decide_false, wipeR]
  by_cases e1 : w < 4
  · simp only [ok_V0, ok_Vs, ok_K, ok_B, ok_U, ok_nil, ok_cons, ok_N, ok_aN, ok_call, ok_nl, ok_fl, ok_afl, ok_T, ok_qNot, ok_qAnd, ok_qOr, ok_and, ok_or, ok_not, ok_if, ok_Sl, ok_oNo, ok_oOf, ok_Ch, ok_it, ok_itA, ok_yes, v_addI, v_sub, v_neg, v_eqI, v_eqS, v_eqB, v_eq0, v_eqT0, v_neI, v_neS, v_neB, v_ne0, v_neT0, v_ltI, v_leI, v_gtI, v_geI, v_is, v_isNot, v_nn, v_ns, v_ni, v_nl, v_nt, v_tb, v_tl, v_tt, v_tn, v_ti, v_asB, v_asI, v_asL, v_asT, v_asS, v_lenL, v_lenT, v_tupL, v_tupT, v_listL, v_listT, v_intB, v_tup0, v_tup1, v_tup2, v_tup3, v_tup4, v_tup5, v_lst0, v_lst1, v_lst2, v_lst3, v_lst4, v_lst5, v_ok0, v_ok1, v_ok2, v_ix0L, v_ix0, v_ix1, v_ix2, v_ix3, v_fs, v_fi, v_fb, v_fn, v_ft, v_f0, v_fc, startR, List.map_cons, List.map_nil, List.length_cons, List.length_nil, List.replicate, List.cons_append, List.nil_append, List.set_cons_zero, List.set_cons_succ, Option.some.injEq, exists_eq_left', Nat.reduceAdd, Nat.reduceSub, Nat.sub_zero, Nat.sub_self, Nat.zero_add, Nat.reduceEqDiff, Bool.not_true, Bool.not_false, if_true, if_false, Bool.and_self, Bool.true_and, Bool.and_true, Bool.false_eq_true, ↓reduceIte, true_and, and_true, decide_true, decide_false, wipeR, e1]
    refine k_ret ?_
    try simp only [ok_V0, ok_Vs, ok_K, ok_B, ok_U, ok_nil, ok_cons, ok_N, ok_aN, ok_call, ok_nl, ok_fl, ok_afl, ok_T, ok_qNot, ok_qAnd, ok_qOr, ok_and, ok_or, ok_not, ok_if, ok_Sl, ok_oNo, ok_oOf, ok_Ch, ok_it, ok_itA, ok_yes, v_addI, v_sub, v_neg, v_eqI, v_eqS, v_eqB, v_eq0, v_eqT0, v_neI, v_neS, v_neB, v_ne0, v_neT0, v_ltI, v_leI, v_gtI, v_geI, v_is, v_isNot, v_nn, v_ns, v_ni, v_nl, v_nt, v_tb, v_tl, v_tt, v_tn, v_ti, v_asB, v_asI, v_asL, v_asT, v_asS, v_lenL, v_lenT, v_tupL, v_tupT, v_listL, v_listT, v_intB, v_tup0, v_tup1, v_tup2, v_tup3, v_tup4, v_tup5, v_lst0, v_lst1, v_lst2, v_lst3, v_lst4, v_lst5, v_ok0, v_ok1, v_ok2, v_ix0L, v_ix0, v_ix1, v_ix2, v_ix3, v_fs, v_fi, v_fb, v_fn, v_ft, v_f0, v_fc, startR, List.map_cons, List.map_nil, List.length_cons, List.length_nil, List.replicate, List.cons_append, List.nil_append, List.set_cons_zero, List.set_cons_succ, Option.some.injEq, exists_eq_left', Nat.reduceAdd, Nat.reduceSub, Nat.sub_zero, Nat.sub_self, Nat.zero_add, Nat.reduceEqDiff, Bool.not_true, Bool.not_false, if_true, if_false, Bool.and_self, Bool.true_and, Bool.and_true, Bool.false_eq_true, ↓reduceIte, true_and, and_true, decide_true, decide_false, wipeR]
    refine k_pick (by rw [ones_len]; omega) (by rw [ones_len]; omega) fun x s5 hx => ?_
    exact q _ _ ⟨x, _, rfl, ones_not x hx⟩
  simp only [ok_V0, ok_Vs, ok_K, ok_B, ok_U, ok_nil, ok_cons, ok_N, ok_aN, ok_call, ok_nl, ok_fl, ok_afl, ok_T, ok_qNot, ok_qAnd, ok_qOr, ok_and, ok_or, ok_not, ok_if, ok_Sl, ok_oNo, ok_oOf, ok_Ch, ok_it, ok_itA, ok_yes, v_addI, v_sub, v_neg, v_eqI, v_eqS, v_eqB, v_eq0, v_eqT0, v_neI, v_neS, v_neB, v_ne0, v_neT0, v_ltI, v_leI, v_gtI, v_geI, v_is, v_isNot, v_nn, v_ns, v_ni, v_nl, v_nt, v_tb, v_tl, v_tt, v_tn, v_ti, v_asB, v_asI, v_asL, v_asT, v_asS, v_lenL, v_lenT, v_tupL, v_tupT, v_listL, v_listT, v_intB, v_tup0, v_tup1, v_tup2, v_tup3, v_tup4, v_tup5, v_lst0, v_lst1, v_lst2, v_lst3, v_lst4, v_lst5, v_ok0, v_ok1, v_ok2, v_ix0L, v_ix0, v_ix1, v_ix2, v_ix3, v_fs, v_fi, v_fb, v_fn, v_ft, v_f0, v_fc, startR, List.map_cons, List.map_nil, List.length_cons, List.length_nil, List.replicate, List.cons_append, List.nil_append, List.set_cons_zero, List.set_cons_succ, Option.some.injEq, exists_eq_left', Nat.reduceAdd, Nat.reduceSub, Nat.sub_zero, Nat.sub_self, Nat.zero_add, Nat.reduceEqDiff, Bool.not_true, Bool.not_false, if_true, if_false, Bool.and_self, Bool.true_and, Bool.and_true, Bool.false_eq_true, ↓reduceIte, true_and, and_true, decide_true, decide_false, wipeR, e1]
  refine k_nx (k_seq (k_sIf ?_))
  try simp only [ok_V0, ok_Vs, ok_K, ok_B, ok_U, ok_nil, ok_cons, ok_N, ok_aN, ok_call, ok_nl, ok_fl, ok_afl, ok_T, ok_qNot, ok_qAnd, ok_qOr, ok_and, ok_or, ok_not, ok_if, ok_Sl, ok_oNo, ok_oOf, ok_Ch, ok_it, ok_itA, ok_yes, v_addI, v_sub, v_neg, v_eqI, v_eqS, v_eqB, v_eq0, v_eqT0, v_neI, v_neS, v_neB, v_ne0, v_neT0, v_ltI, v_leI, v_gtI, v_geI, v_is, v_isNot, v_nn, v_ns, v_ni, v_nl, v_nt, v_tb, v_tl, v_tt, v_tn, v_ti, v_asB, v_asI, v_asL, v_asT, v_asS, v_lenL, v_lenT, v_tupL, v_tupT, v_listL, v_listT, v_intB, v_tup0, v_tup1, v_tup2, v_tup3, v_tup4, v_tup5, v_lst0, v_lst1, v_lst2, v_lst3, v_lst4, v_lst5, v_ok0, v_ok1, v_ok2, v_ix0L, v_ix0, v_ix1, v_ix2, v_ix3, v_fs, v_fi, v_fb, v_fn, v_ft, v_f0, v_fc, startR, List.map_cons, List.map_nil, List.length_cons, List.length_nil, List.replicate, List.cons_append, List.nil_append, List.set_cons_zero, List.set_cons_succ, Option.some.injEq, exists_eq_left', Nat.reduceAdd, Nat.reduceSub, Nat.sub_zero, Nat.sub_self, Nat.zero_add, Nat.reduceEqDiff, Bool.not_true, Bool.not_false, if_true, if_false, Bool.and_self, Bool.true_and, Bool.and_true, Bool.false_eq_true, ↓reduceIte, true_and, and_true, decide_true, decide_false, wipeR]
  by_cases e4 : w = 4
  · simp only [ok_V0, ok_Vs, ok_K, ok_B, ok_U, ok_nil, ok_cons, ok_N, ok_aN, ok_call, ok_nl, ok_fl, ok_afl, ok_T, ok_qNot, ok_qAnd, ok_qOr, ok_and, ok_or, ok_not, ok_if, ok_Sl, ok_oNo, ok_oOf, ok_Ch, ok_it, ok_itA, ok_yes, v_addI, v_sub, v_neg, v_eqI, v_eqS, v_eqB, v_eq0, v_eqT0, v_neI, v_neS, v_neB, v_ne0, v_neT0, v_ltI, v_leI, v_gtI, v_geI, v_is, v_isNot, v_nn, v_ns, v_ni, v_nl, v_nt, v_tb, v_tl, v_tt, v_tn, v_ti, v_asB, v_asI, v_asL, v_asT, v_asS, v_lenL, v_lenT, v_tupL, v_tupT, v_listL, v_listT, v_intB, v_tup0, v_tup1, v_tup2, v_tup3, v_tup4, v_tup5, v_lst0, v_lst1, v_lst2, v_lst3, v_lst4, v_lst5, v_ok0, v_ok1, v_ok2, v_ix0L, v_ix0, v_ix1, v_ix2, v_ix3, v_fs, v_fi, v_fb, v_fn, v_ft, v_f0, v_fc, startR, List.map_cons, List.map_nil, List.length_cons, List.length_nil, List.replicate, List.cons_append, List.nil_append, List.set_cons_zero, List.set_cons_succ, Option.some.injEq, exists_eq_left', Nat.reduceAdd, Nat.reduceSub, Nat.sub_zero, Nat.sub_self, Nat.zero_add, Nat.reduceEqDiff, Bool.not_true, Bool.not_false, if_true, if_false, Bool.and_self, Bool.true_and, Bool.and_true, Bool.false_eq_true, ↓reduceIte, true_and, and_true, decide_true, decide_false, wipeR, e4]
    refine k_ret ?_
    try simp only [ok_V0, ok_Vs, ok_K, ok_B, ok_U, ok_nil, ok_cons, ok_N, ok_aN, ok_call, ok_nl, ok_fl, ok_afl, ok_T, ok_qNot, ok_qAnd, ok_qOr, ok_and, ok_or, ok_not, ok_if, ok_Sl, ok_oNo, ok_oOf, ok_Ch, ok_it, ok_itA, ok_yes, v_addI, v_sub, v_neg, v_eqI, v_eqS, v_eqB, v_eq0, v_eqT0, v_neI, v_neS, v_neB, v_ne0, v_neT0, v_ltI, v_leI, v_gtI, v_geI, v_is, v_isNot, v_nn, v_ns, v_ni, v_nl, v_nt, v_tb, v_tl, v_tt, v_tn, v_ti, v_asB, v_asI, v_asL, v_asT, v_asS, v_lenL, v_lenT, v_tupL, v_tupT, v_listL, v_listT, v_intB, v_tup0, v_tup1, v_tup2, v_tup3, v_tup4, v_tup5, v_lst0, v_lst1, v_lst2, v_lst3, v_lst4, v_lst5, v_ok0, v_ok1, v_ok2, v_ix0L, v_ix0, v_ix1, v_ix2, v_ix3, v_fs, v_fi, v_fb, v_fn, v_ft, v_f0, v_fc, startR, List.map_cons, List.map_nil, List.length_cons, List.length_nil, List.replicate, List.cons_append, List.nil_append, List.set_cons_zero, List.set_cons_succ, Option.some.injEq, exists_eq_left', Nat.reduceAdd, Nat.reduceSub, Nat.sub_zero, Nat.sub_self, Nat.zero_add, Nat.reduceEqDiff, Bool.not_true, Bool.not_false, if_true, if_false, Bool.and_self, Bool.true_and, Bool.and_true, Bool.false_eq_true, ↓reduceIte, true_and, and_true, decide_true, decide_false, wipeR]
    refine k_word (ws := ["both", "then", "absurd", "put", "apart"]) rfl (by decide) (by decide) fun x s5 hx => ?_
    simp only [ok_V0, ok_Vs, ok_K, ok_B, ok_U, ok_nil, ok_cons, ok_N, ok_aN, ok_call, ok_nl, ok_fl, ok_afl, ok_T, ok_qNot, ok_qAnd, ok_qOr, ok_and, ok_or, ok_not, ok_if, ok_Sl, ok_oNo, ok_oOf, ok_Ch, ok_it, ok_itA, ok_yes, v_addI, v_sub, v_neg, v_eqI, v_eqS, v_eqB, v_eq0, v_eqT0, v_neI, v_neS, v_neB, v_ne0, v_neT0, v_ltI, v_leI, v_gtI, v_geI, v_is, v_isNot, v_nn, v_ns, v_ni, v_nl, v_nt, v_tb, v_tl, v_tt, v_tn, v_ti, v_asB, v_asI, v_asL, v_asT, v_asS, v_lenL, v_lenT, v_tupL, v_tupT, v_listL, v_listT, v_intB, v_tup0, v_tup1, v_tup2, v_tup3, v_tup4, v_tup5, v_lst0, v_lst1, v_lst2, v_lst3, v_lst4, v_lst5, v_ok0, v_ok1, v_ok2, v_ix0L, v_ix0, v_ix1, v_ix2, v_ix3, v_fs, v_fi, v_fb, v_fn, v_ft, v_f0, v_fc, startR, List.map_cons, List.map_nil, List.length_cons, List.length_nil, List.replicate, List.cons_append, List.nil_append, List.set_cons_zero, List.set_cons_succ, Option.some.injEq, exists_eq_left', Nat.reduceAdd, Nat.reduceSub, Nat.sub_zero, Nat.sub_self, Nat.zero_add, Nat.reduceEqDiff, Bool.not_true, Bool.not_false, if_true, if_false, Bool.and_self, Bool.true_and, Bool.and_true, Bool.false_eq_true, ↓reduceIte, true_and, and_true, decide_true, decide_false, wipeR, v_slT]
    rw [v_addT (szL (by have := cut_len [PyData.int n1, PyData.int n2, PyData.int n3] none (some 2); simp at this ⊢; omega))]
    try simp only [ok_V0, ok_Vs, ok_K, ok_B, ok_U, ok_nil, ok_cons, ok_N, ok_aN, ok_call, ok_nl, ok_fl, ok_afl, ok_T, ok_qNot, ok_qAnd, ok_qOr, ok_and, ok_or, ok_not, ok_if, ok_Sl, ok_oNo, ok_oOf, ok_Ch, ok_it, ok_itA, ok_yes, v_addI, v_sub, v_neg, v_eqI, v_eqS, v_eqB, v_eq0, v_eqT0, v_neI, v_neS, v_neB, v_ne0, v_neT0, v_ltI, v_leI, v_gtI, v_geI, v_is, v_isNot, v_nn, v_ns, v_ni, v_nl, v_nt, v_tb, v_tl, v_tt, v_tn, v_ti, v_asB, v_asI, v_asL, v_asT, v_asS, v_lenL, v_lenT, v_tupL, v_tupT, v_listL, v_listT, v_intB, v_tup0, v_tup1, v_tup2, v_tup3, v_tup4, v_tup5, v_lst0, v_lst1, v_lst2, v_lst3, v_lst4, v_lst5, v_ok0, v_ok1, v_ok2, v_ix0L, v_ix0, v_ix1, v_ix2, v_ix3, v_fs, v_fi, v_fb, v_fn, v_ft, v_f0, v_fc, startR, List.map_cons, List.map_nil, List.length_cons, List.length_nil, List.replicate, List.cons_append, List.nil_append, List.set_cons_zero, List.set_cons_succ, Option.some.injEq, exists_eq_left', Nat.reduceAdd, Nat.reduceSub, Nat.sub_zero, Nat.sub_self, Nat.zero_add, Nat.reduceEqDiff, Bool.not_true, Bool.not_false, if_true, if_false, Bool.and_self, Bool.true_and, Bool.and_true, Bool.false_eq_true, ↓reduceIte, true_and, and_true, decide_true, decide_false, wipeR]
    exact q _ _ ⟨x, _, rfl, (by decide : ∀ x ∈ (["both", "then", "absurd", "put", "apart"] : List Str), x ∉ opW) x hx⟩
  simp only [ok_V0, ok_Vs, ok_K, ok_B, ok_U, ok_nil, ok_cons, ok_N, ok_aN, ok_call, ok_nl, ok_fl, ok_afl, ok_T, ok_qNot, ok_qAnd, ok_qOr, ok_and, ok_or, ok_not, ok_if, ok_Sl, ok_oNo, ok_oOf, ok_Ch, ok_it, ok_itA, ok_yes, v_addI, v_sub, v_neg, v_eqI, v_eqS, v_eqB, v_eq0, v_eqT0, v_neI, v_neS, v_neB, v_ne0, v_neT0, v_ltI, v_leI, v_gtI, v_geI, v_is, v_isNot, v_nn, v_ns, v_ni, v_nl, v_nt, v_tb, v_tl, v_tt, v_tn, v_ti, v_asB, v_asI, v_asL, v_asT, v_asS, v_lenL, v_lenT, v_tupL, v_tupT, v_listL, v_listT, v_intB, v_tup0, v_tup1, v_tup2, v_tup3, v_tup4, v_tup5, v_lst0, v_lst1, v_lst2, v_lst3, v_lst4, v_lst5, v_ok0, v_ok1, v_ok2, v_ix0L, v_ix0, v_ix1, v_ix2, v_ix3, v_fs, v_fi, v_fb, v_fn, v_ft, v_f0, v_fc, startR, List.map_cons, List.map_nil, List.length_cons, List.length_nil, List.replicate, List.cons_append, List.nil_append, List.set_cons_zero, List.set_cons_succ, Option.some.injEq, exists_eq_left', Nat.reduceAdd, Nat.reduceSub, Nat.sub_zero, Nat.sub_self, Nat.zero_add, Nat.reduceEqDiff, Bool.not_true, Bool.not_false, if_true, if_false, Bool.and_self, Bool.true_and, Bool.and_true, Bool.false_eq_true, ↓reduceIte, true_and, and_true, decide_true, decide_false, wipeR, e4]
  refine k_nx (k_seq (k_sIf ?_))
  try simp only [ok_V0, ok_Vs, ok_K, ok_B, ok_U, ok_nil, ok_cons, ok_N, ok_aN, ok_call, ok_nl, ok_fl, ok_afl, ok_T, ok_qNot, ok_qAnd, ok_qOr, ok_and, ok_or, ok_not, ok_if, ok_Sl, ok_oNo, ok_oOf, ok_Ch, ok_it, ok_itA, ok_yes, v_addI, v_sub, v_neg, v_eqI, v_eqS, v_eqB, v_eq0, v_eqT0, v_neI, v_neS, v_neB, v_ne0, v_neT0, v_ltI, v_leI, v_gtI, v_geI, v_is, v_isNot, v_nn, v_ns, v_ni, v_nl, v_nt, v_tb, v_tl, v_tt, v_tn, v_ti, v_asB, v_asI, v_asL, v_asT, v_asS, v_lenL, v_lenT, v_tupL, v_tupT, v_listL, v_listT, v_intB, v_tup0, v_tup1, v_tup2, v_tup3, v_tup4, v_tup5, v_lst0, v_lst1, v_lst2, v_lst3, v_lst4, v_lst5, v_ok0, v_ok1, v_ok2, v_ix0L, v_ix0, v_ix1, v_ix2, v_ix3, v_fs, v_fi, v_fb, v_fn, v_ft, v_f0, v_fc, startR, List.map_cons, List.map_nil, List.length_cons, List.length_nil, List.replicate, List.cons_append, List.nil_append, List.set_cons_zero, List.set_cons_succ, Option.some.injEq, exists_eq_left', Nat.reduceAdd, Nat.reduceSub, Nat.sub_zero, Nat.sub_self, Nat.zero_add, Nat.reduceEqDiff, Bool.not_true, Bool.not_false, if_true, if_false, Bool.and_self, Bool.true_and, Bool.and_true, Bool.false_eq_true, ↓reduceIte, true_and, and_true, decide_true, decide_false, wipeR]
  by_cases e5 : w = 5
  · simp only [ok_V0, ok_Vs, ok_K, ok_B, ok_U, ok_nil, ok_cons, ok_N, ok_aN, ok_call, ok_nl, ok_fl, ok_afl, ok_T, ok_qNot, ok_qAnd, ok_qOr, ok_and, ok_or, ok_not, ok_if, ok_Sl, ok_oNo, ok_oOf, ok_Ch, ok_it, ok_itA, ok_yes, v_addI, v_sub, v_neg, v_eqI, v_eqS, v_eqB, v_eq0, v_eqT0, v_neI, v_neS, v_neB, v_ne0, v_neT0, v_ltI, v_leI, v_gtI, v_geI, v_is, v_isNot, v_nn, v_ns, v_ni, v_nl, v_nt, v_tb, v_tl, v_tt, v_tn, v_ti, v_asB, v_asI, v_asL, v_asT, v_asS, v_lenL, v_lenT, v_tupL, v_tupT, v_listL, v_listT, v_intB, v_tup0, v_tup1, v_tup2, v_tup3, v_tup4, v_tup5, v_lst0, v_lst1, v_lst2, v_lst3, v_lst4, v_lst5, v_ok0, v_ok1, v_ok2, v_ix0L, v_ix0, v_ix1, v_ix2, v_ix3, v_fs, v_fi, v_fb, v_fn, v_ft, v_f0, v_fc, startR, List.map_cons, List.map_nil, List.length_cons, List.length_nil, List.replicate, List.cons_append, List.nil_append, List.set_cons_zero, List.set_cons_succ, Option.some.injEq, exists_eq_left', Nat.reduceAdd, Nat.reduceSub, Nat.sub_zero, Nat.sub_self, Nat.zero_add, Nat.reduceEqDiff, Bool.not_true, Bool.not_false, if_true, if_false, Bool.and_self, Bool.true_and, Bool.and_true, Bool.false_eq_true, ↓reduceIte, true_and, and_true, decide_true, decide_false, wipeR, e5]
    refine k_ret ?_
    try simp only [ok_V0, ok_Vs, ok_K, ok_B, ok_U, ok_nil, ok_cons, ok_N, ok_aN, ok_call, ok_nl, ok_fl, ok_afl, ok_T, ok_qNot, ok_qAnd, ok_qOr, ok_and, ok_or, ok_not, ok_if, ok_Sl, ok_oNo, ok_oOf, ok_Ch, ok_it, ok_itA, ok_yes, v_addI, v_sub, v_neg, v_eqI, v_eqS, v_eqB, v_eq0, v_eqT0, v_neI, v_neS, v_neB, v_ne0, v_neT0, v_ltI, v_leI, v_gtI, v_geI, v_is, v_isNot, v_nn, v_ns, v_ni, v_nl, v_nt, v_tb, v_tl, v_tt, v_tn, v_ti, v_asB, v_asI, v_asL, v_asT, v_asS, v_lenL, v_lenT, v_tupL, v_tupT, v_listL, v_listT, v_intB, v_tup0, v_tup1, v_tup2, v_tup3, v_tup4, v_tup5, v_lst0, v_lst1, v_lst2, v_lst3, v_lst4, v_lst5, v_ok0, v_ok1, v_ok2, v_ix0L, v_ix0, v_ix1, v_ix2, v_ix3, v_fs, v_fi, v_fb, v_fn, v_ft, v_f0, v_fc, startR, List.map_cons, List.map_nil, List.length_cons, List.length_nil, List.replicate, List.cons_append, List.nil_append, List.set_cons_zero, List.set_cons_succ, Option.some.injEq, exists_eq_left', Nat.reduceAdd, Nat.reduceSub, Nat.sub_zero, Nat.sub_self, Nat.zero_add, Nat.reduceEqDiff, Bool.not_true, Bool.not_false, if_true, if_false, Bool.and_self, Bool.true_and, Bool.and_true, Bool.false_eq_true, ↓reduceIte, true_and, and_true, decide_true, decide_false, wipeR]
    refine k_word (ws := ["two", "cases"]) rfl (by decide) (by decide) fun x s5 hx => ?_
    rw [v_addT (szL (by simp))]
    try simp only [ok_V0, ok_Vs, ok_K, ok_B, ok_U, ok_nil, ok_cons, ok_N, ok_aN, ok_call, ok_nl, ok_fl, ok_afl, ok_T, ok_qNot, ok_qAnd, ok_qOr, ok_and, ok_or, ok_not, ok_if, ok_Sl, ok_oNo, ok_oOf, ok_Ch, ok_it, ok_itA, ok_yes, v_addI, v_sub, v_neg, v_eqI, v_eqS, v_eqB, v_eq0, v_eqT0, v_neI, v_neS, v_neB, v_ne0, v_neT0, v_ltI, v_leI, v_gtI, v_geI, v_is, v_isNot, v_nn, v_ns, v_ni, v_nl, v_nt, v_tb, v_tl, v_tt, v_tn, v_ti, v_asB, v_asI, v_asL, v_asT, v_asS, v_lenL, v_lenT, v_tupL, v_tupT, v_listL, v_listT, v_intB, v_tup0, v_tup1, v_tup2, v_tup3, v_tup4, v_tup5, v_lst0, v_lst1, v_lst2, v_lst3, v_lst4, v_lst5, v_ok0, v_ok1, v_ok2, v_ix0L, v_ix0, v_ix1, v_ix2, v_ix3, v_fs, v_fi, v_fb, v_fn, v_ft, v_f0, v_fc, startR, List.map_cons, List.map_nil, List.length_cons, List.length_nil, List.replicate, List.cons_append, List.nil_append, List.set_cons_zero, List.set_cons_succ, Option.some.injEq, exists_eq_left', Nat.reduceAdd, Nat.reduceSub, Nat.sub_zero, Nat.sub_self, Nat.zero_add, Nat.reduceEqDiff, Bool.not_true, Bool.not_false, if_true, if_false, Bool.and_self, Bool.true_and, Bool.and_true, Bool.false_eq_true, ↓reduceIte, true_and, and_true, decide_true, decide_false, wipeR]
    exact q _ _ ⟨x, _, rfl, (by decide : ∀ x ∈ (["two", "cases"] : List Str), x ∉ opW) x hx⟩
  simp only [ok_V0, ok_Vs, ok_K, ok_B, ok_U, ok_nil, ok_cons, ok_N, ok_aN, ok_call, ok_nl, ok_fl, ok_afl, ok_T, ok_qNot, ok_qAnd, ok_qOr, ok_and, ok_or, ok_not, ok_if, ok_Sl, ok_oNo, ok_oOf, ok_Ch, ok_it, ok_itA, ok_yes, v_addI, v_sub, v_neg, v_eqI, v_eqS, v_eqB, v_eq0, v_eqT0, v_neI, v_neS, v_neB, v_ne0, v_neT0, v_ltI, v_leI, v_gtI, v_geI, v_is, v_isNot, v_nn, v_ns, v_ni, v_nl, v_nt, v_tb, v_tl, v_tt, v_tn, v_ti, v_asB, v_asI, v_asL, v_asT, v_asS, v_lenL, v_lenT, v_tupL, v_tupT, v_listL, v_listT, v_intB, v_tup0, v_tup1, v_tup2, v_tup3, v_tup4, v_tup5, v_lst0, v_lst1, v_lst2, v_lst3, v_lst4, v_lst5, v_ok0, v_ok1, v_ok2, v_ix0L, v_ix0, v_ix1, v_ix2, v_ix3, v_fs, v_fi, v_fb, v_fn, v_ft, v_f0, v_fc, startR, List.map_cons, List.map_nil, List.length_cons, List.length_nil, List.replicate, List.cons_append, List.nil_append, List.set_cons_zero, List.set_cons_succ, Option.some.injEq, exists_eq_left', Nat.reduceAdd, Nat.reduceSub, Nat.sub_zero, Nat.sub_self, Nat.zero_add, Nat.reduceEqDiff, Bool.not_true, Bool.not_false, if_true, if_false, Bool.and_self, Bool.true_and, Bool.and_true, Bool.false_eq_true, ↓reduceIte, true_and, and_true, decide_true, decide_false, wipeR, e5]
  refine k_nx (k_seq (k_sIf ?_))
  try simp only [ok_V0, ok_Vs, ok_K, ok_B, ok_U, ok_nil, ok_cons, ok_N, ok_aN, ok_call, ok_nl, ok_fl, ok_afl, ok_T, ok_qNot, ok_qAnd, ok_qOr, ok_and, ok_or, ok_not, ok_if, ok_Sl, ok_oNo, ok_oOf, ok_Ch, ok_it, ok_itA, ok_yes, v_addI, v_sub, v_neg, v_eqI, v_eqS, v_eqB, v_eq0, v_eqT0, v_neI, v_neS, v_neB, v_ne0, v_neT0, v_ltI, v_leI, v_gtI, v_geI, v_is, v_isNot, v_nn, v_ns, v_ni, v_nl, v_nt, v_tb, v_tl, v_tt, v_tn, v_ti, v_asB, v_asI, v_asL, v_asT, v_asS, v_lenL, v_lenT, v_tupL, v_tupT, v_listL, v_listT, v_intB, v_tup0, v_tup1, v_tup2, v_tup3, v_tup4, v_tup5, v_lst0, v_lst1, v_lst2, v_lst3, v_lst4, v_lst5, v_ok0, v_ok1, v_ok2, v_ix0L, v_ix0, v_ix1, v_ix2, v_ix3, v_fs, v_fi, v_fb, v_fn, v_ft, v_f0, v_fc, startR, List.map_cons, List.map_nil, List.length_cons, List.length_nil, List.replicate, List.cons_append, List.nil_append, List.set_cons_zero, List.set_cons_succ, Option.some.injEq, exists_eq_left', Nat.reduceAdd, Nat.reduceSub, Nat.sub_zero, Nat.sub_self, Nat.zero_add, Nat.reduceEqDiff, Bool.not_true, Bool.not_false, if_true, if_false, Bool.and_self, Bool.true_and, Bool.and_true, Bool.false_eq_true, ↓reduceIte, true_and, and_true, decide_true, decide_false, wipeR]
  by_cases e6 : w = 6
  · simp only [ok_V0, ok_Vs, ok_K, ok_B, ok_U, ok_nil, ok_cons, ok_N, ok_aN, ok_call, ok_nl, ok_fl, ok_afl, ok_T, ok_qNot, ok_qAnd, ok_qOr, ok_and, ok_or, ok_not, ok_if, ok_Sl, ok_oNo, ok_oOf, ok_Ch, ok_it, ok_itA, ok_yes, v_addI, v_sub, v_neg, v_eqI, v_eqS, v_eqB, v_eq0, v_eqT0, v_neI, v_neS, v_neB, v_ne0, v_neT0, v_ltI, v_leI, v_gtI, v_geI, v_is, v_isNot, v_nn, v_ns, v_ni, v_nl, v_nt, v_tb, v_tl, v_tt, v_tn, v_ti, v_asB, v_asI, v_asL, v_asT, v_asS, v_lenL, v_lenT, v_tupL, v_tupT, v_listL, v_listT, v_intB, v_tup0, v_tup1, v_tup2, v_tup3, v_tup4, v_tup5, v_lst0, v_lst1, v_lst2, v_lst3, v_lst4, v_lst5, v_ok0, v_ok1, v_ok2, v_ix0L, v_ix0, v_ix1, v_ix2, v_ix3, v_fs, v_fi, v_fb, v_fn, v_ft, v_f0, v_fc, startR, List.map_cons, List.map_nil, List.length_cons, List.length_nil, List.replicate, List.cons_append, List.nil_append, List.set_cons_zero, List.set_cons_succ, Option.some.injEq, exists_eq_left', Nat.reduceAdd, Nat.reduceSub, Nat.sub_zero, Nat.sub_self, Nat.zero_add, Nat.reduceEqDiff, Bool.not_true, Bool.not_false, if_true, if_false, Bool.and_self, Bool.true_and, Bool.and_true, Bool.false_eq_true, ↓reduceIte, true_and, and_true, decide_true, decide_false, wipeR, e6]
    refine k_ret ?_
    try simp only [ok_V0, ok_Vs, ok_K, ok_B, ok_U, ok_nil, ok_cons, ok_N, ok_aN, ok_call, ok_nl, ok_fl, ok_afl, ok_T, ok_qNot, ok_qAnd, ok_qOr, ok_and, ok_or, ok_not, ok_if, ok_Sl, ok_oNo, ok_oOf, ok_Ch, ok_it, ok_itA, ok_yes, v_addI, v_sub, v_neg, v_eqI, v_eqS, v_eqB, v_eq0, v_eqT0, v_neI, v_neS, v_neB, v_ne0, v_neT0, v_ltI, v_leI, v_gtI, v_geI, v_is, v_isNot, v_nn, v_ns, v_ni, v_nl, v_nt, v_tb, v_tl, v_tt, v_tn, v_ti, v_asB, v_asI, v_asL, v_asT, v_asS, v_lenL, v_lenT, v_tupL, v_tupT, v_listL, v_listT, v_intB, v_tup0, v_tup1, v_tup2, v_tup3, v_tup4, v_tup5, v_lst0, v_lst1, v_lst2, v_lst3, v_lst4, v_lst5, v_ok0, v_ok1, v_ok2, v_ix0L, v_ix0, v_ix1, v_ix2, v_ix3, v_fs, v_fi, v_fb, v_fn, v_ft, v_f0, v_fc, startR, List.map_cons, List.map_nil, List.length_cons, List.length_nil, List.replicate, List.cons_append, List.nil_append, List.set_cons_zero, List.set_cons_succ, Option.some.injEq, exists_eq_left', Nat.reduceAdd, Nat.reduceSub, Nat.sub_zero, Nat.sub_self, Nat.zero_add, Nat.reduceEqDiff, Bool.not_true, Bool.not_false, if_true, if_false, Bool.and_self, Bool.true_and, Bool.and_true, Bool.false_eq_true, ↓reduceIte, true_and, and_true, decide_true, decide_false, wipeR]
    refine k_word (ws := ["at", "such"]) rfl (by decide) (by decide) fun x s5 hx => ?_
    try simp only [ok_V0, ok_Vs, ok_K, ok_B, ok_U, ok_nil, ok_cons, ok_N, ok_aN, ok_call, ok_nl, ok_fl, ok_afl, ok_T, ok_qNot, ok_qAnd, ok_qOr, ok_and, ok_or, ok_not, ok_if, ok_Sl, ok_oNo, ok_oOf, ok_Ch, ok_it, ok_itA, ok_yes, v_addI, v_sub, v_neg, v_eqI, v_eqS, v_eqB, v_eq0, v_eqT0, v_neI, v_neS, v_neB, v_ne0, v_neT0, v_ltI, v_leI, v_gtI, v_geI, v_is, v_isNot, v_nn, v_ns, v_ni, v_nl, v_nt, v_tb, v_tl, v_tt, v_tn, v_ti, v_asB, v_asI, v_asL, v_asT, v_asS, v_lenL, v_lenT, v_tupL, v_tupT, v_listL, v_listT, v_intB, v_tup0, v_tup1, v_tup2, v_tup3, v_tup4, v_tup5, v_lst0, v_lst1, v_lst2, v_lst3, v_lst4, v_lst5, v_ok0, v_ok1, v_ok2, v_ix0L, v_ix0, v_ix1, v_ix2, v_ix3, v_fs, v_fi, v_fb, v_fn, v_ft, v_f0, v_fc, startR, List.map_cons, List.map_nil, List.length_cons, List.length_nil, List.replicate, List.cons_append, List.nil_append, List.set_cons_zero, List.set_cons_succ, Option.some.injEq, exists_eq_left', Nat.reduceAdd, Nat.reduceSub, Nat.sub_zero, Nat.sub_self, Nat.zero_add, Nat.reduceEqDiff, Bool.not_true, Bool.not_false, if_true, if_false, Bool.and_self, Bool.true_and, Bool.and_true, Bool.false_eq_true, ↓reduceIte, true_and, and_true, decide_true, decide_false, wipeR]
    refine ok_signs (by omega) (by omega) fun z1 s6 hz1 => ?_
    rw [upperS (by omega)]
    try simp only [ok_V0, ok_Vs, ok_K, ok_B, ok_U, ok_nil, ok_cons, ok_N, ok_aN, ok_call, ok_nl, ok_fl, ok_afl, ok_T, ok_qNot, ok_qAnd, ok_qOr, ok_and, ok_or, ok_not, ok_if, ok_Sl, ok_oNo, ok_oOf, ok_Ch, ok_it, ok_itA, ok_yes, v_addI, v_sub, v_neg, v_eqI, v_eqS, v_eqB, v_eq0, v_eqT0, v_neI, v_neS, v_neB, v_ne0, v_neT0, v_ltI, v_leI, v_gtI, v_geI, v_is, v_isNot, v_nn, v_ns, v_ni, v_nl, v_nt, v_tb, v_tl, v_tt, v_tn, v_ti, v_asB, v_asI, v_asL, v_asT, v_asS, v_lenL, v_lenT, v_tupL, v_tupT, v_listL, v_listT, v_intB, v_tup0, v_tup1, v_tup2, v_tup3, v_tup4, v_tup5, v_lst0, v_lst1, v_lst2, v_lst3, v_lst4, v_lst5, v_ok0, v_ok1, v_ok2, v_ix0L, v_ix0, v_ix1, v_ix2, v_ix3, v_fs, v_fi, v_fb, v_fn, v_ft, v_f0, v_fc, startR, List.map_cons, List.map_nil, List.length_cons, List.length_nil, List.replicate, List.cons_append, List.nil_append, List.set_cons_zero, List.set_cons_succ, Option.some.injEq, exists_eq_left', Nat.reduceAdd, Nat.reduceSub, Nat.sub_zero, Nat.sub_self, Nat.zero_add, Nat.reduceEqDiff, Bool.not_true, Bool.not_false, if_true, if_false, Bool.and_self, Bool.true_and, Bool.and_true, Bool.false_eq_true, ↓reduceIte, true_and, and_true, decide_true, decide_false, wipeR]
    refine ok_signs (by omega) (by omega) fun z2 s7 hz2 => ?_
    have u1 := up_len z1
    rw [addS (by omega)]
    try simp only [ok_V0, ok_Vs, ok_K, ok_B, ok_U, ok_nil, ok_cons, ok_N, ok_aN, ok_call, ok_nl, ok_fl, ok_afl, ok_T, ok_qNot, ok_qAnd, ok_qOr, ok_and, ok_or, ok_not, ok_if, ok_Sl, ok_oNo, ok_oOf, ok_Ch, ok_it, ok_itA, ok_yes, v_addI, v_sub, v_neg, v_eqI, v_eqS, v_eqB, v_eq0, v_eqT0, v_neI, v_neS, v_neB, v_ne0, v_neT0, v_ltI, v_leI, v_gtI, v_geI, v_is, v_isNot, v_nn, v_ns, v_ni, v_nl, v_nt, v_tb, v_tl, v_tt, v_tn, v_ti, v_asB, v_asI, v_asL, v_asT, v_asS, v_lenL, v_lenT, v_tupL, v_tupT, v_listL, v_listT, v_intB, v_tup0, v_tup1, v_tup2, v_tup3, v_tup4, v_tup5, v_lst0, v_lst1, v_lst2, v_lst3, v_lst4, v_lst5, v_ok0, v_ok1, v_ok2, v_ix0L, v_ix0, v_ix1, v_ix2, v_ix3, v_fs, v_fi, v_fb, v_fn, v_ft, v_f0, v_fc, startR, List.map_cons, List.map_nil, List.length_cons, List.length_nil, List.replicate, List.cons_append, List.nil_append, List.set_cons_zero, List.set_cons_succ, Option.some.injEq, exists_eq_left', Nat.reduceAdd, Nat.reduceSub, Nat.sub_zero, Nat.sub_self, Nat.zero_add, Nat.reduceEqDiff, Bool.not_true, Bool.not_false, if_true, if_false, Bool.and_self, Bool.true_and, Bool.and_true, Bool.false_eq_true, ↓reduceIte, true_and, and_true, decide_true, decide_false, wipeR]
    exact q _ _ ⟨x, _, rfl, (by decide : ∀ x ∈ (["at", "such"] : List Str), x ∉ opW) x hx⟩
  simp only [ok_V0, ok_Vs, ok_K, ok_B, ok_U, ok_nil, ok_cons, ok_N, ok_aN, ok_call, ok_nl, ok_fl, ok_afl, ok_T, ok_qNot, ok_qAnd, ok_qOr, ok_and, ok_or, ok_not, ok_if, ok_Sl, ok_oNo, ok_oOf, ok_Ch, ok_it, ok_itA, ok_yes, v_addI, v_sub, v_neg, v_eqI, v_eqS, v_eqB, v_eq0, v_eqT0, v_neI, v_neS, v_neB, v_ne0, v_neT0, v_ltI, v_leI, v_gtI, v_geI, v_is, v_isNot, v_nn, v_ns, v_ni, v_nl, v_nt, v_tb, v_tl, v_tt, v_tn, v_ti, v_asB, v_asI, v_asL, v_asT, v_asS, v_lenL, v_lenT, v_tupL, v_tupT, v_listL, v_listT, v_intB, v_tup0, v_tup1, v_tup2, v_tup3, v_tup4, v_tup5, v_lst0, v_lst1, v_lst2, v_lst3, v_lst4, v_lst5, v_ok0, v_ok1, v_ok2, v_ix0L, v_ix0, v_ix1, v_ix2, v_ix3, v_fs, v_fi, v_fb, v_fn, v_ft, v_f0, v_fc, startR, List.map_cons, List.map_nil, List.length_cons, List.length_nil, List.replicate, List.cons_append, List.nil_append, List.set_cons_zero, List.set_cons_succ, Option.some.injEq, exists_eq_left', Nat.reduceAdd, Nat.reduceSub, Nat.sub_zero, Nat.sub_self, Nat.zero_add, Nat.reduceEqDiff, Bool.not_true, Bool.not_false, if_true, if_false, Bool.and_self, Bool.true_and, Bool.and_true, Bool.false_eq_true, ↓reduceIte, true_and, and_true, decide_true, decide_false, wipeR, e6]
  refine k_nx (k_seq (k_sIf ?_))
  simp only [ok_V0, ok_Vs, ok_K, ok_B, ok_U, ok_nil, ok_cons, ok_N, ok_aN, ok_call, ok_nl, ok_fl, ok_afl, ok_T, ok_qNot, ok_qAnd, ok_qOr, ok_and, ok_or, ok_not, ok_if, ok_Sl, ok_oNo, ok_oOf, ok_Ch, ok_it, ok_itA, ok_yes, v_addI, v_sub, v_neg, v_eqI, v_eqS, v_eqB, v_eq0, v_eqT0, v_neI, v_neS, v_neB, v_ne0, v_neT0, v_ltI, v_leI, v_gtI, v_geI, v_is, v_isNot, v_nn, v_ns, v_ni, v_nl, v_nt, v_tb, v_tl, v_tt, v_tn, v_ti, v_asB, v_asI, v_asL, v_asT, v_asS, v_lenL, v_lenT, v_tupL, v_tupT, v_listL, v_listT, v_intB, v_tup0, v_tup1, v_tup2, v_tup3, v_tup4, v_tup5, v_lst0, v_lst1, v_lst2, v_lst3, v_lst4, v_lst5, v_ok0, v_ok1, v_ok2, v_ix0L, v_ix0, v_ix1, v_ix2, v_ix3, v_fs, v_fi, v_fb, v_fn, v_ft, v_f0, v_fc, startR, List.map_cons, List.map_nil, List.length_cons, List.length_nil, List.replicate, List.cons_append, List.nil_append, List.set_cons_zero, List.set_cons_succ, Option.some.injEq, exists_eq_left', Nat.reduceAdd, Nat.reduceSub, Nat.sub_zero, Nat.sub_self, Nat.zero_add, Nat.reduceEqDiff, Bool.not_true, Bool.not_false, if_true, if_false, Bool.and_self, Bool.true_and, Bool.and_true, Bool.false_eq_true, ↓reduceIte, true_and, and_true, decide_true, decide_false, wipeR, v_mod (j := 3) (by decide)]
  by_cases m0 : n1 % 3 = 0
  · simp only [ok_V0, ok_Vs, ok_K, ok_B, ok_U, ok_nil, ok_cons, ok_N, ok_aN, ok_call, ok_nl, ok_fl, ok_afl, ok_T, ok_qNot, ok_qAnd, ok_qOr, ok_and, ok_or, ok_not, ok_if, ok_Sl, ok_oNo, ok_oOf, ok_Ch, ok_it, ok_itA, ok_yes, v_addI, v_sub, v_neg, v_eqI, v_eqS, v_eqB, v_eq0, v_eqT0, v_neI, v_neS, v_neB, v_ne0, v_neT0, v_ltI, v_leI, v_gtI, v_geI, v_is, v_isNot, v_nn, v_ns, v_ni, v_nl, v_nt, v_tb, v_tl, v_tt, v_tn, v_ti, v_asB, v_asI, v_asL, v_asT, v_asS, v_lenL, v_lenT, v_tupL, v_tupT, v_listL, v_listT, v_intB, v_tup0, v_tup1, v_tup2, v_tup3, v_tup4, v_tup5, v_lst0, v_lst1, v_lst2, v_lst3, v_lst4, v_lst5, v_ok0, v_ok1, v_ok2, v_ix0L, v_ix0, v_ix1, v_ix2, v_ix3, v_fs, v_fi, v_fb, v_fn, v_ft, v_f0, v_fc, startR, List.map_cons, List.map_nil, List.length_cons, List.length_nil, List.replicate, List.cons_append, List.nil_append, List.set_cons_zero, List.set_cons_succ, Option.some.injEq, exists_eq_left', Nat.reduceAdd, Nat.reduceSub, Nat.sub_zero, Nat.sub_self, Nat.zero_add, Nat.reduceEqDiff, Bool.not_true, Bool.not_false, if_true, if_false, Bool.and_self, Bool.true_and, Bool.and_true, Bool.false_eq_true, ↓reduceIte, true_and, and_true, decide_true, decide_false, wipeR, m0]
    refine k_ret ?_
    try simp only [ok_V0, ok_Vs, ok_K, ok_B, ok_U, ok_nil, ok_cons, ok_N, ok_aN, ok_call, ok_nl, ok_fl, ok_afl, ok_T, ok_qNot, ok_qAnd, ok_qOr, ok_and, ok_or, ok_not, ok_if, ok_Sl, ok_oNo, ok_oOf, ok_Ch, ok_it, ok_itA, ok_yes, v_addI, v_sub, v_neg, v_eqI, v_eqS, v_eqB, v_eq0, v_eqT0, v_neI, v_neS, v_neB, v_ne0, v_neT0, v_ltI, v_leI, v_gtI, v_geI, v_is, v_isNot, v_nn, v_ns, v_ni, v_nl, v_nt, v_tb, v_tl, v_tt, v_tn, v_ti, v_asB, v_asI, v_asL, v_asT, v_asS, v_lenL, v_lenT, v_tupL, v_tupT, v_listL, v_listT, v_intB, v_tup0, v_tup1, v_tup2, v_tup3, v_tup4, v_tup5, v_lst0, v_lst1, v_lst2, v_lst3, v_lst4, v_lst5, v_ok0, v_ok1, v_ok2, v_ix0L, v_ix0, v_ix1, v_ix2, v_ix3, v_fs, v_fi, v_fb, v_fn, v_ft, v_f0, v_fc, startR, List.map_cons, List.map_nil, List.length_cons, List.length_nil, List.replicate, List.cons_append, List.nil_append, List.set_cons_zero, List.set_cons_succ, Option.some.injEq, exists_eq_left', Nat.reduceAdd, Nat.reduceSub, Nat.sub_zero, Nat.sub_self, Nat.zero_add, Nat.reduceEqDiff, Bool.not_true, Bool.not_false, if_true, if_false, Bool.and_self, Bool.true_and, Bool.and_true, Bool.false_eq_true, ↓reduceIte, true_and, and_true, decide_true, decide_false, wipeR]
    exact q _ _ ⟨"by", _, rfl, by decide⟩
  simp only [ok_V0, ok_Vs, ok_K, ok_B, ok_U, ok_nil, ok_cons, ok_N, ok_aN, ok_call, ok_nl, ok_fl, ok_afl, ok_T, ok_qNot, ok_qAnd, ok_qOr, ok_and, ok_or, ok_not, ok_if, ok_Sl, ok_oNo, ok_oOf, ok_Ch, ok_it, ok_itA, ok_yes, v_addI, v_sub, v_neg, v_eqI, v_eqS, v_eqB, v_eq0, v_eqT0, v_neI, v_neS, v_neB, v_ne0, v_neT0, v_ltI, v_leI, v_gtI, v_geI, v_is, v_isNot, v_nn, v_ns, v_ni, v_nl, v_nt, v_tb, v_tl, v_tt, v_tn, v_ti, v_asB, v_asI, v_asL, v_asT, v_asS, v_lenL, v_lenT, v_tupL, v_tupT, v_listL, v_listT, v_intB, v_tup0, v_tup1, v_tup2, v_tup3, v_tup4, v_tup5, v_lst0, v_lst1, v_lst2, v_lst3, v_lst4, v_lst5, v_ok0, v_ok1, v_ok2, v_ix0L, v_ix0, v_ix1, v_ix2, v_ix3, v_fs, v_fi, v_fb, v_fn, v_ft, v_f0, v_fc, startR, List.map_cons, List.map_nil, List.length_cons, List.length_nil, List.replicate, List.cons_append, List.nil_append, List.set_cons_zero, List.set_cons_succ, Option.some.injEq, exists_eq_left', Nat.reduceAdd, Nat.reduceSub, Nat.sub_zero, Nat.sub_self, Nat.zero_add, Nat.reduceEqDiff, Bool.not_true, Bool.not_false, if_true, if_false, Bool.and_self, Bool.true_and, Bool.and_true, Bool.false_eq_true, ↓reduceIte, true_and, and_true, decide_true, decide_false, wipeR, m0]
  refine k_nx (k_seq (k_sIf ?_))
  simp only [ok_V0, ok_Vs, ok_K, ok_B, ok_U, ok_nil, ok_cons, ok_N, ok_aN, ok_call, ok_nl, ok_fl, ok_afl, ok_T, ok_qNot, ok_qAnd, ok_qOr, ok_and, ok_or, ok_not, ok_if, ok_Sl, ok_oNo, ok_oOf, ok_Ch, ok_it, ok_itA, ok_yes, v_addI, v_sub, v_neg, v_eqI, v_eqS, v_eqB, v_eq0, v_eqT0, v_neI, v_neS, v_neB, v_ne0, v_neT0, v_ltI, v_leI, v_gtI, v_geI, v_is, v_isNot, v_nn, v_ns, v_ni, v_nl, v_nt, v_tb, v_tl, v_tt, v_tn, v_ti, v_asB, v_asI, v_asL, v_asT, v_asS, v_lenL, v_lenT, v_tupL, v_tupT, v_listL, v_listT, v_intB, v_tup0, v_tup1, v_tup2, v_tup3, v_tup4, v_tup5, v_lst0, v_lst1, v_lst2, v_lst3, v_lst4, v_lst5, v_ok0, v_ok1, v_ok2, v_ix0L, v_ix0, v_ix1, v_ix2, v_ix3, v_fs, v_fi, v_fb, v_fn, v_ft, v_f0, v_fc, startR, List.map_cons, List.map_nil, List.length_cons, List.length_nil, List.replicate, List.cons_append, List.nil_append, List.set_cons_zero, List.set_cons_succ, Option.some.injEq, exists_eq_left', Nat.reduceAdd, Nat.reduceSub, Nat.sub_zero, Nat.sub_self, Nat.zero_add, Nat.reduceEqDiff, Bool.not_true, Bool.not_false, if_true, if_false, Bool.and_self, Bool.true_and, Bool.and_true, Bool.false_eq_true, ↓reduceIte, true_and, and_true, decide_true, decide_false, wipeR, v_mod (j := 3) (by decide)]
  by_cases m1 : n1 % 3 = 1
  · simp only [ok_V0, ok_Vs, ok_K, ok_B, ok_U, ok_nil, ok_cons, ok_N, ok_aN, ok_call, ok_nl, ok_fl, ok_afl, ok_T, ok_qNot, ok_qAnd, ok_qOr, ok_and, ok_or, ok_not, ok_if, ok_Sl, ok_oNo, ok_oOf, ok_Ch, ok_it, ok_itA, ok_yes, v_addI, v_sub, v_neg, v_eqI, v_eqS, v_eqB, v_eq0, v_eqT0, v_neI, v_neS, v_neB, v_ne0, v_neT0, v_ltI, v_leI, v_gtI, v_geI, v_is, v_isNot, v_nn, v_ns, v_ni, v_nl, v_nt, v_tb, v_tl, v_tt, v_tn, v_ti, v_asB, v_asI, v_asL, v_asT, v_asS, v_lenL, v_lenT, v_tupL, v_tupT, v_listL, v_listT, v_intB, v_tup0, v_tup1, v_tup2, v_tup3, v_tup4, v_tup5, v_lst0, v_lst1, v_lst2, v_lst3, v_lst4, v_lst5, v_ok0, v_ok1, v_ok2, v_ix0L, v_ix0, v_ix1, v_ix2, v_ix3, v_fs, v_fi, v_fb, v_fn, v_ft, v_f0, v_fc, startR, List.map_cons, List.map_nil, List.length_cons, List.length_nil, List.replicate, List.cons_append, List.nil_append, List.set_cons_zero, List.set_cons_succ, Option.some.injEq, exists_eq_left', Nat.reduceAdd, Nat.reduceSub, Nat.sub_zero, Nat.sub_self, Nat.zero_add, Nat.reduceEqDiff, Bool.not_true, Bool.not_false, if_true, if_false, Bool.and_self, Bool.true_and, Bool.and_true, Bool.false_eq_true, ↓reduceIte, true_and, and_true, decide_true, decide_false, wipeR, m1]
    refine k_ret ?_
    simp only [ok_V0, ok_Vs, ok_K, ok_B, ok_U, ok_nil, ok_cons, ok_N, ok_aN, ok_call, ok_nl, ok_fl, ok_afl, ok_T, ok_qNot, ok_qAnd, ok_qOr, ok_and, ok_or, ok_not, ok_if, ok_Sl, ok_oNo, ok_oOf, ok_Ch, ok_it, ok_itA, ok_yes, v_addI, v_sub, v_neg, v_eqI, v_eqS, v_eqB, v_eq0, v_eqT0, v_neI, v_neS, v_neB, v_ne0, v_neT0, v_ltI, v_leI, v_gtI, v_geI, v_is, v_isNot, v_nn, v_ns, v_ni, v_nl, v_nt, v_tb, v_tl, v_tt, v_tn, v_ti, v_asB, v_asI, v_asL, v_asT, v_asS, v_lenL, v_lenT, v_tupL, v_tupT, v_listL, v_listT, v_intB, v_tup0, v_tup1, v_tup2, v_tup3, v_tup4, v_tup5, v_lst0, v_lst1, v_lst2, v_lst3, v_lst4, v_lst5, v_ok0, v_ok1, v_ok2, v_ix0L, v_ix0, v_ix1, v_ix2, v_ix3, v_fs, v_fi, v_fb, v_fn, v_ft, v_f0, v_fc, startR, List.map_cons, List.map_nil, List.length_cons, List.length_nil, List.replicate, List.cons_append, List.nil_append, List.set_cons_zero, List.set_cons_succ, Option.some.injEq, exists_eq_left', Nat.reduceAdd, Nat.reduceSub, Nat.sub_zero, Nat.sub_self, Nat.zero_add, Nat.reduceEqDiff, Bool.not_true, Bool.not_false, if_true, if_false, Bool.and_self, Bool.true_and, Bool.and_true, Bool.false_eq_true, ↓reduceIte, true_and, and_true, decide_true, decide_false, wipeR, v_slT]
    refine k_draw (by omega) (by omega) fun r2 s5 p0 p1 => ?_
    try simp only [ok_V0, ok_Vs, ok_K, ok_B, ok_U, ok_nil, ok_cons, ok_N, ok_aN, ok_call, ok_nl, ok_fl, ok_afl, ok_T, ok_qNot, ok_qAnd, ok_qOr, ok_and, ok_or, ok_not, ok_if, ok_Sl, ok_oNo, ok_oOf, ok_Ch, ok_it, ok_itA, ok_yes, v_addI, v_sub, v_neg, v_eqI, v_eqS, v_eqB, v_eq0, v_eqT0, v_neI, v_neS, v_neB, v_ne0, v_neT0, v_ltI, v_leI, v_gtI, v_geI, v_is, v_isNot, v_nn, v_ns, v_ni, v_nl, v_nt, v_tb, v_tl, v_tt, v_tn, v_ti, v_asB, v_asI, v_asL, v_asT, v_asS, v_lenL, v_lenT, v_tupL, v_tupT, v_listL, v_listT, v_intB, v_tup0, v_tup1, v_tup2, v_tup3, v_tup4, v_tup5, v_lst0, v_lst1, v_lst2, v_lst3, v_lst4, v_lst5, v_ok0, v_ok1, v_ok2, v_ix0L, v_ix0, v_ix1, v_ix2, v_ix3, v_fs, v_fi, v_fb, v_fn, v_ft, v_f0, v_fc, startR, List.map_cons, List.map_nil, List.length_cons, List.length_nil, List.replicate, List.cons_append, List.nil_append, List.set_cons_zero, List.set_cons_succ, Option.some.injEq, exists_eq_left', Nat.reduceAdd, Nat.reduceSub, Nat.sub_zero, Nat.sub_self, Nat.zero_add, Nat.reduceEqDiff, Bool.not_true, Bool.not_false, if_true, if_false, Bool.and_self, Bool.true_and, Bool.and_true, Bool.false_eq_true, ↓reduceIte, true_and, and_true, decide_true, decide_false, wipeR]
    refine ok_signs (by omega) (by omega) fun z1 s6 hz1 => ?_
    exact q _ _ ⟨"earlier", _, rfl, by decide⟩
  simp only [ok_V0, ok_Vs, ok_K, ok_B, ok_U, ok_nil, ok_cons, ok_N, ok_aN, ok_call, ok_nl, ok_fl, ok_afl, ok_T, ok_qNot, ok_qAnd, ok_qOr, ok_and, ok_or, ok_not, ok_if, ok_Sl, ok_oNo, ok_oOf, ok_Ch, ok_it, ok_itA, ok_yes, v_addI, v_sub, v_neg, v_eqI, v_eqS, v_eqB, v_eq0, v_eqT0, v_neI, v_neS, v_neB, v_ne0, v_neT0, v_ltI, v_leI, v_gtI, v_geI, v_is, v_isNot, v_nn, v_ns, v_ni, v_nl, v_nt, v_tb, v_tl, v_tt, v_tn, v_ti, v_asB, v_asI, v_asL, v_asT, v_asS, v_lenL, v_lenT, v_tupL, v_tupT, v_listL, v_listT, v_intB, v_tup0, v_tup1, v_tup2, v_tup3, v_tup4, v_tup5, v_lst0, v_lst1, v_lst2, v_lst3, v_lst4, v_lst5, v_ok0, v_ok1, v_ok2, v_ix0L, v_ix0, v_ix1, v_ix2, v_ix3, v_fs, v_fi, v_fb, v_fn, v_ft, v_f0, v_fc, startR, List.map_cons, List.map_nil, List.length_cons, List.length_nil, List.replicate, List.cons_append, List.nil_append, List.set_cons_zero, List.set_cons_succ, Option.some.injEq, exists_eq_left', Nat.reduceAdd, Nat.reduceSub, Nat.sub_zero, Nat.sub_self, Nat.zero_add, Nat.reduceEqDiff, Bool.not_true, Bool.not_false, if_true, if_false, Bool.and_self, Bool.true_and, Bool.and_true, Bool.false_eq_true, ↓reduceIte, true_and, and_true, decide_true, decide_false, wipeR, m1]
  refine k_nx (k_ret ?_)
  simp only [ok_V0, ok_Vs, ok_K, ok_B, ok_U, ok_nil, ok_cons, ok_N, ok_aN, ok_call, ok_nl, ok_fl, ok_afl, ok_T, ok_qNot, ok_qAnd, ok_qOr, ok_and, ok_or, ok_not, ok_if, ok_Sl, ok_oNo, ok_oOf, ok_Ch, ok_it, ok_itA, ok_yes, v_addI, v_sub, v_neg, v_eqI, v_eqS, v_eqB, v_eq0, v_eqT0, v_neI, v_neS, v_neB, v_ne0, v_neT0, v_ltI, v_leI, v_gtI, v_geI, v_is, v_isNot, v_nn, v_ns, v_ni, v_nl, v_nt, v_tb, v_tl, v_tt, v_tn, v_ti, v_asB, v_asI, v_asL, v_asT, v_asS, v_lenL, v_lenT, v_tupL, v_tupT, v_listL, v_listT, v_intB, v_tup0, v_tup1, v_tup2, v_tup3, v_tup4, v_tup5, v_lst0, v_lst1, v_lst2, v_lst3, v_lst4, v_lst5, v_ok0, v_ok1, v_ok2, v_ix0L, v_ix0, v_ix1, v_ix2, v_ix3, v_fs, v_fi, v_fb, v_fn, v_ft, v_f0, v_fc, startR, List.map_cons, List.map_nil, List.length_cons, List.length_nil, List.replicate, List.cons_append, List.nil_append, List.set_cons_zero, List.set_cons_succ, Option.some.injEq, exists_eq_left', Nat.reduceAdd, Nat.reduceSub, Nat.sub_zero, Nat.sub_self, Nat.zero_add, Nat.reduceEqDiff, Bool.not_true, Bool.not_false, if_true, if_false, Bool.and_self, Bool.true_and, Bool.and_true, Bool.false_eq_true, ↓reduceIte, true_and, and_true, decide_true, decide_false, wipeR, v_slT]
  refine k_lcP (fun ds _ => ds.length ≤ 3) ?_ ?_
  · simp only [ok_V0, ok_Vs, ok_K, ok_B, ok_U, ok_nil, ok_cons, ok_N, ok_aN, ok_call, ok_nl, ok_fl, ok_afl, ok_T, ok_qNot, ok_qAnd, ok_qOr, ok_and, ok_or, ok_not, ok_if, ok_Sl, ok_oNo, ok_oOf, ok_Ch, ok_it, ok_itA, ok_yes, v_addI, v_sub, v_neg, v_eqI, v_eqS, v_eqB, v_eq0, v_eqT0, v_neI, v_neS, v_neB, v_ne0, v_neT0, v_ltI, v_leI, v_gtI, v_geI, v_is, v_isNot, v_nn, v_ns, v_ni, v_nl, v_nt, v_tb, v_tl, v_tt, v_tn, v_ti, v_asB, v_asI, v_asL, v_asT, v_asS, v_lenL, v_lenT, v_tupL, v_tupT, v_listL, v_listT, v_intB, v_tup0, v_tup1, v_tup2, v_tup3, v_tup4, v_tup5, v_lst0, v_lst1, v_lst2, v_lst3, v_lst4, v_lst5, v_ok0, v_ok1, v_ok2, v_ix0L, v_ix0, v_ix1, v_ix2, v_ix3, v_fs, v_fi, v_fb, v_fn, v_ft, v_f0, v_fc, startR, List.map_cons, List.map_nil, List.length_cons, List.length_nil, List.replicate, List.cons_append, List.nil_append, List.set_cons_zero, List.set_cons_succ, Option.some.injEq, exists_eq_left', Nat.reduceAdd, Nat.reduceSub, Nat.sub_zero, Nat.sub_self, Nat.zero_add, Nat.reduceEqDiff, Bool.not_true, Bool.not_false, if_true, if_false, Bool.and_self, Bool.true_and, Bool.and_true, Bool.false_eq_true, ↓reduceIte, true_and, and_true, decide_true, decide_false, wipeR, v_slT]
    have := cut_len few (some 1) none
    omega
  rintro ds s5 hds
  refine ⟨szL (by omega), fun j acc _ => True, trivial, ?_, ?_⟩
  · rintro j d acc s hd _
    refine ⟨_, rfl, ?_⟩
    simp only [ok_V0, ok_Vs, ok_K, ok_B, ok_U, ok_nil, ok_cons, ok_N, ok_aN, ok_call, ok_nl, ok_fl, ok_afl, ok_T, ok_qNot, ok_qAnd, ok_qOr, ok_and, ok_or, ok_not, ok_if, ok_Sl, ok_oNo, ok_oOf, ok_Ch, ok_it, ok_itA, ok_yes, v_addI, v_sub, v_neg, v_eqI, v_eqS, v_eqB, v_eq0, v_eqT0, v_neI, v_neS, v_neB, v_ne0, v_neT0, v_ltI, v_leI, v_gtI, v_geI, v_is, v_isNot, v_nn, v_ns, v_ni, v_nl, v_nt, v_tb, v_tl, v_tt, v_tn, v_ti, v_asB, v_asI, v_asL, v_asT, v_asS, v_lenL, v_lenT, v_tupL, v_tupT, v_listL, v_listT, v_intB, v_tup0, v_tup1, v_tup2, v_tup3, v_tup4, v_tup5, v_lst0, v_lst1, v_lst2, v_lst3, v_lst4, v_lst5, v_ok0, v_ok1, v_ok2, v_ix0L, v_ix0, v_ix1, v_ix2, v_ix3, v_fs, v_fi, v_fb, v_fn, v_ft, v_f0, v_fc, startR, List.map_cons, List.map_nil, List.length_cons, List.length_nil, List.replicate, List.cons_append, List.nil_append, List.set_cons_zero, List.set_cons_succ, Option.some.injEq, exists_eq_left', Nat.reduceAdd, Nat.reduceSub, Nat.sub_zero, Nat.sub_self, Nat.zero_add, Nat.reduceEqDiff, Bool.not_true, Bool.not_false, if_true, if_false, Bool.and_self, Bool.true_and, Bool.and_true, Bool.false_eq_true, ↓reduceIte, true_and, and_true, decide_true, decide_false, wipeR, pow9]
    exact k_draw (by omega) (by omega) fun r2 s6 p0 p1 => trivial
  rintro acc s6 _
  exact q _ _ ⟨"sums", _, rfl, by decide⟩
/-- an opener's reason, and its name -/
def isOp (d : D) : Prop := ∃ w zs nm, d = .tuple [.tuple (.str w :: zs), nm] ∧ w ∈ opW ∧ flatD d = true ∧ (nm = .none ∨ ∃ z, nm = .str z)
theorem ok_opener {s : DS} {c : Int} {nm : Str} (h : 0 < c) (h2 : c < 1073741824) {Q : D → DS → Prop} (q : ∀ d s', isOp d → Q d s') : Ok (Fopener [hnd 0, .int c, .str nm] s) Q := by
  unfold Fopener K_w_opener B_w_opener
  refine k_fn (k_seq (k_set ?_))
  try simp only [ok_V0, ok_Vs, ok_K, ok_B, ok_U, ok_nil, ok_cons, ok_N, ok_aN, ok_call, ok_nl, ok_fl, ok_afl, ok_T, ok_qNot, ok_qAnd, ok_qOr, ok_and, ok_or, ok_not, ok_if, ok_Sl, ok_oNo, ok_oOf, ok_Ch, ok_it, ok_itA, ok_yes, v_addI, v_sub, v_neg, v_eqI, v_eqS, v_eqB, v_eq0, v_eqT0, v_neI, v_neS, v_neB, v_ne0, v_neT0, v_ltI, v_leI, v_gtI, v_geI, v_is, v_isNot, v_nn, v_ns, v_ni, v_nl, v_nt, v_tb, v_tl, v_tt, v_tn, v_ti, v_asB, v_asI, v_asL, v_asT, v_asS, v_lenL, v_lenT, v_tupL, v_tupT, v_listL, v_listT, v_intB, v_tup0, v_tup1, v_tup2, v_tup3, v_tup4, v_tup5, v_lst0, v_lst1, v_lst2, v_lst3, v_lst4, v_lst5, v_ok0, v_ok1, v_ok2, v_ix0L, v_ix0, v_ix1, v_ix2, v_ix3, v_fs, v_fi, v_fb, v_fn, v_ft, v_f0, v_fc, startR, List.map_cons, List.map_nil, List.length_cons, List.length_nil, List.replicate, List.cons_append, List.nil_append, List.set_cons_zero, List.set_cons_succ, Option.some.injEq, exists_eq_left', Nat.reduceAdd, Nat.reduceSub, Nat.sub_zero, Nat.sub_self, Nat.zero_add, Nat.reduceEqDiff, Bool.not_true, Bool.not_false, if_true, if_false, Bool.and_self, Bool.true_and, Bool.and_true, Bool.false_eq_true, ↓reduceIte, true_and, and_true, decide_true, decide_false, wipeR]
  refine k_draw (by omega) (by omega) fun w s4 w0 w1 => k_seq (k_sIf ?_)
  try simp only [ok_V0, ok_Vs, ok_K, ok_B, ok_U, ok_nil, ok_cons, ok_N, ok_aN, ok_call, ok_nl, ok_fl, ok_afl, ok_T, ok_qNot, ok_qAnd, ok_qOr, ok_and, ok_or, ok_not, ok_if, ok_Sl, ok_oNo, ok_oOf, ok_Ch, ok_it, ok_itA, ok_yes, v_addI, v_sub, v_neg, v_eqI, v_eqS, v_eqB, v_eq0, v_eqT0, v_neI, v_neS, v_neB, v_ne0, v_neT0, v_ltI, v_leI, v_gtI, v_geI, v_is, v_isNot, v_nn, v_ns, v_ni, v_nl, v_nt, v_tb, v_tl, v_tt, v_tn, v_ti, v_asB, v_asI, v_asL, v_asT, v_asS, v_lenL, v_lenT, v_tupL, v_tupT, v_listL, v_listT, v_intB, v_tup0, v_tup1, v_tup2, v_tup3, v_tup4, v_tup5, v_lst0, v_lst1, v_lst2, v_lst3, v_lst4, v_lst5, v_ok0, v_ok1, v_ok2, v_ix0L, v_ix0, v_ix1, v_ix2, v_ix3, v_fs, v_fi, v_fb, v_fn, v_ft, v_f0, v_fc, startR, List.map_cons, List.map_nil, List.length_cons, List.length_nil, List.replicate, List.cons_append, List.nil_append, List.set_cons_zero, List.set_cons_succ, Option.some.injEq, exists_eq_left', Nat.reduceAdd, Nat.reduceSub, Nat.sub_zero, Nat.sub_self, Nat.zero_add, Nat.reduceEqDiff, Bool.not_true, Bool.not_false, if_true, if_false, Bool.and_self, Bool.true_and, Bool.and_true, Bool.false_eq_true, ↓reduceIte, true_and, and_true, decide_true, decide_false, wipeR]
  by_cases e0 : w = 0
  · simp only [ok_V0, ok_Vs, ok_K, ok_B, ok_U, ok_nil, ok_cons, ok_N, ok_aN, ok_call, ok_nl, ok_fl, ok_afl, ok_T, ok_qNot, ok_qAnd, ok_qOr, ok_and, ok_or, ok_not, ok_if, ok_Sl, ok_oNo, ok_oOf, ok_Ch, ok_it, ok_itA, ok_yes, v_addI, v_sub, v_neg, v_eqI, v_eqS, v_eqB, v_eq0, v_eqT0, v_neI, v_neS, v_neB, v_ne0, v_neT0, v_ltI, v_leI, v_gtI, v_geI, v_is, v_isNot, v_nn, v_ns, v_ni, v_nl, v_nt, v_tb, v_tl, v_tt, v_tn, v_ti, v_asB, v_asI, v_asL, v_asT, v_asS, v_lenL, v_lenT, v_tupL, v_tupT, v_listL, v_listT, v_intB, v_tup0, v_tup1, v_tup2, v_tup3, v_tup4, v_tup5, v_lst0, v_lst1, v_lst2, v_lst3, v_lst4, v_lst5, v_ok0, v_ok1, v_ok2, v_ix0L, v_ix0, v_ix1, v_ix2, v_ix3, v_fs, v_fi, v_fb, v_fn, v_ft, v_f0, v_fc, startR, List.map_cons, List.map_nil, List.length_cons, List.length_nil, List.replicate, List.cons_append, List.nil_append, List.set_cons_zero, List.set_cons_succ, Option.some.injEq, exists_eq_left', Nat.reduceAdd, Nat.reduceSub, Nat.sub_zero, Nat.sub_self, Nat.zero_add, Nat.reduceEqDiff, Bool.not_true, Bool.not_false, if_true, if_false, Bool.and_self, Bool.true_and, Bool.and_true, Bool.false_eq_true, ↓reduceIte, true_and, and_true, decide_true, decide_false, wipeR, e0]
    refine k_ret ?_
    try simp only [ok_V0, ok_Vs, ok_K, ok_B, ok_U, ok_nil, ok_cons, ok_N, ok_aN, ok_call, ok_nl, ok_fl, ok_afl, ok_T, ok_qNot, ok_qAnd, ok_qOr, ok_and, ok_or, ok_not, ok_if, ok_Sl, ok_oNo, ok_oOf, ok_Ch, ok_it, ok_itA, ok_yes, v_addI, v_sub, v_neg, v_eqI, v_eqS, v_eqB, v_eq0, v_eqT0, v_neI, v_neS, v_neB, v_ne0, v_neT0, v_ltI, v_leI, v_gtI, v_geI, v_is, v_isNot, v_nn, v_ns, v_ni, v_nl, v_nt, v_tb, v_tl, v_tt, v_tn, v_ti, v_asB, v_asI, v_asL, v_asT, v_asS, v_lenL, v_lenT, v_tupL, v_tupT, v_listL, v_listT, v_intB, v_tup0, v_tup1, v_tup2, v_tup3, v_tup4, v_tup5, v_lst0, v_lst1, v_lst2, v_lst3, v_lst4, v_lst5, v_ok0, v_ok1, v_ok2, v_ix0L, v_ix0, v_ix1, v_ix2, v_ix3, v_fs, v_fi, v_fb, v_fn, v_ft, v_f0, v_fc, startR, List.map_cons, List.map_nil, List.length_cons, List.length_nil, List.replicate, List.cons_append, List.nil_append, List.set_cons_zero, List.set_cons_succ, Option.some.injEq, exists_eq_left', Nat.reduceAdd, Nat.reduceSub, Nat.sub_zero, Nat.sub_self, Nat.zero_add, Nat.reduceEqDiff, Bool.not_true, Bool.not_false, if_true, if_false, Bool.and_self, Bool.true_and, Bool.and_true, Bool.false_eq_true, ↓reduceIte, true_and, and_true, decide_true, decide_false, wipeR]
    exact q _ _ ⟨"supposed", _, _, rfl, by decide, rfl, .inl rfl⟩
  simp only [ok_V0, ok_Vs, ok_K, ok_B, ok_U, ok_nil, ok_cons, ok_N, ok_aN, ok_call, ok_nl, ok_fl, ok_afl, ok_T, ok_qNot, ok_qAnd, ok_qOr, ok_and, ok_or, ok_not, ok_if, ok_Sl, ok_oNo, ok_oOf, ok_Ch, ok_it, ok_itA, ok_yes, v_addI, v_sub, v_neg, v_eqI, v_eqS, v_eqB, v_eq0, v_eqT0, v_neI, v_neS, v_neB, v_ne0, v_neT0, v_ltI, v_leI, v_gtI, v_geI, v_is, v_isNot, v_nn, v_ns, v_ni, v_nl, v_nt, v_tb, v_tl, v_tt, v_tn, v_ti, v_asB, v_asI, v_asL, v_asT, v_asS, v_lenL, v_lenT, v_tupL, v_tupT, v_listL, v_listT, v_intB, v_tup0, v_tup1, v_tup2, v_tup3, v_tup4, v_tup5, v_lst0, v_lst1, v_lst2, v_lst3, v_lst4, v_lst5, v_ok0, v_ok1, v_ok2, v_ix0L, v_ix0, v_ix1, v_ix2, v_ix3, v_fs, v_fi, v_fb, v_fn, v_ft, v_f0, v_fc, startR, List.map_cons, List.map_nil, List.length_cons, List.length_nil, List.replicate, List.cons_append, List.nil_append, List.set_cons_zero, List.set_cons_succ, Option.some.injEq, exists_eq_left', Nat.reduceAdd, Nat.reduceSub, Nat.sub_zero, Nat.sub_self, Nat.zero_add, Nat.reduceEqDiff, Bool.not_true, Bool.not_false, if_true, if_false, Bool.and_self, Bool.true_and, Bool.and_true, Bool.false_eq_true, ↓reduceIte, true_and, and_true, decide_true, decide_false, wipeR, e0]
  refine k_nx (k_seq (k_sIf ?_))
  try simp only [ok_V0, ok_Vs, ok_K, ok_B, ok_U, ok_nil, ok_cons, ok_N, ok_aN, ok_call, ok_nl, ok_fl, ok_afl, ok_T, ok_qNot, ok_qAnd, ok_qOr, ok_and, ok_or, ok_not, ok_if, ok_Sl, ok_oNo, ok_oOf, ok_Ch, ok_it, ok_itA, ok_yes, v_addI, v_sub, v_neg, v_eqI, v_eqS, v_eqB, v_eq0, v_eqT0, v_neI, v_neS, v_neB, v_ne0, v_neT0, v_ltI, v_leI, v_gtI, v_geI, v_is, v_isNot, v_nn, v_ns, v_ni, v_nl, v_nt, v_tb, v_tl, v_tt, v_tn, v_ti, v_asB, v_asI, v_asL, v_asT, v_asS, v_lenL, v_lenT, v_tupL, v_tupT, v_listL, v_listT, v_intB, v_tup0, v_tup1, v_tup2, v_tup3, v_tup4, v_tup5, v_lst0, v_lst1, v_lst2, v_lst3, v_lst4, v_lst5, v_ok0, v_ok1, v_ok2, v_ix0L, v_ix0, v_ix1, v_ix2, v_ix3, v_fs, v_fi, v_fb, v_fn, v_ft, v_f0, v_fc, startR, List.map_cons, List.map_nil, List.length_cons, List.length_nil, List.replicate, List.cons_append, List.nil_append, List.set_cons_zero, List.set_cons_succ, Option.some.injEq, exists_eq_left', Nat.reduceAdd, Nat.reduceSub, Nat.sub_zero, Nat.sub_self, Nat.zero_add, Nat.reduceEqDiff, Bool.not_true, Bool.not_false, if_true, if_false, Bool.and_self, Bool.true_and, Bool.and_true, Bool.false_eq_true, ↓reduceIte, true_and, and_true, decide_true, decide_false, wipeR]
  by_cases e1 : w = 1
  · simp only [ok_V0, ok_Vs, ok_K, ok_B, ok_U, ok_nil, ok_cons, ok_N, ok_aN, ok_call, ok_nl, ok_fl, ok_afl, ok_T, ok_qNot, ok_qAnd, ok_qOr, ok_and, ok_or, ok_not, ok_if, ok_Sl, ok_oNo, ok_oOf, ok_Ch, ok_it, ok_itA, ok_yes, v_addI, v_sub, v_neg, v_eqI, v_eqS, v_eqB, v_eq0, v_eqT0, v_neI, v_neS, v_neB, v_ne0, v_neT0, v_ltI, v_leI, v_gtI, v_geI, v_is, v_isNot, v_nn, v_ns, v_ni, v_nl, v_nt, v_tb, v_tl, v_tt, v_tn, v_ti, v_asB, v_asI, v_asL, v_asT, v_asS, v_lenL, v_lenT, v_tupL, v_tupT, v_listL, v_listT, v_intB, v_tup0, v_tup1, v_tup2, v_tup3, v_tup4, v_tup5, v_lst0, v_lst1, v_lst2, v_lst3, v_lst4, v_lst5, v_ok0, v_ok1, v_ok2, v_ix0L, v_ix0, v_ix1, v_ix2, v_ix3, v_fs, v_fi, v_fb, v_fn, v_ft, v_f0, v_fc, startR, List.map_cons, List.map_nil, List.length_cons, List.length_nil, List.replicate, List.cons_append, List.nil_append, List.set_cons_zero, List.set_cons_succ, Option.some.injEq, exists_eq_left', Nat.reduceAdd, Nat.reduceSub, Nat.sub_zero, Nat.sub_self, Nat.zero_add, Nat.reduceEqDiff, Bool.not_true, Bool.not_false, if_true, if_false, Bool.and_self, Bool.true_and, Bool.and_true, Bool.false_eq_true, ↓reduceIte, true_and, and_true, decide_true, decide_false, wipeR, e1]
    refine k_ret ?_
    try simp only [ok_V0, ok_Vs, ok_K, ok_B, ok_U, ok_nil, ok_cons, ok_N, ok_aN, ok_call, ok_nl, ok_fl, ok_afl, ok_T, ok_qNot, ok_qAnd, ok_qOr, ok_and, ok_or, ok_not, ok_if, ok_Sl, ok_oNo, ok_oOf, ok_Ch, ok_it, ok_itA, ok_yes, v_addI, v_sub, v_neg, v_eqI, v_eqS, v_eqB, v_eq0, v_eqT0, v_neI, v_neS, v_neB, v_ne0, v_neT0, v_ltI, v_leI, v_gtI, v_geI, v_is, v_isNot, v_nn, v_ns, v_ni, v_nl, v_nt, v_tb, v_tl, v_tt, v_tn, v_ti, v_asB, v_asI, v_asL, v_asT, v_asS, v_lenL, v_lenT, v_tupL, v_tupT, v_listL, v_listT, v_intB, v_tup0, v_tup1, v_tup2, v_tup3, v_tup4, v_tup5, v_lst0, v_lst1, v_lst2, v_lst3, v_lst4, v_lst5, v_ok0, v_ok1, v_ok2, v_ix0L, v_ix0, v_ix1, v_ix2, v_ix3, v_fs, v_fi, v_fb, v_fn, v_ft, v_f0, v_fc, startR, List.map_cons, List.map_nil, List.length_cons, List.length_nil, List.replicate, List.cons_append, List.nil_append, List.set_cons_zero, List.set_cons_succ, Option.some.injEq, exists_eq_left', Nat.reduceAdd, Nat.reduceSub, Nat.sub_zero, Nat.sub_self, Nat.zero_add, Nat.reduceEqDiff, Bool.not_true, Bool.not_false, if_true, if_false, Bool.and_self, Bool.true_and, Bool.and_true, Bool.false_eq_true, ↓reduceIte, true_and, and_true, decide_true, decide_false, wipeR]
    exact q _ _ ⟨"any", _, _, rfl, by decide, rfl, .inr ⟨_, rfl⟩⟩
  simp only [ok_V0, ok_Vs, ok_K, ok_B, ok_U, ok_nil, ok_cons, ok_N, ok_aN, ok_call, ok_nl, ok_fl, ok_afl, ok_T, ok_qNot, ok_qAnd, ok_qOr, ok_and, ok_or, ok_not, ok_if, ok_Sl, ok_oNo, ok_oOf, ok_Ch, ok_it, ok_itA, ok_yes, v_addI, v_sub, v_neg, v_eqI, v_eqS, v_eqB, v_eq0, v_eqT0, v_neI, v_neS, v_neB, v_ne0, v_neT0, v_ltI, v_leI, v_gtI, v_geI, v_is, v_isNot, v_nn, v_ns, v_ni, v_nl, v_nt, v_tb, v_tl, v_tt, v_tn, v_ti, v_asB, v_asI, v_asL, v_asT, v_asS, v_lenL, v_lenT, v_tupL, v_tupT, v_listL, v_listT, v_intB, v_tup0, v_tup1, v_tup2, v_tup3, v_tup4, v_tup5, v_lst0, v_lst1, v_lst2, v_lst3, v_lst4, v_lst5, v_ok0, v_ok1, v_ok2, v_ix0L, v_ix0, v_ix1, v_ix2, v_ix3, v_fs, v_fi, v_fb, v_fn, v_ft, v_f0, v_fc, startR, List.map_cons, List.map_nil, List.length_cons, List.length_nil, List.replicate, List.cons_append, List.nil_append, List.set_cons_zero, List.set_cons_succ, Option.some.injEq, exists_eq_left', Nat.reduceAdd, Nat.reduceSub, Nat.sub_zero, Nat.sub_self, Nat.zero_add, Nat.reduceEqDiff, Bool.not_true, Bool.not_false, if_true, if_false, Bool.and_self, Bool.true_and, Bool.and_true, Bool.false_eq_true, ↓reduceIte, true_and, and_true, decide_true, decide_false, wipeR, e1]
  refine k_nx (k_ret ?_)
  try simp only [ok_V0, ok_Vs, ok_K, ok_B, ok_U, ok_nil, ok_cons, ok_N, ok_aN, ok_call, ok_nl, ok_fl, ok_afl, ok_T, ok_qNot, ok_qAnd, ok_qOr, ok_and, ok_or, ok_not, ok_if, ok_Sl, ok_oNo, ok_oOf, ok_Ch, ok_it, ok_itA, ok_yes, v_addI, v_sub, v_neg, v_eqI, v_eqS, v_eqB, v_eq0, v_eqT0, v_neI, v_neS, v_neB, v_ne0, v_neT0, v_ltI, v_leI, v_gtI, v_geI, v_is, v_isNot, v_nn, v_ns, v_ni, v_nl, v_nt, v_tb, v_tl, v_tt, v_tn, v_ti, v_asB, v_asI, v_asL, v_asT, v_asS, v_lenL, v_lenT, v_tupL, v_tupT, v_listL, v_listT, v_intB, v_tup0, v_tup1, v_tup2, v_tup3, v_tup4, v_tup5, v_lst0, v_lst1, v_lst2, v_lst3, v_lst4, v_lst5, v_ok0, v_ok1, v_ok2, v_ix0L, v_ix0, v_ix1, v_ix2, v_ix3, v_fs, v_fi, v_fb, v_fn, v_ft, v_f0, v_fc, startR, List.map_cons, List.map_nil, List.length_cons, List.length_nil, List.replicate, List.cons_append, List.nil_append, List.set_cons_zero, List.set_cons_succ, Option.some.injEq, exists_eq_left', Nat.reduceAdd, Nat.reduceSub, Nat.sub_zero, Nat.sub_self, Nat.zero_add, Nat.reduceEqDiff, Bool.not_true, Bool.not_false, if_true, if_false, Bool.and_self, Bool.true_and, Bool.and_true, Bool.false_eq_true, ↓reduceIte, true_and, and_true, decide_true, decide_false, wipeR]
  refine k_draw (by omega) (by omega) fun w s4 w0 w1 => ?_
  try simp only [ok_V0, ok_Vs, ok_K, ok_B, ok_U, ok_nil, ok_cons, ok_N, ok_aN, ok_call, ok_nl, ok_fl, ok_afl, ok_T, ok_qNot, ok_qAnd, ok_qOr, ok_and, ok_or, ok_not, ok_if, ok_Sl, ok_oNo, ok_oOf, ok_Ch, ok_it, ok_itA, ok_yes, v_addI, v_sub, v_neg, v_eqI, v_eqS, v_eqB, v_eq0, v_eqT0, v_neI, v_neS, v_neB, v_ne0, v_neT0, v_ltI, v_leI, v_gtI, v_geI, v_is, v_isNot, v_nn, v_ns, v_ni, v_nl, v_nt, v_tb, v_tl, v_tt, v_tn, v_ti, v_asB, v_asI, v_asL, v_asT, v_asS, v_lenL, v_lenT, v_tupL, v_tupT, v_listL, v_listT, v_intB, v_tup0, v_tup1, v_tup2, v_tup3, v_tup4, v_tup5, v_lst0, v_lst1, v_lst2, v_lst3, v_lst4, v_lst5, v_ok0, v_ok1, v_ok2, v_ix0L, v_ix0, v_ix1, v_ix2, v_ix3, v_fs, v_fi, v_fb, v_fn, v_ft, v_f0, v_fc, startR, List.map_cons, List.map_nil, List.length_cons, List.length_nil, List.replicate, List.cons_append, List.nil_append, List.set_cons_zero, List.set_cons_succ, Option.some.injEq, exists_eq_left', Nat.reduceAdd, Nat.reduceSub, Nat.sub_zero, Nat.sub_self, Nat.zero_add, Nat.reduceEqDiff, Bool.not_true, Bool.not_false, if_true, if_false, Bool.and_self, Bool.true_and, Bool.and_true, Bool.false_eq_true, ↓reduceIte, true_and, and_true, decide_true, decide_false, wipeR]
  exact q _ _ ⟨"called", _, _, rfl, by decide, rfl, .inr ⟨_, rfl⟩⟩
end Lw23
set_option Elab.async false
set_option linter.all false
set_option maxRecDepth 100000
set_option maxHeartbeats 4000000
namespace Lw23
open PySem PySem.Spec L2 Dl
/-! ### lines, told by level and opener or not; the openers around -/
abbrev Ln := Int × Bool
/-- a line ends a box of this level -/
def ends (x : Ln) (lev : Int) : Bool := decide (x.1 < lev) || (decide (x.1 = lev) && x.2)
def BoxEnd (L : List Ln) (i : Nat) (x : Ln) (e : Nat) : Prop := i + 1 ≤ e ∧ e ≤ L.length ∧ (∀ j y, i + 1 ≤ j → j < e → L[j]? = some y → ends y x.1 = false) ∧ (∀ y, L[e]? = some y → ends y x.1 = true)
def lev (L : List Ln) (a : Nat) : Int := (L[a]?.map (·.1)).getD 0
theorem lev_at {L : List Ln} {a : Nat} {x : Ln} (h : L[a]? = some x) : lev L a = x.1 := by
  unfold lev
  rw [h]
  rfl
def arS (L : List Ln) (ar : List Nat) (j : Nat) (x : Ln) : List Nat := (ar.filter fun a => !ends x (lev L a)) ++ (if x.2 then [j] else [])
def arN (L : List Ln) : Nat → List Nat
  | 0 => []
  | j + 1 => match L[j]? with
    | none => arN L j
    | some x => arS L (arN L j) j x
theorem arN_succ {L : List Ln} {j : Nat} {x : Ln} (h : L[j]? = some x) : arN L (j + 1) = arS L (arN L j) j x := by
  show (match L[j]? with | none => arN L j | some x => arS L (arN L j) j x) = _
  rw [h]
theorem arS_mem {L : List Ln} {ar : List Nat} {j : Nat} {x : Ln} {a : Nat} (h : a ∈ arS L ar j x) : a ∈ ar ∨ a = j := by
  unfold arS at h
  rcases List.mem_append.mp h with h | h
  · exact .inl (List.mem_filter.mp h).1
  · split at h
    · exact .inr (by simpa using h)
    · cases h
theorem arN_lt (L : List Ln) : ∀ j a, a ∈ arN L j → a < j ∧ a < L.length
  | 0, a, h => nomatch h
  | j + 1, a, h => by
    have h : a ∈ (match L[j]? with | none => arN L j | some x => arS L (arN L j) j x) := h
    cases e : L[j]? with
    | none =>
      rw [e] at h
      have := arN_lt L j a h
      omega
    | some x =>
      rw [e] at h
      have hj := (List.getElem?_eq_some_iff.mp e).1
      rcases arS_mem h with h | h
      · have := arN_lt L j a h
        omega
      · omega
theorem arN_len (L : List Ln) : ∀ j, (arN L j).length ≤ j
  | 0 => Nat.le_refl _
  | j + 1 => by
    show (match L[j]? with | none => arN L j | some x => arS L (arN L j) j x).length ≤ j + 1
    have ih := arN_len L j
    cases e : L[j]? with
    | none => show (arN L j).length ≤ _; omega
    | some x =>
      show (arS L (arN L j) j x).length ≤ _
      unfold arS
      rw [List.length_append]
      have := List.length_filter_le (fun a => !ends x (lev L a)) (arN L j)
      split <;> simp <;> omega
/-- the same of a beginning -/
theorem arN_take {L : List Ln} {k : Nat} : ∀ j, j ≤ k → arN (L.take k) j = arN L j
  | 0, _ => rfl
  | j + 1, h => by
    have ih := arN_take (L := L) (k := k) j (by omega)
    have e : (L.take k)[j]? = L[j]? := List.getElem?_take_of_lt (show j < k by omega)
    show (match (L.take k)[j]? with | none => arN (L.take k) j | some x => arS (L.take k) (arN (L.take k) j) j x) = (match L[j]? with | none => arN L j | some x => arS L (arN L j) j x)
    rw [e, ih]
    cases e2 : L[j]? with
    | none => rfl
    | some x =>
      show arS (L.take k) (arN L j) j x = arS L (arN L j) j x
      unfold arS
      congr 1
      refine List.filter_congr fun a ha => ?_
      have hlt := (arN_lt L j a ha).1
      have hak : a < k := Nat.lt_trans hlt h
      have e3 : (L.take k)[a]? = L[a]? := List.getElem?_take_of_lt hak
      unfold lev
      rw [e3]
abbrev nV (a : Nat) : V := .int ((a + 1 : Nat) : Int)
abbrev M0 : Addr → Prop := fun _ => False
/-- an opener stays around just till a line ends its level -/
theorem stay {L : List Ln} {a : Nat} {x : Ln} (hx : L[a]? = some x) (hop : x.2 = true) : ∀ j, a ≤ j → j < L.length → (a ∈ arN L (j + 1) ↔ ∀ t y, a < t → t ≤ j → L[t]? = some y → ends y x.1 = false) := by
  intro j
  induction j with
  | zero =>
    intro ha hj
    have e : a = 0 := by omega
    subst e
    rw [arN_succ hx]
    constructor
    · intro _ t y h1 h2
      omega
    · intro _
      unfold arS
      rw [hop]
      simp
  | succ j ih =>
    intro ha hj
    obtain ⟨y, hy⟩ : ∃ y, L[j + 1]? = some y := ⟨_, List.getElem?_eq_getElem hj⟩
    rw [arN_succ hy]
    by_cases e : a = j + 1
    · subst e
      rw [hx] at hy
      cases hy
      constructor
      · intro _ t z h1 h2
        omega
      · intro _
        unfold arS
        rw [hop]
        simp
    · have ih := ih (by omega) (by omega)
      have key : a ∈ arS L (arN L (j + 1)) (j + 1) y ↔ a ∈ arN L (j + 1) ∧ ends y x.1 = false := by
        unfold arS
        rw [List.mem_append, List.mem_filter, lev_at hx]
        constructor
        · rintro (⟨h1, h2⟩ | h)
          · exact ⟨h1, by simpa using h2⟩
          · split at h
            · exact absurd (by simpa using h) e
            · cases h
        · rintro ⟨h1, h2⟩
          exact .inl ⟨h1, by rw [h2]; rfl⟩
      rw [key, ih]
      constructor
      · rintro ⟨h1, h2⟩ t z a1 a2 hz
        by_cases et : t = j + 1
        · rw [et, hy] at hz
          cases hz
          exact h2
        · exact h1 t z a1 (by omega) hz
      · intro h
        exact ⟨fun t z a1 a2 hz => h t z a1 (by omega) hz, h (j + 1) y (by omega) (Nat.le_refl _) hy⟩
theorem not_before {L : List Ln} {a j : Nat} (h : a ∈ arN L (j + 1)) : a ≤ j := by
  have := (arN_lt L (j + 1) a h).1
  omega
/-- the box's end is the last line at which the opener is around -/
theorem box_last {L : List Ln} {a : Nat} {x : Ln} (hx : L[a]? = some x) (hop : x.2 = true) {e e' : Nat} (hb : BoxEnd L a x e) (h1 : 1 ≤ e') (h2 : e' ≤ L.length) (h3 : a ∈ arN L e') (h4 : ∀ j, j < L.length → a ∈ arN L (j + 1) → j + 1 ≤ e') : e' = e := by
  obtain ⟨b1, b2, b3, b4⟩ := hb
  have up : e ≤ e' := by
    have : a ∈ arN L (e - 1 + 1) := (stay hx hop (e - 1) (by omega) (by omega)).mpr fun t y t1 t2 hy => b3 t y (by omega) (by omega) hy
    have := h4 (e - 1) (by omega) this
    omega
  refine Nat.le_antisymm ?_ up
  refine Classical.byContradiction fun no => ?_
  have h5 : a ∈ arN L (e' - 1 + 1) := by rw [show e' - 1 + 1 = e' by omega]; exact h3
  have h6 := (stay hx hop (e' - 1) (by omega) (by omega)).mp h5
  obtain ⟨y, hy⟩ : ∃ y, L[e]? = some y := ⟨_, List.getElem?_eq_getElem (show e < L.length by omega)⟩
  have := h6 e y (by omega) (by omega) hy
  rw [b4 y hy] at this
  cases this
/-- the last of those around is the line itself just where it is an opener -/
theorem last_self {L : List Ln} {j : Nat} {x : Ln} (hx : L[j]? = some x) : x.2 = true ↔ (arN L (j + 1)).getLast? = some j := by
  rw [arN_succ hx]
  unfold arS
  cases hop : x.2
  · simp only [Bool.false_eq_true, if_false, List.append_nil, false_iff]
    intro h
    have := List.mem_of_getLast? h
    have := (arN_lt L j j (List.mem_filter.mp this).1).1
    omega
  · simp
/-! ### a line more -/
theorem lev_app {L : List Ln} {x : Ln} {a : Nat} (h : a < L.length) : lev (L ++ [x]) a = lev L a := by
  unfold lev
  rw [List.getElem?_append_left h]
theorem arN_app {L : List Ln} {x : Ln} {j : Nat} (h : j ≤ L.length) : arN (L ++ [x]) j = arN L j := by
  have := arN_take (L := L ++ [x]) (k := L.length) j h
  rw [List.take_left'] at this
  · exact this.symm
  · rfl
theorem arN_last (L : List Ln) (x : Ln) : arN (L ++ [x]) (L.length + 1) = ((arN L L.length).filter fun a => !ends x (lev L a)) ++ (if x.2 then [L.length] else []) := by
  rw [arN_succ (x := x) (by rw [List.getElem?_append_right (Nat.le_refl _)]; simp), arN_app (Nat.le_refl _)]
  unfold arS
  congr 1
  refine List.filter_congr fun a ha => ?_
  rw [lev_app (arN_lt L L.length a ha).2]
/-! ### the words told anew -/
abbrev a8 : Str := "abcdefgh"
def zq (k : Nat) : Str := "Zq" ++ (⟨#[97 + k % 8]⟩ : Str) ++ (⟨#[97 + k / 8]⟩ : Str)
theorem zq_W : ∀ k, k < 64 → zq k ∉ cands "W" := by decide +kernel
theorem zq_inj : ∀ j, j < 64 → ∀ k, k < 64 → zq j = zq k → j = k := by decide +kernel
theorem a8_at {i : Nat} (h : i < 8) : atI a8.cps.toList (i : Int) = some (97 + i) := by
  refine atI_nat ?_
  have : ∀ i, i < 8 → a8.cps.toList[i]? = some (97 + i) := by decide +kernel
  exact this i h
/-- what is taken: names, W-words and the words of earlier lines -/
def Tak (ns tk : List Str) (i : Nat) : Prop := (∀ x ∈ tk, x ∈ ns ∨ x ∈ cands "W" ∨ ∃ j, 1 ≤ j ∧ j ≤ i ∧ x = zq j) ∧ ∃ cl : List Str, cl.Nodup ∧ (∀ x ∈ cl, x ∈ ns ∧ ∃ j, 1 ≤ j ∧ j ≤ i ∧ x = zq j) ∧ (tk.filter fun x => decide (x ∈ cands "W")).length ≤ ns.length + cl.length
theorem Tak.start (ns : List Str) : Tak ns ns 0 := ⟨fun x hx => .inl hx, [], List.nodup_nil, (fun _ z => nomatch z), by
  have := fil_le (fun x => decide (x ∈ cands "W")) ns
  simpa using this⟩
theorem Tak.up {ns tk : List Str} {i : Nat} (h : Tak ns tk i) : Tak ns tk (i + 1) := by
  obtain ⟨h1, cl, h2, h3, h4⟩ := h
  refine ⟨fun x hx => ?_, cl, h2, fun x hx => ?_, h4⟩
  · rcases h1 x hx with h | h | ⟨j, a, b, e⟩
    · exact .inl h
    · exact .inr (.inl h)
    · exact .inr (.inr ⟨j, a, by omega, e⟩)
  · obtain ⟨a, j, b, c, e⟩ := h3 x hx
    exact ⟨a, j, b, by omega, e⟩
theorem Tak.few {ns tk : List Str} {i : Nat} (h : Tak ns tk i) (hn : ns.length ≤ 6) : (tk.filter fun x => decide (x ∈ cands "W")).length < 26 := by
  obtain ⟨h1, cl, h2, h3, h4⟩ := h
  have := Lc.nodup_le cl ns h2 fun x hx => (h3 x hx).1
  omega
theorem Tak.more {ns tk : List Str} {i : Nat} {x : Str} (h : Tak ns tk i) (hi : i + 1 < 64) (hu : Unl (zq (i + 1)) "W" tk x) : Tak ns (tk ++ [x]) (i + 1) := by
  have h0 := h
  obtain ⟨h1, cl, h2, h3, h4⟩ := h
  have nW := zq_W (i + 1) hi
  have old : ∀ j, 1 ≤ j → j ≤ i → zq (i + 1) ≠ zq j := fun j a b e => by
    have := zq_inj (i + 1) hi j (by omega) e
    omega
  rcases hu with ⟨a, rfl⟩ | ⟨a, b, c⟩
  · refine ⟨fun y hy => ?_, cl, h2, fun y hy => ?_, ?_⟩
    · rcases List.mem_append.mp hy with hy | hy
      · exact h0.up.1 y hy
      · have e : y = zq (i + 1) := by simpa using hy
        exact .inr (.inr ⟨i + 1, by omega, Nat.le_refl _, e⟩)
    · obtain ⟨a1, j, b1, c1, e1⟩ := h3 y hy
      exact ⟨a1, j, b1, by omega, e1⟩
    · rw [List.filter_append, List.length_append]
      have : ([zq (i + 1)].filter fun x => decide (x ∈ cands "W")) = [] := by
        rw [List.filter_cons, decide_eq_false nW]
        rfl
      rw [this]
      exact h4
  · have inN : zq (i + 1) ∈ ns := by
      rcases h1 _ a with h | h | ⟨j, x1, x2, e⟩
      · exact h
      · exact absurd h nW
      · exact absurd e (old j x1 x2)
    refine ⟨fun y hy => ?_, cl ++ [zq (i + 1)], ?_, fun y hy => ?_, ?_⟩
    · rcases List.mem_append.mp hy with hy | hy
      · exact h0.up.1 y hy
      · have e : y = x := by simpa using hy
        rw [e]
        exact .inr (.inl b)
    · rw [List.nodup_append]
      refine ⟨h2, by simp, fun y hy z hz e => ?_⟩
      have ez : z = zq (i + 1) := by simpa using hz
      obtain ⟨_, j, x1, x2, e2⟩ := h3 y hy
      rw [e, ez] at e2
      exact old j x1 x2 e2
    · rcases List.mem_append.mp hy with hy | hy
      · obtain ⟨a1, j, b1, c1, e1⟩ := h3 y hy
        exact ⟨a1, j, b1, by omega, e1⟩
      · have e : y = zq (i + 1) := by simpa using hy
        rw [e]
        exact ⟨inN, i + 1, by omega, Nat.le_refl _, rfl⟩
    · rw [List.filter_append, List.length_append, List.length_append]
      have := fil_le (fun x => decide (x ∈ cands "W")) [x]
      simp at this ⊢
      omega
end Lw23
set_option Elab.async false
set_option linter.all false
set_option maxRecDepth 100000
set_option maxHeartbeats 4000000
namespace Lw23
open PySem PySem.Spec L2 Dl
def LnD (d : D) (x : Ln) : Prop := ∃ y wd zs, d = .tuple [.int x.1, y, .tuple (.str wd :: zs)] ∧ x.2 = decide (wd ∈ opW)
def LsD (ds : List D) (L : List Ln) : Prop := ds.length = L.length ∧ ∀ (i : Nat) (x : Ln), L[i]? = some x → ∃ d, ds[i]? = some d ∧ LnD d x
theorem LsD.app {ds : List D} {L : List Ln} {d : D} {x : Ln} (h : LsD ds L) (hd : LnD d x) : LsD (ds ++ [d]) (L ++ [x]) := by
  refine ⟨by rw [List.length_append, List.length_append, h.1]; rfl, fun i y hy => ?_⟩
  rcases Nat.lt_or_ge i L.length with hi | hi
  · rw [List.getElem?_append_left hi] at hy
    obtain ⟨u, h1, h2⟩ := h.2 i y hy
    exact ⟨u, by rw [List.getElem?_append_left (by rw [h.1]; exact hi)]; exact h1, h2⟩
  · rw [List.getElem?_append_right hi] at hy
    have hi0 : i - L.length = 0 := by
      have := (List.getElem?_eq_some_iff.mp hy).1
      simp at this
      omega
    rw [hi0] at hy
    cases hy
    exact ⟨d, by rw [List.getElem?_append_right (by rw [h.1]; exact hi), h.1, hi0]; rfl, hd⟩
/-- a box's opener: its level, number, name -/
def ent (L : List Ln) (p : Nat × D) : D := .tuple [.int (lev L p.1), .int ((p.1 + 1 : Nat) : Int), p.2]
def nmOk (d : D) : Prop := d = .none ∨ ∃ z, d = .str z
def InD (ts : List D) (L : List Ln) (as : List Nat) : Prop := ∃ ps : List (Nat × D), ts = ps.map (ent L) ∧ ps.map (·.1) = as ∧ ∀ p ∈ ps, nmOk p.2
def BxD (bs : List D) (L : List Ln) (n : Nat) : Prop := bs.length = n ∧ ∀ j, j < n → ∃ ts, bs[j]? = some (.tuple ts) ∧ InD ts L (arN L (j + 1))
theorem ent_app {L : List Ln} {x : Ln} {p : Nat × D} (h : p.1 < L.length) : ent (L ++ [x]) p = ent L p := by
  unfold ent
  rw [lev_app h]
theorem InD.app {ts : List D} {L : List Ln} {as : List Nat} {x : Ln} (h : InD ts L as) (hl : ∀ a ∈ as, a < L.length) : InD ts (L ++ [x]) as := by
  obtain ⟨ps, rfl, rfl, h3⟩ := h
  refine ⟨ps, List.map_congr_left fun p hp => (ent_app (hl p.1 (List.mem_map.mpr ⟨p, hp, rfl⟩))).symm, rfl, h3⟩
theorem BxD.app {bs : List D} {L : List Ln} {x : Ln} (h : BxD bs L L.length) : BxD bs (L ++ [x]) L.length := ⟨h.1, fun j hj => by
  obtain ⟨ts, h1, h2⟩ := h.2 j hj
  refine ⟨ts, h1, ?_⟩
  rw [arN_app (by omega)]
  exact h2.app fun a ha => (arN_lt L (j + 1) a ha).2⟩
theorem BxD.more {bs ts : List D} {L : List Ln} {x : Ln} (h : BxD bs L L.length) (ht : InD ts (L ++ [x]) (arN (L ++ [x]) (L.length + 1))) : BxD (bs ++ [.tuple ts]) (L ++ [x]) (L.length + 1) := by
  have h' := h.app (x := x)
  refine ⟨by rw [List.length_append, h.1]; rfl, fun j hj => ?_⟩
  rcases Nat.lt_or_ge j L.length with hi | hi
  · obtain ⟨us, h1, h2⟩ := h'.2 j hi
    exact ⟨us, by rw [List.getElem?_append_left (by rw [h.1]; exact hi)]; exact h1, h2⟩
  · have : j = L.length := by omega
    subst this
    exact ⟨ts, by rw [List.getElem?_append_right (by rw [h.1]; exact hi), h.1, Nat.sub_self]; rfl, ht⟩
/-- levels from 0 on, those of openers from 1 on -/
def Lv (L : List Ln) : Prop := ∀ x ∈ L, 0 ≤ x.1 ∧ (x.2 = true → 1 ≤ x.1)
theorem arN_op (L : List Ln) : ∀ j a, a ∈ arN L j → ∃ x, L[a]? = some x ∧ x.2 = true
  | 0, a, h => nomatch h
  | j + 1, a, h => by
    have h : a ∈ (match L[j]? with | none => arN L j | some x => arS L (arN L j) j x) := h
    cases e : L[j]? with
    | none => rw [e] at h; exact arN_op L j a h
    | some x =>
      rw [e] at h
      have h : a ∈ arS L (arN L j) j x := h
      unfold arS at h
      rcases List.mem_append.mp h with h | h
      · exact arN_op L j a (List.mem_filter.mp h).1
      · split at h
        · have : a = j := by simpa using h
          subst this
          exact ⟨x, e, by assumption⟩
        · cases h
/-- those around, cut by a level -/
theorem fil_ent {L : List Ln} (c : Int → Bool) (ps : List (Nat × D)) : (ps.filter fun p => c (lev L p.1)).map (·.1) = (ps.map (·.1)).filter fun a => c (lev L a) := by
  induction ps with
  | nil => rfl
  | cons p ps ih =>
    simp only [List.filter_cons, List.map_cons]
    split <;> simp_all
theorem around_op {L : List Ln} {ps : List (Nat × D)} {l : Int} (h : ps.map (·.1) = arN L L.length) : (ps.filter fun p => decide (lev L p.1 < l)).map (·.1) ++ [L.length] = arN (L ++ [(l, true)]) (L.length + 1) := by
  rw [arN_last, fil_ent (fun v => decide (v < l)), h]
  simp only [if_true]
  congr 1
  refine List.filter_congr fun a _ => ?_
  unfold ends
  rw [Bool.eq_iff_iff]
  simp
  omega
theorem around_no {L : List Ln} {ps : List (Nat × D)} {l : Int} (h : ps.map (·.1) = arN L L.length) : (ps.filter fun p => decide (lev L p.1 ≤ l)).map (·.1) = arN (L ++ [(l, false)]) (L.length + 1) := by
  rw [arN_last, fil_ent (fun v => decide (v ≤ l)), h]
  simp only [Bool.false_eq_true, if_false, List.append_nil]
  refine List.filter_congr fun a _ => ?_
  unfold ends
  rw [Bool.eq_iff_iff]
  simp
/-- a comprehension that keeps some of a list -/
theorem k_keep {S : Type} {ds : List D} {q : Et S} {f : Ev S} {fi : Ea S} {t : Tg} {vs : List Nat} {ρ : Rho} {s : S} (c : D → Bool) (g : D → D) (hl : ds.length ≤ sizeLine) (hi : fi ρ s = some (ds, s))
    (hq : ∀ d ∈ ds, ∃ ρ1, t d (wipeR ρ vs) = some ρ1 ∧ q ρ1 s = some (c d, s) ∧ (c d = true → f ρ1 s = some (g d, s))) {Q : List D → S → Prop} (h : Q ((ds.filter c).map g) s) : Ok (lcF fi t q f vs ρ s) Q := by
  refine k_lcP (fun xs s' => xs = ds ∧ s' = s) (Ok.of hi ⟨rfl, rfl⟩) ?_
  intro xs s1 hxs
  obtain ⟨e1, e2⟩ := hxs
  rw [e1, e2]
  refine ⟨hl, fun j acc s' => s' = s ∧ acc = ((ds.take j).filter c).map g, ⟨rfl, by simp⟩, ?_, ?_⟩
  · rintro j d acc s' hd ⟨rfl, rfl⟩
    obtain ⟨ρ1, h1, h2, h3⟩ := hq d (List.mem_of_getElem? hd)
    have tk : ds.take (j + 1) = ds.take j ++ [d] := by rw [List.take_succ, hd]; rfl
    refine ⟨ρ1, h1, Ok.of h2 ?_⟩
    cases hc : c d with
    | true =>
      simp only [if_true]
      refine Ok.of (h3 hc) ⟨rfl, ?_⟩
      rw [tk, List.filter_append, List.map_append, List.filter_cons, hc]
      rfl
    | false =>
      simp only [Bool.false_eq_true, if_false]
      refine ⟨trivial, ?_⟩
      rw [tk, List.filter_append, List.map_append, List.filter_cons, hc]
      simp
  · rintro acc s' ⟨rfl, rfl⟩
    rw [List.take_length]
    exact h
abbrev Flines : Fn DS := K_w_lines Fdraw K_w_unlike Fopener Freason (Fform 3)
/-- the names of those around -/
def nms : List (Nat × D) → List Str
  | [] => []
  | (_, .str z) :: ps => z :: nms ps
  | _ :: ps => nms ps
theorem nms_len (ps : List (Nat × D)) : (nms ps).length ≤ ps.length := by
  induction ps with
  | nil => simp [nms]
  | cons p ps ih =>
    obtain ⟨a, d⟩ := p
    cases d <;> simp [nms] <;> omega
def namedD : D → Bool
  | .tuple [_, _, nm] => !nonD nm
  | _ => false
def thirdD : D → D
  | .tuple [_, _, nm] => nm
  | d => d
def levD (c : Int → Bool) : D → Bool
  | .tuple (.int v :: _) => c v
  | _ => false
theorem nms_map {L : List Ln} {ps : List (Nat × D)} (h : ∀ p ∈ ps, nmOk p.2) : (((ps.map (ent L)).filter namedD).map thirdD) = (nms ps).map .str := by
  induction ps with
  | nil => rfl
  | cons p ps ih =>
    obtain ⟨a, d⟩ := p
    have ih := ih fun p hp => h p (List.mem_cons_of_mem _ hp)
    rcases h (a, d) List.mem_cons_self with h1 | ⟨z, h1⟩
    · simp only at h1
      subst h1
      simp only [List.map_cons, List.filter_cons, ent, namedD, nonD, nms, Bool.not_true, Bool.false_eq_true, if_false]
      exact ih
    · simp only at h1
      subst h1
      simp only [List.map_cons, List.filter_cons, ent, namedD, nonD, nms, Bool.not_false, if_true, List.map_cons]
      rw [← ih]
      rfl
end Lw23
set_option Elab.async false
set_option linter.all false
set_option maxRecDepth 100000
set_option maxHeartbeats 4000000
namespace Lw23
open PySem PySem.Spec L2 Dl
def letW : List Str := ["u", "v", "w", "x", "y", "z", "x9", "u8"]
theorem ls_eq : pListS1 [.str "uvwxyz"] = some ((["u", "v", "w", "x", "y", "z"] : List Str).map .str) := by
  show (if (Str.ofString "uvwxyz").length ≤ sizeLine then some ((Str.ofString "uvwxyz").cps.toList.map fun c => (PyData.str ⟨#[c]⟩ : D)) else none) = _
  rw [if_pos (by decide), show (Str.ofString "uvwxyz").cps.toList = [117, 118, 119, 120, 121, 122] from by decide +kernel]
  rfl
theorem v_ixm1 {xs : List Str} {x : Str} : pIx (.list ((xs ++ [x]).map .str)) (.int (-1)) = some (.str x) := by
  simp only [pIx]
  rw [List.map_append]
  unfold atI ixN
  have e : (-1 + ((xs.length : Int) + 1)).toNat = xs.length := by omega
  have h1 : (1 : Int) ≤ (xs.length : Int) + 1 := by omega
  simp [e, h1]
theorem keep_map {L : List Ln} (c : Int → Bool) (ps : List (Nat × D)) : ((ps.map (ent L)).filter (levD c)) = (ps.filter fun p => c (lev L p.1)).map (ent L) := by
  induction ps with
  | nil => rfl
  | cons p ps ih =>
    simp only [List.map_cons, List.filter_cons]
    rw [ih, show levD c (ent L p) = c (lev L p.1) from rfl]
    split <;> rfl
theorem map_id' (l : List D) : l.map (fun d => d) = l := List.map_id' l
theorem a8_ix {k : Int} (h0 : 0 ≤ k) (h : k < 8) : pIx (.str "abcdefgh") (.int k) = some (.str ⟨#[97 + k.toNat]⟩) := by
  have := a8_at (i := k.toNat) (by omega)
  rw [show ((k.toNat : Nat) : Int) = k by omega] at this
  simp only [pIx]
  rw [if_pos (by decide), this]
  rfl
theorem v_fdiv8 {k : Int} : pFdiv (.int k) (.int 8) = some (.int (k / 8)) := rfl
structure St (ns : List Str) (j : Nat) (L : List Ln) (xs bs : List D) (ps : List (Nat × D)) (tk : List Str) (lv : Int) : Prop where
  len : L.length = j
  ls : LsD xs L
  bx : BxD bs L L.length
  ar : ps.map (·.1) = arN L L.length
  nm : ∀ p ∈ ps, nmOk p.2
  lvs : Lv L
  l0 : 0 ≤ lv
  l8 : lv ≤ 8
  tak : Tak ns tk j
  tlen : tk.length ≤ ns.length + j
def envL (ns ks ds : List Str) (m : Int) (L : List Ln) (xs bs : List D) (ps : List (Nat × D)) (tk : List Str) (lv : Int) (y : Option D × Option D × Option D × Option D × Option D) : Rho :=
  [some (hnd 0), some (vocD ns ks ds), some (.tuple []), some (.tuple (ns.map .str)), some (.tuple (ks.map .str)), some (.tuple (ds.map .str)), some (stockD ks ks ds letW), some (.int m), some (.list xs), some (.list bs), some (.list (ps.map (ent L))), some (.list (tk.map .str)), some (.int lv), y.1, y.2.1, y.2.2.1, y.2.2.2.1, y.2.2.2.2, none]
/-- the end of a turn: the line is put down -/
def restL : Sv DS := (sSeq (sSet 17 (cB pAdd (cNl (aN pList (aCons (cVar 3) aNil))) (cNl (lcF (iOf asL (cVar 10)) (gNm 18) (qT (cB pIsNot (cB pIx (cVar 18) (cK (.int 2))) (cK .none))) (cB pIx (cVar 18) (cK (.int 2))) [18]))))
      (sSeq (sApp 8 (cN pTup (aCons (cVar 12) (aCons (cCall 4 (Fform 3) (aCons (cVar 0) (aCons (cVar 6) (aCons (cVar 17) (aCons (cK (.int 2)) aNil))))) (aCons (cVar 15) aNil)))))
      (sApp 9 (cN pTuple (aCons (cVar 10) aNil)))))
theorem ok_rest {s : DS} {ns ks ds : List Str} (hn : ns.length ≤ 6) (hk : ks.length ≤ 6) (hd : ds.length ≤ 6) {m : Int} {j : Nat} {L : List Ln} {xs bs : List D} {ps ps' : List (Nat × D)} {tk tk' : List Str} {lv l : Int} {wd : Str} {zs : List D} {y13 y14 y16 y17 : Option D} {b : Bool} (hj : j < 60) (st : St ns j L xs bs ps tk lv)
    (hb : b = decide (wd ∈ opW)) (har : ps'.map (·.1) = arN (L ++ [(l, b)]) (L.length + 1)) (hnm : ∀ p ∈ ps', nmOk p.2) (hl0 : 0 ≤ l) (hl1 : b = true → 1 ≤ l) (hl8 : l ≤ 8) (htk : Tak ns tk' (j + 1)) (htl : tk'.length ≤ ns.length + (j + 1)) :
    Ok (restL [some (hnd 0), some (vocD ns ks ds), some (.tuple []), some (.tuple (ns.map .str)), some (.tuple (ks.map .str)), some (.tuple (ds.map .str)), some (stockD ks ks ds letW), some (.int m), some (.list xs), some (.list bs), some (.list (ps'.map (ent (L ++ [(l, b)])))), some (.list (tk'.map .str)), some (.int l), y13, y14, some (.tuple (.str wd :: zs)), y16, y17, none] s)
      fun r _ => match r with | .nx ρ => ∃ L xs bs ps tk lv y, St ns (j + 1) L xs bs ps tk lv ∧ ρ = envL ns ks ds m L xs bs ps tk lv y | _ => False := by
  have hlen : (L ++ [(l, b)]).length = j + 1 := by rw [List.length_append, st.len]; rfl
  have hps : ps'.length ≤ 61 := by
    have h1 : (ps'.map (·.1)).length = ps'.length := List.length_map _
    rw [har] at h1
    have h2 := arN_len (L ++ [(l, b)]) (L.length + 1)
    have := st.len
    omega
  unfold restL
  refine k_seq (k_set ?_)
  try simp only [ok_V0, ok_Vs, ok_K, ok_B, ok_U, ok_nil, ok_cons, ok_N, ok_aN, ok_call, ok_nl, ok_fl, ok_afl, ok_T, ok_qNot, ok_qAnd, ok_qOr, ok_and, ok_or, ok_not, ok_if, ok_Sl, ok_oNo, ok_oOf, ok_Ch, ok_it, ok_itA, ok_yes, v_addI, v_sub, v_neg, v_eqI, v_eqS, v_eqB, v_eq0, v_eqT0, v_neI, v_neS, v_neB, v_ne0, v_neT0, v_ltI, v_leI, v_gtI, v_geI, v_is, v_isNot, v_nn, v_ns, v_ni, v_nl, v_nt, v_tb, v_tl, v_tt, v_tn, v_ti, v_asB, v_asI, v_asL, v_asT, v_asS, v_lenL, v_lenT, v_tupL, v_tupT, v_listL, v_listT, v_intB, v_tup0, v_tup1, v_tup2, v_tup3, v_tup4, v_tup5, v_lst0, v_lst1, v_lst2, v_lst3, v_lst4, v_lst5, v_ok0, v_ok1, v_ok2, v_ix0L, v_ix0, v_ix1, v_ix2, v_ix3, v_fs, v_fi, v_fb, v_fn, v_ft, v_f0, v_fc, startR, List.map_cons, List.map_nil, List.length_cons, List.length_nil, List.replicate, List.cons_append, List.nil_append, List.set_cons_zero, List.set_cons_succ, Option.some.injEq, exists_eq_left', Nat.reduceAdd, Nat.reduceSub, Nat.sub_zero, Nat.sub_self, Nat.zero_add, Nat.reduceEqDiff, Bool.not_true, Bool.not_false, if_true, if_false, Bool.and_self, Bool.true_and, Bool.and_true, Bool.false_eq_true, ↓reduceIte, true_and, and_true, decide_true, decide_false, wipeR]
  refine k_keep (ds := ps'.map (ent (L ++ [(l, b)]))) namedD thirdD (by rw [List.length_map]; exact szL (by omega)) rfl (fun d hd => ?_) ?_
  · obtain ⟨p, _, rfl⟩ := List.mem_map.mp hd
    exact ⟨_, rfl, rfl, fun _ => rfl⟩
  rw [nms_map hnm]
  have hnl := nms_len ps'
  rw [catS (by omega)]
  try simp only [ok_V0, ok_Vs, ok_K, ok_B, ok_U, ok_nil, ok_cons, ok_N, ok_aN, ok_call, ok_nl, ok_fl, ok_afl, ok_T, ok_qNot, ok_qAnd, ok_qOr, ok_and, ok_or, ok_not, ok_if, ok_Sl, ok_oNo, ok_oOf, ok_Ch, ok_it, ok_itA, ok_yes, v_addI, v_sub, v_neg, v_eqI, v_eqS, v_eqB, v_eq0, v_eqT0, v_neI, v_neS, v_neB, v_ne0, v_neT0, v_ltI, v_leI, v_gtI, v_geI, v_is, v_isNot, v_nn, v_ns, v_ni, v_nl, v_nt, v_tb, v_tl, v_tt, v_tn, v_ti, v_asB, v_asI, v_asL, v_asT, v_asS, v_lenL, v_lenT, v_tupL, v_tupT, v_listL, v_listT, v_intB, v_tup0, v_tup1, v_tup2, v_tup3, v_tup4, v_tup5, v_lst0, v_lst1, v_lst2, v_lst3, v_lst4, v_lst5, v_ok0, v_ok1, v_ok2, v_ix0L, v_ix0, v_ix1, v_ix2, v_ix3, v_fs, v_fi, v_fb, v_fn, v_ft, v_f0, v_fc, startR, List.map_cons, List.map_nil, List.length_cons, List.length_nil, List.replicate, List.cons_append, List.nil_append, List.set_cons_zero, List.set_cons_succ, Option.some.injEq, exists_eq_left', Nat.reduceAdd, Nat.reduceSub, Nat.sub_zero, Nat.sub_self, Nat.zero_add, Nat.reduceEqDiff, Bool.not_true, Bool.not_false, if_true, if_false, Bool.and_self, Bool.true_and, Bool.and_true, Bool.false_eq_true, ↓reduceIte, true_and, and_true, decide_true, decide_false, wipeR]
  refine k_seq (k_app rfl (szl (by rw [st.ls.1, st.len]; omega)) ?_)
  try simp only [ok_V0, ok_Vs, ok_K, ok_B, ok_U, ok_nil, ok_cons, ok_N, ok_aN, ok_call, ok_nl, ok_fl, ok_afl, ok_T, ok_qNot, ok_qAnd, ok_qOr, ok_and, ok_or, ok_not, ok_if, ok_Sl, ok_oNo, ok_oOf, ok_Ch, ok_it, ok_itA, ok_yes, v_addI, v_sub, v_neg, v_eqI, v_eqS, v_eqB, v_eq0, v_eqT0, v_neI, v_neS, v_neB, v_ne0, v_neT0, v_ltI, v_leI, v_gtI, v_geI, v_is, v_isNot, v_nn, v_ns, v_ni, v_nl, v_nt, v_tb, v_tl, v_tt, v_tn, v_ti, v_asB, v_asI, v_asL, v_asT, v_asS, v_lenL, v_lenT, v_tupL, v_tupT, v_listL, v_listT, v_intB, v_tup0, v_tup1, v_tup2, v_tup3, v_tup4, v_tup5, v_lst0, v_lst1, v_lst2, v_lst3, v_lst4, v_lst5, v_ok0, v_ok1, v_ok2, v_ix0L, v_ix0, v_ix1, v_ix2, v_ix3, v_fs, v_fi, v_fb, v_fn, v_ft, v_f0, v_fc, startR, List.map_cons, List.map_nil, List.length_cons, List.length_nil, List.replicate, List.cons_append, List.nil_append, List.set_cons_zero, List.set_cons_succ, Option.some.injEq, exists_eq_left', Nat.reduceAdd, Nat.reduceSub, Nat.sub_zero, Nat.sub_self, Nat.zero_add, Nat.reduceEqDiff, Bool.not_true, Bool.not_false, if_true, if_false, Bool.and_self, Bool.true_and, Bool.and_true, Bool.false_eq_true, ↓reduceIte, true_and, and_true, decide_true, decide_false, wipeR]
  refine ok_form (by omega) (by omega) (by omega) (by decide) 2 3 s (ns ++ nms ps') (by omega) (by rw [List.length_append]; omega) fun F s2 => ?_
  try simp only [ok_V0, ok_Vs, ok_K, ok_B, ok_U, ok_nil, ok_cons, ok_N, ok_aN, ok_call, ok_nl, ok_fl, ok_afl, ok_T, ok_qNot, ok_qAnd, ok_qOr, ok_and, ok_or, ok_not, ok_if, ok_Sl, ok_oNo, ok_oOf, ok_Ch, ok_it, ok_itA, ok_yes, v_addI, v_sub, v_neg, v_eqI, v_eqS, v_eqB, v_eq0, v_eqT0, v_neI, v_neS, v_neB, v_ne0, v_neT0, v_ltI, v_leI, v_gtI, v_geI, v_is, v_isNot, v_nn, v_ns, v_ni, v_nl, v_nt, v_tb, v_tl, v_tt, v_tn, v_ti, v_asB, v_asI, v_asL, v_asT, v_asS, v_lenL, v_lenT, v_tupL, v_tupT, v_listL, v_listT, v_intB, v_tup0, v_tup1, v_tup2, v_tup3, v_tup4, v_tup5, v_lst0, v_lst1, v_lst2, v_lst3, v_lst4, v_lst5, v_ok0, v_ok1, v_ok2, v_ix0L, v_ix0, v_ix1, v_ix2, v_ix3, v_fs, v_fi, v_fb, v_fn, v_ft, v_f0, v_fc, startR, List.map_cons, List.map_nil, List.length_cons, List.length_nil, List.replicate, List.cons_append, List.nil_append, List.set_cons_zero, List.set_cons_succ, Option.some.injEq, exists_eq_left', Nat.reduceAdd, Nat.reduceSub, Nat.sub_zero, Nat.sub_self, Nat.zero_add, Nat.reduceEqDiff, Bool.not_true, Bool.not_false, if_true, if_false, Bool.and_self, Bool.true_and, Bool.and_true, Bool.false_eq_true, ↓reduceIte, true_and, and_true, decide_true, decide_false, wipeR]
  refine k_app rfl (szl (by rw [st.bx.1, st.len]; omega)) ?_
  try simp only [ok_V0, ok_Vs, ok_K, ok_B, ok_U, ok_nil, ok_cons, ok_N, ok_aN, ok_call, ok_nl, ok_fl, ok_afl, ok_T, ok_qNot, ok_qAnd, ok_qOr, ok_and, ok_or, ok_not, ok_if, ok_Sl, ok_oNo, ok_oOf, ok_Ch, ok_it, ok_itA, ok_yes, v_addI, v_sub, v_neg, v_eqI, v_eqS, v_eqB, v_eq0, v_eqT0, v_neI, v_neS, v_neB, v_ne0, v_neT0, v_ltI, v_leI, v_gtI, v_geI, v_is, v_isNot, v_nn, v_ns, v_ni, v_nl, v_nt, v_tb, v_tl, v_tt, v_tn, v_ti, v_asB, v_asI, v_asL, v_asT, v_asS, v_lenL, v_lenT, v_tupL, v_tupT, v_listL, v_listT, v_intB, v_tup0, v_tup1, v_tup2, v_tup3, v_tup4, v_tup5, v_lst0, v_lst1, v_lst2, v_lst3, v_lst4, v_lst5, v_ok0, v_ok1, v_ok2, v_ix0L, v_ix0, v_ix1, v_ix2, v_ix3, v_fs, v_fi, v_fb, v_fn, v_ft, v_f0, v_fc, startR, List.map_cons, List.map_nil, List.length_cons, List.length_nil, List.replicate, List.cons_append, List.nil_append, List.set_cons_zero, List.set_cons_succ, Option.some.injEq, exists_eq_left', Nat.reduceAdd, Nat.reduceSub, Nat.sub_zero, Nat.sub_self, Nat.zero_add, Nat.reduceEqDiff, Bool.not_true, Bool.not_false, if_true, if_false, Bool.and_self, Bool.true_and, Bool.and_true, Bool.false_eq_true, ↓reduceIte, true_and, and_true, decide_true, decide_false, wipeR]
  refine ⟨L ++ [(l, b)], xs ++ [.tuple [.int l, F, .tuple (.str wd :: zs)]], bs ++ [.tuple (ps'.map (ent (L ++ [(l, b)])))], ps', tk', l, (_, _, _, _, _), ⟨hlen, ?_, ?_, ?_, hnm, ?_, hl0, hl8, htk, htl⟩, rfl⟩
  · exact st.ls.app ⟨F, wd, zs, rfl, hb⟩
  · rw [hlen, ← st.len]
    exact st.bx.more ⟨ps', rfl, har, hnm⟩
  · rw [hlen, ← st.len]
    exact har
  · intro x hx
    rcases List.mem_append.mp hx with hx | hx
    · exact st.lvs x hx
    · have : x = (l, b) := by simpa using hx
      subst this
      exact ⟨hl0, hl1⟩
theorem ok_lines {s : DS} {ns ks ds : List Str} (hn : ns.length ≤ 6) (hk : ks.length ≤ 6) (hd : ds.length ≤ 6) {Q : D → DS → Prop} (q : ∀ xs bs L s', LsD xs L → BxD bs L L.length → L.length ≤ 61 → 1 ≤ L.length → Lv L → Q (.tuple [.tuple xs, .list bs]) s') : Ok (Flines [hnd 0, vocD ns ks ds, .tuple []] s) Q := by
  unfold Flines K_w_lines B_w_lines
  refine k_fn (k_seq (k_asg ?_))
  try simp only [ok_V0, ok_Vs, ok_K, ok_B, ok_U, ok_nil, ok_cons, ok_N, ok_aN, ok_call, ok_nl, ok_fl, ok_afl, ok_T, ok_qNot, ok_qAnd, ok_qOr, ok_and, ok_or, ok_not, ok_if, ok_Sl, ok_oNo, ok_oOf, ok_Ch, ok_it, ok_itA, ok_yes, v_addI, v_sub, v_neg, v_eqI, v_eqS, v_eqB, v_eq0, v_eqT0, v_neI, v_neS, v_neB, v_ne0, v_neT0, v_ltI, v_leI, v_gtI, v_geI, v_is, v_isNot, v_nn, v_ns, v_ni, v_nl, v_nt, v_tb, v_tl, v_tt, v_tn, v_ti, v_asB, v_asI, v_asL, v_asT, v_asS, v_lenL, v_lenT, v_tupL, v_tupT, v_listL, v_listT, v_intB, v_tup0, v_tup1, v_tup2, v_tup3, v_tup4, v_tup5, v_lst0, v_lst1, v_lst2, v_lst3, v_lst4, v_lst5, v_ok0, v_ok1, v_ok2, v_ix0L, v_ix0, v_ix1, v_ix2, v_ix3, v_fs, v_fi, v_fb, v_fn, v_ft, v_f0, v_fc, startR, List.map_cons, List.map_nil, List.length_cons, List.length_nil, List.replicate, List.cons_append, List.nil_append, List.set_cons_zero, List.set_cons_succ, Option.some.injEq, exists_eq_left', Nat.reduceAdd, Nat.reduceSub, Nat.sub_zero, Nat.sub_self, Nat.zero_add, Nat.reduceEqDiff, Bool.not_true, Bool.not_false, if_true, if_false, Bool.and_self, Bool.true_and, Bool.and_true, Bool.false_eq_true, ↓reduceIte, true_and, and_true, decide_true, decide_false, wipeR]
  refine ⟨_, rfl, k_seq (k_set ?_)⟩
  try simp only [ok_V0, ok_Vs, ok_K, ok_B, ok_U, ok_nil, ok_cons, ok_N, ok_aN, ok_call, ok_nl, ok_fl, ok_afl, ok_T, ok_qNot, ok_qAnd, ok_qOr, ok_and, ok_or, ok_not, ok_if, ok_Sl, ok_oNo, ok_oOf, ok_Ch, ok_it, ok_itA, ok_yes, v_addI, v_sub, v_neg, v_eqI, v_eqS, v_eqB, v_eq0, v_eqT0, v_neI, v_neS, v_neB, v_ne0, v_neT0, v_ltI, v_leI, v_gtI, v_geI, v_is, v_isNot, v_nn, v_ns, v_ni, v_nl, v_nt, v_tb, v_tl, v_tt, v_tn, v_ti, v_asB, v_asI, v_asL, v_asT, v_asS, v_lenL, v_lenT, v_tupL, v_tupT, v_listL, v_listT, v_intB, v_tup0, v_tup1, v_tup2, v_tup3, v_tup4, v_tup5, v_lst0, v_lst1, v_lst2, v_lst3, v_lst4, v_lst5, v_ok0, v_ok1, v_ok2, v_ix0L, v_ix0, v_ix1, v_ix2, v_ix3, v_fs, v_fi, v_fb, v_fn, v_ft, v_f0, v_fc, startR, List.map_cons, List.map_nil, List.length_cons, List.length_nil, List.replicate, List.cons_append, List.nil_append, List.set_cons_zero, List.set_cons_succ, Option.some.injEq, exists_eq_left', Nat.reduceAdd, Nat.reduceSub, Nat.sub_zero, Nat.sub_self, Nat.zero_add, Nat.reduceEqDiff, Bool.not_true, Bool.not_false, if_true, if_false, Bool.and_self, Bool.true_and, Bool.and_true, Bool.false_eq_true, ↓reduceIte, true_and, and_true, decide_true, decide_false, wipeR]
  refine k_keep (ds := []) (fun _ => true) (fun d => d) (by decide) rfl (fun d hd => nomatch hd) ?_
  rw [v_addL (szL (by simp; omega))]
  simp only [ok_V0, ok_Vs, ok_K, ok_B, ok_U, ok_nil, ok_cons, ok_N, ok_aN, ok_call, ok_nl, ok_fl, ok_afl, ok_T, ok_qNot, ok_qAnd, ok_qOr, ok_and, ok_or, ok_not, ok_if, ok_Sl, ok_oNo, ok_oOf, ok_Ch, ok_it, ok_itA, ok_yes, v_addI, v_sub, v_neg, v_eqI, v_eqS, v_eqB, v_eq0, v_eqT0, v_neI, v_neS, v_neB, v_ne0, v_neT0, v_ltI, v_leI, v_gtI, v_geI, v_is, v_isNot, v_nn, v_ns, v_ni, v_nl, v_nt, v_tb, v_tl, v_tt, v_tn, v_ti, v_asB, v_asI, v_asL, v_asT, v_asS, v_lenL, v_lenT, v_tupL, v_tupT, v_listL, v_listT, v_intB, v_tup0, v_tup1, v_tup2, v_tup3, v_tup4, v_tup5, v_lst0, v_lst1, v_lst2, v_lst3, v_lst4, v_lst5, v_ok0, v_ok1, v_ok2, v_ix0L, v_ix0, v_ix1, v_ix2, v_ix3, v_fs, v_fi, v_fb, v_fn, v_ft, v_f0, v_fc, startR, List.map_cons, List.map_nil, List.length_cons, List.length_nil, List.replicate, List.cons_append, List.nil_append, List.set_cons_zero, List.set_cons_succ, Option.some.injEq, exists_eq_left', Nat.reduceAdd, Nat.reduceSub, Nat.sub_zero, Nat.sub_self, Nat.zero_add, Nat.reduceEqDiff, Bool.not_true, Bool.not_false, if_true, if_false, Bool.and_self, Bool.true_and, Bool.and_true, Bool.false_eq_true, ↓reduceIte, true_and, and_true, decide_true, decide_false, wipeR, ls_eq]
  rw [v_addL (szL (by simp))]
  try simp only [ok_V0, ok_Vs, ok_K, ok_B, ok_U, ok_nil, ok_cons, ok_N, ok_aN, ok_call, ok_nl, ok_fl, ok_afl, ok_T, ok_qNot, ok_qAnd, ok_qOr, ok_and, ok_or, ok_not, ok_if, ok_Sl, ok_oNo, ok_oOf, ok_Ch, ok_it, ok_itA, ok_yes, v_addI, v_sub, v_neg, v_eqI, v_eqS, v_eqB, v_eq0, v_eqT0, v_neI, v_neS, v_neB, v_ne0, v_neT0, v_ltI, v_leI, v_gtI, v_geI, v_is, v_isNot, v_nn, v_ns, v_ni, v_nl, v_nt, v_tb, v_tl, v_tt, v_tn, v_ti, v_asB, v_asI, v_asL, v_asT, v_asS, v_lenL, v_lenT, v_tupL, v_tupT, v_listL, v_listT, v_intB, v_tup0, v_tup1, v_tup2, v_tup3, v_tup4, v_tup5, v_lst0, v_lst1, v_lst2, v_lst3, v_lst4, v_lst5, v_ok0, v_ok1, v_ok2, v_ix0L, v_ix0, v_ix1, v_ix2, v_ix3, v_fs, v_fi, v_fb, v_fn, v_ft, v_f0, v_fc, startR, List.map_cons, List.map_nil, List.length_cons, List.length_nil, List.replicate, List.cons_append, List.nil_append, List.set_cons_zero, List.set_cons_succ, Option.some.injEq, exists_eq_left', Nat.reduceAdd, Nat.reduceSub, Nat.sub_zero, Nat.sub_self, Nat.zero_add, Nat.reduceEqDiff, Bool.not_true, Bool.not_false, if_true, if_false, Bool.and_self, Bool.true_and, Bool.and_true, Bool.false_eq_true, ↓reduceIte, true_and, and_true, decide_true, decide_false, wipeR]
  refine k_seq (k_set ?_)
  try simp only [ok_V0, ok_Vs, ok_K, ok_B, ok_U, ok_nil, ok_cons, ok_N, ok_aN, ok_call, ok_nl, ok_fl, ok_afl, ok_T, ok_qNot, ok_qAnd, ok_qOr, ok_and, ok_or, ok_not, ok_if, ok_Sl, ok_oNo, ok_oOf, ok_Ch, ok_it, ok_itA, ok_yes, v_addI, v_sub, v_neg, v_eqI, v_eqS, v_eqB, v_eq0, v_eqT0, v_neI, v_neS, v_neB, v_ne0, v_neT0, v_ltI, v_leI, v_gtI, v_geI, v_is, v_isNot, v_nn, v_ns, v_ni, v_nl, v_nt, v_tb, v_tl, v_tt, v_tn, v_ti, v_asB, v_asI, v_asL, v_asT, v_asS, v_lenL, v_lenT, v_tupL, v_tupT, v_listL, v_listT, v_intB, v_tup0, v_tup1, v_tup2, v_tup3, v_tup4, v_tup5, v_lst0, v_lst1, v_lst2, v_lst3, v_lst4, v_lst5, v_ok0, v_ok1, v_ok2, v_ix0L, v_ix0, v_ix1, v_ix2, v_ix3, v_fs, v_fi, v_fb, v_fn, v_ft, v_f0, v_fc, startR, List.map_cons, List.map_nil, List.length_cons, List.length_nil, List.replicate, List.cons_append, List.nil_append, List.set_cons_zero, List.set_cons_succ, Option.some.injEq, exists_eq_left', Nat.reduceAdd, Nat.reduceSub, Nat.sub_zero, Nat.sub_self, Nat.zero_add, Nat.reduceEqDiff, Bool.not_true, Bool.not_false, if_true, if_false, Bool.and_self, Bool.true_and, Bool.and_true, Bool.false_eq_true, ↓reduceIte, true_and, and_true, decide_true, decide_false, wipeR]
  refine k_draw (by omega) (by omega) fun r s1 r0 r1 => ?_
  obtain ⟨n1, hn1, e1⟩ := ix_ints (ns := [9, 9, 9, 60]) (r := r) r0 (by simpa using r1)
  simp only [List.map_cons, List.map_nil] at e1
  have b1 : 9 ≤ n1 ∧ n1 ≤ 60 := by simp at hn1; omega
  simp only [ok_V0, ok_Vs, ok_K, ok_B, ok_U, ok_nil, ok_cons, ok_N, ok_aN, ok_call, ok_nl, ok_fl, ok_afl, ok_T, ok_qNot, ok_qAnd, ok_qOr, ok_and, ok_or, ok_not, ok_if, ok_Sl, ok_oNo, ok_oOf, ok_Ch, ok_it, ok_itA, ok_yes, v_addI, v_sub, v_neg, v_eqI, v_eqS, v_eqB, v_eq0, v_eqT0, v_neI, v_neS, v_neB, v_ne0, v_neT0, v_ltI, v_leI, v_gtI, v_geI, v_is, v_isNot, v_nn, v_ns, v_ni, v_nl, v_nt, v_tb, v_tl, v_tt, v_tn, v_ti, v_asB, v_asI, v_asL, v_asT, v_asS, v_lenL, v_lenT, v_tupL, v_tupT, v_listL, v_listT, v_intB, v_tup0, v_tup1, v_tup2, v_tup3, v_tup4, v_tup5, v_lst0, v_lst1, v_lst2, v_lst3, v_lst4, v_lst5, v_ok0, v_ok1, v_ok2, v_ix0L, v_ix0, v_ix1, v_ix2, v_ix3, v_fs, v_fi, v_fb, v_fn, v_ft, v_f0, v_fc, startR, List.map_cons, List.map_nil, List.length_cons, List.length_nil, List.replicate, List.cons_append, List.nil_append, List.set_cons_zero, List.set_cons_succ, Option.some.injEq, exists_eq_left', Nat.reduceAdd, Nat.reduceSub, Nat.sub_zero, Nat.sub_self, Nat.zero_add, Nat.reduceEqDiff, Bool.not_true, Bool.not_false, if_true, if_false, Bool.and_self, Bool.true_and, Bool.and_true, Bool.false_eq_true, ↓reduceIte, true_and, and_true, decide_true, decide_false, wipeR, e1]
  refine k_draw (by omega) (by omega) fun m s2 m0 m1 => ?_
  refine k_seq (k_own ?_)
  try simp only [ok_V0, ok_Vs, ok_K, ok_B, ok_U, ok_nil, ok_cons, ok_N, ok_aN, ok_call, ok_nl, ok_fl, ok_afl, ok_T, ok_qNot, ok_qAnd, ok_qOr, ok_and, ok_or, ok_not, ok_if, ok_Sl, ok_oNo, ok_oOf, ok_Ch, ok_it, ok_itA, ok_yes, v_addI, v_sub, v_neg, v_eqI, v_eqS, v_eqB, v_eq0, v_eqT0, v_neI, v_neS, v_neB, v_ne0, v_neT0, v_ltI, v_leI, v_gtI, v_geI, v_is, v_isNot, v_nn, v_ns, v_ni, v_nl, v_nt, v_tb, v_tl, v_tt, v_tn, v_ti, v_asB, v_asI, v_asL, v_asT, v_asS, v_lenL, v_lenT, v_tupL, v_tupT, v_listL, v_listT, v_intB, v_tup0, v_tup1, v_tup2, v_tup3, v_tup4, v_tup5, v_lst0, v_lst1, v_lst2, v_lst3, v_lst4, v_lst5, v_ok0, v_ok1, v_ok2, v_ix0L, v_ix0, v_ix1, v_ix2, v_ix3, v_fs, v_fi, v_fb, v_fn, v_ft, v_f0, v_fc, startR, List.map_cons, List.map_nil, List.length_cons, List.length_nil, List.replicate, List.cons_append, List.nil_append, List.set_cons_zero, List.set_cons_succ, Option.some.injEq, exists_eq_left', Nat.reduceAdd, Nat.reduceSub, Nat.sub_zero, Nat.sub_self, Nat.zero_add, Nat.reduceEqDiff, Bool.not_true, Bool.not_false, if_true, if_false, Bool.and_self, Bool.true_and, Bool.and_true, Bool.false_eq_true, ↓reduceIte, true_and, and_true, decide_true, decide_false, wipeR]
  refine k_seq (k_own ?_)
  try simp only [ok_V0, ok_Vs, ok_K, ok_B, ok_U, ok_nil, ok_cons, ok_N, ok_aN, ok_call, ok_nl, ok_fl, ok_afl, ok_T, ok_qNot, ok_qAnd, ok_qOr, ok_and, ok_or, ok_not, ok_if, ok_Sl, ok_oNo, ok_oOf, ok_Ch, ok_it, ok_itA, ok_yes, v_addI, v_sub, v_neg, v_eqI, v_eqS, v_eqB, v_eq0, v_eqT0, v_neI, v_neS, v_neB, v_ne0, v_neT0, v_ltI, v_leI, v_gtI, v_geI, v_is, v_isNot, v_nn, v_ns, v_ni, v_nl, v_nt, v_tb, v_tl, v_tt, v_tn, v_ti, v_asB, v_asI, v_asL, v_asT, v_asS, v_lenL, v_lenT, v_tupL, v_tupT, v_listL, v_listT, v_intB, v_tup0, v_tup1, v_tup2, v_tup3, v_tup4, v_tup5, v_lst0, v_lst1, v_lst2, v_lst3, v_lst4, v_lst5, v_ok0, v_ok1, v_ok2, v_ix0L, v_ix0, v_ix1, v_ix2, v_ix3, v_fs, v_fi, v_fb, v_fn, v_ft, v_f0, v_fc, startR, List.map_cons, List.map_nil, List.length_cons, List.length_nil, List.replicate, List.cons_append, List.nil_append, List.set_cons_zero, List.set_cons_succ, Option.some.injEq, exists_eq_left', Nat.reduceAdd, Nat.reduceSub, Nat.sub_zero, Nat.sub_self, Nat.zero_add, Nat.reduceEqDiff, Bool.not_true, Bool.not_false, if_true, if_false, Bool.and_self, Bool.true_and, Bool.and_true, Bool.false_eq_true, ↓reduceIte, true_and, and_true, decide_true, decide_false, wipeR]
  refine k_seq (k_set ?_)
  try simp only [ok_V0, ok_Vs, ok_K, ok_B, ok_U, ok_nil, ok_cons, ok_N, ok_aN, ok_call, ok_nl, ok_fl, ok_afl, ok_T, ok_qNot, ok_qAnd, ok_qOr, ok_and, ok_or, ok_not, ok_if, ok_Sl, ok_oNo, ok_oOf, ok_Ch, ok_it, ok_itA, ok_yes, v_addI, v_sub, v_neg, v_eqI, v_eqS, v_eqB, v_eq0, v_eqT0, v_neI, v_neS, v_neB, v_ne0, v_neT0, v_ltI, v_leI, v_gtI, v_geI, v_is, v_isNot, v_nn, v_ns, v_ni, v_nl, v_nt, v_tb, v_tl, v_tt, v_tn, v_ti, v_asB, v_asI, v_asL, v_asT, v_asS, v_lenL, v_lenT, v_tupL, v_tupT, v_listL, v_listT, v_intB, v_tup0, v_tup1, v_tup2, v_tup3, v_tup4, v_tup5, v_lst0, v_lst1, v_lst2, v_lst3, v_lst4, v_lst5, v_ok0, v_ok1, v_ok2, v_ix0L, v_ix0, v_ix1, v_ix2, v_ix3, v_fs, v_fi, v_fb, v_fn, v_ft, v_f0, v_fc, startR, List.map_cons, List.map_nil, List.length_cons, List.length_nil, List.replicate, List.cons_append, List.nil_append, List.set_cons_zero, List.set_cons_succ, Option.some.injEq, exists_eq_left', Nat.reduceAdd, Nat.reduceSub, Nat.sub_zero, Nat.sub_self, Nat.zero_add, Nat.reduceEqDiff, Bool.not_true, Bool.not_false, if_true, if_false, Bool.and_self, Bool.true_and, Bool.and_true, Bool.false_eq_true, ↓reduceIte, true_and, and_true, decide_true, decide_false, wipeR]
  refine k_seq (k_own ?_)
  try simp only [ok_V0, ok_Vs, ok_K, ok_B, ok_U, ok_nil, ok_cons, ok_N, ok_aN, ok_call, ok_nl, ok_fl, ok_afl, ok_T, ok_qNot, ok_qAnd, ok_qOr, ok_and, ok_or, ok_not, ok_if, ok_Sl, ok_oNo, ok_oOf, ok_Ch, ok_it, ok_itA, ok_yes, v_addI, v_sub, v_neg, v_eqI, v_eqS, v_eqB, v_eq0, v_eqT0, v_neI, v_neS, v_neB, v_ne0, v_neT0, v_ltI, v_leI, v_gtI, v_geI, v_is, v_isNot, v_nn, v_ns, v_ni, v_nl, v_nt, v_tb, v_tl, v_tt, v_tn, v_ti, v_asB, v_asI, v_asL, v_asT, v_asS, v_lenL, v_lenT, v_tupL, v_tupT, v_listL, v_listT, v_intB, v_tup0, v_tup1, v_tup2, v_tup3, v_tup4, v_tup5, v_lst0, v_lst1, v_lst2, v_lst3, v_lst4, v_lst5, v_ok0, v_ok1, v_ok2, v_ix0L, v_ix0, v_ix1, v_ix2, v_ix3, v_fs, v_fi, v_fb, v_fn, v_ft, v_f0, v_fc, startR, List.map_cons, List.map_nil, List.length_cons, List.length_nil, List.replicate, List.cons_append, List.nil_append, List.set_cons_zero, List.set_cons_succ, Option.some.injEq, exists_eq_left', Nat.reduceAdd, Nat.reduceSub, Nat.sub_zero, Nat.sub_self, Nat.zero_add, Nat.reduceEqDiff, Bool.not_true, Bool.not_false, if_true, if_false, Bool.and_self, Bool.true_and, Bool.and_true, Bool.false_eq_true, ↓reduceIte, true_and, and_true, decide_true, decide_false, wipeR]
  refine k_seq (k_set ?_)
  try simp only [ok_V0, ok_Vs, ok_K, ok_B, ok_U, ok_nil, ok_cons, ok_N, ok_aN, ok_call, ok_nl, ok_fl, ok_afl, ok_T, ok_qNot, ok_qAnd, ok_qOr, ok_and, ok_or, ok_not, ok_if, ok_Sl, ok_oNo, ok_oOf, ok_Ch, ok_it, ok_itA, ok_yes, v_addI, v_sub, v_neg, v_eqI, v_eqS, v_eqB, v_eq0, v_eqT0, v_neI, v_neS, v_neB, v_ne0, v_neT0, v_ltI, v_leI, v_gtI, v_geI, v_is, v_isNot, v_nn, v_ns, v_ni, v_nl, v_nt, v_tb, v_tl, v_tt, v_tn, v_ti, v_asB, v_asI, v_asL, v_asT, v_asS, v_lenL, v_lenT, v_tupL, v_tupT, v_listL, v_listT, v_intB, v_tup0, v_tup1, v_tup2, v_tup3, v_tup4, v_tup5, v_lst0, v_lst1, v_lst2, v_lst3, v_lst4, v_lst5, v_ok0, v_ok1, v_ok2, v_ix0L, v_ix0, v_ix1, v_ix2, v_ix3, v_fs, v_fi, v_fb, v_fn, v_ft, v_f0, v_fc, startR, List.map_cons, List.map_nil, List.length_cons, List.length_nil, List.replicate, List.cons_append, List.nil_append, List.set_cons_zero, List.set_cons_succ, Option.some.injEq, exists_eq_left', Nat.reduceAdd, Nat.reduceSub, Nat.sub_zero, Nat.sub_self, Nat.zero_add, Nat.reduceEqDiff, Bool.not_true, Bool.not_false, if_true, if_false, Bool.and_self, Bool.true_and, Bool.and_true, Bool.false_eq_true, ↓reduceIte, true_and, and_true, decide_true, decide_false, wipeR]
  refine k_seq (k_forP (fun ds _ => ds = rngD 1 m.toNat) ?_ ?_)
  · simp only [ok_V0, ok_Vs, ok_K, ok_B, ok_U, ok_nil, ok_cons, ok_N, ok_aN, ok_call, ok_nl, ok_fl, ok_afl, ok_T, ok_qNot, ok_qAnd, ok_qOr, ok_and, ok_or, ok_not, ok_if, ok_Sl, ok_oNo, ok_oOf, ok_Ch, ok_it, ok_itA, ok_yes, v_addI, v_sub, v_neg, v_eqI, v_eqS, v_eqB, v_eq0, v_eqT0, v_neI, v_neS, v_neB, v_ne0, v_neT0, v_ltI, v_leI, v_gtI, v_geI, v_is, v_isNot, v_nn, v_ns, v_ni, v_nl, v_nt, v_tb, v_tl, v_tt, v_tn, v_ti, v_asB, v_asI, v_asL, v_asT, v_asS, v_lenL, v_lenT, v_tupL, v_tupT, v_listL, v_listT, v_intB, v_tup0, v_tup1, v_tup2, v_tup3, v_tup4, v_tup5, v_lst0, v_lst1, v_lst2, v_lst3, v_lst4, v_lst5, v_ok0, v_ok1, v_ok2, v_ix0L, v_ix0, v_ix1, v_ix2, v_ix3, v_fs, v_fi, v_fb, v_fn, v_ft, v_f0, v_fc, startR, List.map_cons, List.map_nil, List.length_cons, List.length_nil, List.replicate, List.cons_append, List.nil_append, List.set_cons_zero, List.set_cons_succ, Option.some.injEq, exists_eq_left', Nat.reduceAdd, Nat.reduceSub, Nat.sub_zero, Nat.sub_self, Nat.zero_add, Nat.reduceEqDiff, Bool.not_true, Bool.not_false, if_true, if_false, Bool.and_self, Bool.true_and, Bool.and_true, Bool.false_eq_true, ↓reduceIte, true_and, and_true, decide_true, decide_false, wipeR]
    refine ⟨_, pr2 ⟨by omega, by omega, by omega, by omega⟩, ?_⟩
    rw [show (m + 1 - 1).toNat = m.toNat by omega]
  rintro _ s3 rfl
  refine ⟨fun j ρ _ => ∃ L xs bs ps tk lv y, St ns j L xs bs ps tk lv ∧ ρ = envL ns ks ds m L xs bs ps tk lv y, ⟨[], [], [], [], ns, 0, (none, none, none, none, none), ⟨rfl, ⟨rfl, fun i x h => nomatch h⟩, ⟨rfl, fun j h => absurd h (by simp)⟩, rfl, (fun p h => nomatch h), (fun x h => nomatch h), by omega, by omega, Tak.start ns, by omega⟩, ?_⟩, ?_, ?_⟩
  · unfold envL stockD vocD letW
    simp
  · rintro j d ρ s hdj ⟨L, xs, bs, ps, tk, lv, y, st, rfl⟩
    obtain ⟨hj, rfl⟩ := range_get hdj
    have hj : j < 60 := by omega
    refine ⟨_, rfl, ?_⟩
    unfold envL
    simp only [ok_V0, ok_Vs, ok_K, ok_B, ok_U, ok_nil, ok_cons, ok_N, ok_aN, ok_call, ok_nl, ok_fl, ok_afl, ok_T, ok_qNot, ok_qAnd, ok_qOr, ok_and, ok_or, ok_not, ok_if, ok_Sl, ok_oNo, ok_oOf, ok_Ch, ok_it, ok_itA, ok_yes, v_addI, v_sub, v_neg, v_eqI, v_eqS, v_eqB, v_eq0, v_eqT0, v_neI, v_neS, v_neB, v_ne0, v_neT0, v_ltI, v_leI, v_gtI, v_geI, v_is, v_isNot, v_nn, v_ns, v_ni, v_nl, v_nt, v_tb, v_tl, v_tt, v_tn, v_ti, v_asB, v_asI, v_asL, v_asT, v_asS, v_lenL, v_lenT, v_tupL, v_tupT, v_listL, v_listT, v_intB, v_tup0, v_tup1, v_tup2, v_tup3, v_tup4, v_tup5, v_lst0, v_lst1, v_lst2, v_lst3, v_lst4, v_lst5, v_ok0, v_ok1, v_ok2, v_ix0L, v_ix0, v_ix1, v_ix2, v_ix3, v_fs, v_fi, v_fb, v_fn, v_ft, v_f0, v_fc, startR, List.map_cons, List.map_nil, List.length_cons, List.length_nil, List.replicate, List.cons_append, List.nil_append, List.set_cons_zero, List.set_cons_succ, Option.some.injEq, exists_eq_left', Nat.reduceAdd, Nat.reduceSub, Nat.sub_zero, Nat.sub_self, Nat.zero_add, Nat.reduceEqDiff, Bool.not_true, Bool.not_false, if_true, if_false, Bool.and_self, Bool.true_and, Bool.and_true, Bool.false_eq_true, ↓reduceIte, true_and, and_true, decide_true, decide_false, wipeR]
    have go : ∀ (b : Bool) (s : DS), (b = true → lv < 8) → ∀ (y15 y16 y17 : Option D), Ok (sSeq (sIf (qT (cVar 14))
      (sSeq (sSet 12 (cB pIx (cN pLst (aCons (cB pAdd (cVar 12) (cK (.int 1))) (aCons (cB pAdd (cK (.int 1)) (cCall 2 Fdraw (aCons (cVar 0) (aCons (cB pAdd (cVar 12) (cK (.int 1))) aNil)))) aNil))) (cCall 2 Fdraw (aCons (cVar 0) (aCons (cK (.int 2)) aNil)))))
        (sSeq (sApp 11 (cFl (cCall 3 K_w_unlike (aCons (cB pAdd (cB pAdd (cK (.str "Zq")) (cB pIx (cK (.str "abcdefgh")) (cB pMod (cVar 13) (cK (.int 8))))) (cB pIx (cK (.str "abcdefgh")) (cB pFdiv (cVar 13) (cK (.int 8))))) (aCons (cVar 11) (aCons (cK (.str "W")) aNil))))))
        (sSeq (sAsg (cFl (cCall 3 Fopener (aCons (cVar 0) (aCons (cB pAdd (cVar 7) (cK (.int 1))) (aCons (cB pIx (cVar 11) (cU pNeg (cK (.int 1)))) aNil))))) (gTp (gC (gNm 15) (gC (gNm 16) gN0))))
        (sSet 10 (cB pAdd (cNl (lcF (iOf asL (cVar 10)) (gNm 18) (qT (cB pLt (cB pIx (cVar 18) (cK (.int 0))) (cVar 12))) (cVar 18) [18])) (cN pLst (aCons (cN pTup (aCons (cVar 12) (aCons (cVar 13) (aCons (cVar 16) aNil)))) aNil)))))))
      (sSeq (sSet 12 (cB pIx (cN pLst (aCons (cVar 12) (aCons (cVar 12) (aCons (cCall 2 Fdraw (aCons (cVar 0) (aCons (cB pAdd (cVar 12) (cK (.int 1))) aNil))) aNil)))) (cCall 2 Fdraw (aCons (cVar 0) (aCons (cK (.int 3)) aNil)))))
        (sSeq (sSet 15 (cCall 2 Freason (aCons (cVar 0) (aCons (cB pAdd (cVar 7) (cK (.int 1))) aNil))))
        (sSet 10 (cNl (lcF (iOf asL (cVar 10)) (gNm 18) (qT (cB pLe (cB pIx (cVar 18) (cK (.int 0))) (cVar 12))) (cVar 18) [18])))))) restL
        [some (hnd 0), some (vocD ns ks ds), some (.tuple []), some (.tuple (ns.map .str)), some (.tuple (ks.map .str)), some (.tuple (ds.map .str)), some (stockD ks ks ds letW), some (.int m), some (.list xs), some (.list bs), some (.list (ps.map (ent L))), some (.list (tk.map .str)), some (.int lv), some (.int (1 + (j : Int))), some (.bool b), y15, y16, y17, none] s)
      fun r _ => match r with | .nx ρ => ∃ L xs bs ps tk lv y, St ns (j + 1) L xs bs ps tk lv ∧ ρ = envL ns ks ds m L xs bs ps tk lv y | _ => False := by
      intro b s hb8 y15 y16 y17
      have l0 := st.l0
      have l8 := st.l8
      have lenL := st.len
      have hplen : ps.length ≤ 60 := by
        have h1 : (ps.map (·.1)).length = ps.length := List.length_map _
        rw [st.ar] at h1
        have h2 := arN_len L L.length
        omega
      refine k_seq (k_sIf ?_)
      try simp only [ok_V0, ok_Vs, ok_K, ok_B, ok_U, ok_nil, ok_cons, ok_N, ok_aN, ok_call, ok_nl, ok_fl, ok_afl, ok_T, ok_qNot, ok_qAnd, ok_qOr, ok_and, ok_or, ok_not, ok_if, ok_Sl, ok_oNo, ok_oOf, ok_Ch, ok_it, ok_itA, ok_yes, v_addI, v_sub, v_neg, v_eqI, v_eqS, v_eqB, v_eq0, v_eqT0, v_neI, v_neS, v_neB, v_ne0, v_neT0, v_ltI, v_leI, v_gtI, v_geI, v_is, v_isNot, v_nn, v_ns, v_ni, v_nl, v_nt, v_tb, v_tl, v_tt, v_tn, v_ti, v_asB, v_asI, v_asL, v_asT, v_asS, v_lenL, v_lenT, v_tupL, v_tupT, v_listL, v_listT, v_intB, v_tup0, v_tup1, v_tup2, v_tup3, v_tup4, v_tup5, v_lst0, v_lst1, v_lst2, v_lst3, v_lst4, v_lst5, v_ok0, v_ok1, v_ok2, v_ix0L, v_ix0, v_ix1, v_ix2, v_ix3, v_fs, v_fi, v_fb, v_fn, v_ft, v_f0, v_fc, startR, List.map_cons, List.map_nil, List.length_cons, List.length_nil, List.replicate, List.cons_append, List.nil_append, List.set_cons_zero, List.set_cons_succ, Option.some.injEq, exists_eq_left', Nat.reduceAdd, Nat.reduceSub, Nat.sub_zero, Nat.sub_self, Nat.zero_add, Nat.reduceEqDiff, Bool.not_true, Bool.not_false, if_true, if_false, Bool.and_self, Bool.true_and, Bool.and_true, Bool.false_eq_true, ↓reduceIte, true_and, and_true, decide_true, decide_false, wipeR]
      cases b with
      | true =>
        have hb8 := hb8 rfl
        try simp only [ok_V0, ok_Vs, ok_K, ok_B, ok_U, ok_nil, ok_cons, ok_N, ok_aN, ok_call, ok_nl, ok_fl, ok_afl, ok_T, ok_qNot, ok_qAnd, ok_qOr, ok_and, ok_or, ok_not, ok_if, ok_Sl, ok_oNo, ok_oOf, ok_Ch, ok_it, ok_itA, ok_yes, v_addI, v_sub, v_neg, v_eqI, v_eqS, v_eqB, v_eq0, v_eqT0, v_neI, v_neS, v_neB, v_ne0, v_neT0, v_ltI, v_leI, v_gtI, v_geI, v_is, v_isNot, v_nn, v_ns, v_ni, v_nl, v_nt, v_tb, v_tl, v_tt, v_tn, v_ti, v_asB, v_asI, v_asL, v_asT, v_asS, v_lenL, v_lenT, v_tupL, v_tupT, v_listL, v_listT, v_intB, v_tup0, v_tup1, v_tup2, v_tup3, v_tup4, v_tup5, v_lst0, v_lst1, v_lst2, v_lst3, v_lst4, v_lst5, v_ok0, v_ok1, v_ok2, v_ix0L, v_ix0, v_ix1, v_ix2, v_ix3, v_fs, v_fi, v_fb, v_fn, v_ft, v_f0, v_fc, startR, List.map_cons, List.map_nil, List.length_cons, List.length_nil, List.replicate, List.cons_append, List.nil_append, List.set_cons_zero, List.set_cons_succ, Option.some.injEq, exists_eq_left', Nat.reduceAdd, Nat.reduceSub, Nat.sub_zero, Nat.sub_self, Nat.zero_add, Nat.reduceEqDiff, Bool.not_true, Bool.not_false, if_true, if_false, Bool.and_self, Bool.true_and, Bool.and_true, Bool.false_eq_true, ↓reduceIte, true_and, and_true, decide_true, decide_false, wipeR]
        refine k_seq (k_set ?_)
        try simp only [ok_V0, ok_Vs, ok_K, ok_B, ok_U, ok_nil, ok_cons, ok_N, ok_aN, ok_call, ok_nl, ok_fl, ok_afl, ok_T, ok_qNot, ok_qAnd, ok_qOr, ok_and, ok_or, ok_not, ok_if, ok_Sl, ok_oNo, ok_oOf, ok_Ch, ok_it, ok_itA, ok_yes, v_addI, v_sub, v_neg, v_eqI, v_eqS, v_eqB, v_eq0, v_eqT0, v_neI, v_neS, v_neB, v_ne0, v_neT0, v_ltI, v_leI, v_gtI, v_geI, v_is, v_isNot, v_nn, v_ns, v_ni, v_nl, v_nt, v_tb, v_tl, v_tt, v_tn, v_ti, v_asB, v_asI, v_asL, v_asT, v_asS, v_lenL, v_lenT, v_tupL, v_tupT, v_listL, v_listT, v_intB, v_tup0, v_tup1, v_tup2, v_tup3, v_tup4, v_tup5, v_lst0, v_lst1, v_lst2, v_lst3, v_lst4, v_lst5, v_ok0, v_ok1, v_ok2, v_ix0L, v_ix0, v_ix1, v_ix2, v_ix3, v_fs, v_fi, v_fb, v_fn, v_ft, v_f0, v_fc, startR, List.map_cons, List.map_nil, List.length_cons, List.length_nil, List.replicate, List.cons_append, List.nil_append, List.set_cons_zero, List.set_cons_succ, Option.some.injEq, exists_eq_left', Nat.reduceAdd, Nat.reduceSub, Nat.sub_zero, Nat.sub_self, Nat.zero_add, Nat.reduceEqDiff, Bool.not_true, Bool.not_false, if_true, if_false, Bool.and_self, Bool.true_and, Bool.and_true, Bool.false_eq_true, ↓reduceIte, true_and, and_true, decide_true, decide_false, wipeR]
        refine k_draw (by omega) (by omega) fun r s4 r0 r1 => ?_
        try simp only [ok_V0, ok_Vs, ok_K, ok_B, ok_U, ok_nil, ok_cons, ok_N, ok_aN, ok_call, ok_nl, ok_fl, ok_afl, ok_T, ok_qNot, ok_qAnd, ok_qOr, ok_and, ok_or, ok_not, ok_if, ok_Sl, ok_oNo, ok_oOf, ok_Ch, ok_it, ok_itA, ok_yes, v_addI, v_sub, v_neg, v_eqI, v_eqS, v_eqB, v_eq0, v_eqT0, v_neI, v_neS, v_neB, v_ne0, v_neT0, v_ltI, v_leI, v_gtI, v_geI, v_is, v_isNot, v_nn, v_ns, v_ni, v_nl, v_nt, v_tb, v_tl, v_tt, v_tn, v_ti, v_asB, v_asI, v_asL, v_asT, v_asS, v_lenL, v_lenT, v_tupL, v_tupT, v_listL, v_listT, v_intB, v_tup0, v_tup1, v_tup2, v_tup3, v_tup4, v_tup5, v_lst0, v_lst1, v_lst2, v_lst3, v_lst4, v_lst5, v_ok0, v_ok1, v_ok2, v_ix0L, v_ix0, v_ix1, v_ix2, v_ix3, v_fs, v_fi, v_fb, v_fn, v_ft, v_f0, v_fc, startR, List.map_cons, List.map_nil, List.length_cons, List.length_nil, List.replicate, List.cons_append, List.nil_append, List.set_cons_zero, List.set_cons_succ, Option.some.injEq, exists_eq_left', Nat.reduceAdd, Nat.reduceSub, Nat.sub_zero, Nat.sub_self, Nat.zero_add, Nat.reduceEqDiff, Bool.not_true, Bool.not_false, if_true, if_false, Bool.and_self, Bool.true_and, Bool.and_true, Bool.false_eq_true, ↓reduceIte, true_and, and_true, decide_true, decide_false, wipeR]
        refine k_draw (by omega) (by omega) fun r' s5 p0 p1 => ?_
        obtain ⟨l, hl, el⟩ := ix_ints (ns := [lv + 1, 1 + r]) (r := r') p0 (by simpa using p1)
        simp only [List.map_cons, List.map_nil] at el
        have bl : 1 ≤ l ∧ l ≤ 8 := by simp at hl; omega
        simp only [ok_V0, ok_Vs, ok_K, ok_B, ok_U, ok_nil, ok_cons, ok_N, ok_aN, ok_call, ok_nl, ok_fl, ok_afl, ok_T, ok_qNot, ok_qAnd, ok_qOr, ok_and, ok_or, ok_not, ok_if, ok_Sl, ok_oNo, ok_oOf, ok_Ch, ok_it, ok_itA, ok_yes, v_addI, v_sub, v_neg, v_eqI, v_eqS, v_eqB, v_eq0, v_eqT0, v_neI, v_neS, v_neB, v_ne0, v_neT0, v_ltI, v_leI, v_gtI, v_geI, v_is, v_isNot, v_nn, v_ns, v_ni, v_nl, v_nt, v_tb, v_tl, v_tt, v_tn, v_ti, v_asB, v_asI, v_asL, v_asT, v_asS, v_lenL, v_lenT, v_tupL, v_tupT, v_listL, v_listT, v_intB, v_tup0, v_tup1, v_tup2, v_tup3, v_tup4, v_tup5, v_lst0, v_lst1, v_lst2, v_lst3, v_lst4, v_lst5, v_ok0, v_ok1, v_ok2, v_ix0L, v_ix0, v_ix1, v_ix2, v_ix3, v_fs, v_fi, v_fb, v_fn, v_ft, v_f0, v_fc, startR, List.map_cons, List.map_nil, List.length_cons, List.length_nil, List.replicate, List.cons_append, List.nil_append, List.set_cons_zero, List.set_cons_succ, Option.some.injEq, exists_eq_left', Nat.reduceAdd, Nat.reduceSub, Nat.sub_zero, Nat.sub_self, Nat.zero_add, Nat.reduceEqDiff, Bool.not_true, Bool.not_false, if_true, if_false, Bool.and_self, Bool.true_and, Bool.and_true, Bool.false_eq_true, ↓reduceIte, true_and, and_true, decide_true, decide_false, wipeR, el]
        refine k_seq (k_app rfl (szl (by rw [List.length_map]; have := st.tlen; omega)) ?_)
        simp only [ok_V0, ok_Vs, ok_K, ok_B, ok_U, ok_nil, ok_cons, ok_N, ok_aN, ok_call, ok_nl, ok_fl, ok_afl, ok_T, ok_qNot, ok_qAnd, ok_qOr, ok_and, ok_or, ok_not, ok_if, ok_Sl, ok_oNo, ok_oOf, ok_Ch, ok_it, ok_itA, ok_yes, v_addI, v_sub, v_neg, v_eqI, v_eqS, v_eqB, v_eq0, v_eqT0, v_neI, v_neS, v_neB, v_ne0, v_neT0, v_ltI, v_leI, v_gtI, v_geI, v_is, v_isNot, v_nn, v_ns, v_ni, v_nl, v_nt, v_tb, v_tl, v_tt, v_tn, v_ti, v_asB, v_asI, v_asL, v_asT, v_asS, v_lenL, v_lenT, v_tupL, v_tupT, v_listL, v_listT, v_intB, v_tup0, v_tup1, v_tup2, v_tup3, v_tup4, v_tup5, v_lst0, v_lst1, v_lst2, v_lst3, v_lst4, v_lst5, v_ok0, v_ok1, v_ok2, v_ix0L, v_ix0, v_ix1, v_ix2, v_ix3, v_fs, v_fi, v_fb, v_fn, v_ft, v_f0, v_fc, startR, List.map_cons, List.map_nil, List.length_cons, List.length_nil, List.replicate, List.cons_append, List.nil_append, List.set_cons_zero, List.set_cons_succ, Option.some.injEq, exists_eq_left', Nat.reduceAdd, Nat.reduceSub, Nat.sub_zero, Nat.sub_self, Nat.zero_add, Nat.reduceEqDiff, Bool.not_true, Bool.not_false, if_true, if_false, Bool.and_self, Bool.true_and, Bool.and_true, Bool.false_eq_true, ↓reduceIte, true_and, and_true, decide_true, decide_false, wipeR, v_mod (j := 8) (by decide), v_fdiv8]
        rw [a8_ix (by omega) (by omega), a8_ix (by omega) (by omega)]
        try simp only [ok_V0, ok_Vs, ok_K, ok_B, ok_U, ok_nil, ok_cons, ok_N, ok_aN, ok_call, ok_nl, ok_fl, ok_afl, ok_T, ok_qNot, ok_qAnd, ok_qOr, ok_and, ok_or, ok_not, ok_if, ok_Sl, ok_oNo, ok_oOf, ok_Ch, ok_it, ok_itA, ok_yes, v_addI, v_sub, v_neg, v_eqI, v_eqS, v_eqB, v_eq0, v_eqT0, v_neI, v_neS, v_neB, v_ne0, v_neT0, v_ltI, v_leI, v_gtI, v_geI, v_is, v_isNot, v_nn, v_ns, v_ni, v_nl, v_nt, v_tb, v_tl, v_tt, v_tn, v_ti, v_asB, v_asI, v_asL, v_asT, v_asS, v_lenL, v_lenT, v_tupL, v_tupT, v_listL, v_listT, v_intB, v_tup0, v_tup1, v_tup2, v_tup3, v_tup4, v_tup5, v_lst0, v_lst1, v_lst2, v_lst3, v_lst4, v_lst5, v_ok0, v_ok1, v_ok2, v_ix0L, v_ix0, v_ix1, v_ix2, v_ix3, v_fs, v_fi, v_fb, v_fn, v_ft, v_f0, v_fc, startR, List.map_cons, List.map_nil, List.length_cons, List.length_nil, List.replicate, List.cons_append, List.nil_append, List.set_cons_zero, List.set_cons_succ, Option.some.injEq, exists_eq_left', Nat.reduceAdd, Nat.reduceSub, Nat.sub_zero, Nat.sub_self, Nat.zero_add, Nat.reduceEqDiff, Bool.not_true, Bool.not_false, if_true, if_false, Bool.and_self, Bool.true_and, Bool.and_true, Bool.false_eq_true, ↓reduceIte, true_and, and_true, decide_true, decide_false, wipeR]
        rw [addS (by show 2 + 1 ≤ 100000; decide)]
        try simp only [ok_V0, ok_Vs, ok_K, ok_B, ok_U, ok_nil, ok_cons, ok_N, ok_aN, ok_call, ok_nl, ok_fl, ok_afl, ok_T, ok_qNot, ok_qAnd, ok_qOr, ok_and, ok_or, ok_not, ok_if, ok_Sl, ok_oNo, ok_oOf, ok_Ch, ok_it, ok_itA, ok_yes, v_addI, v_sub, v_neg, v_eqI, v_eqS, v_eqB, v_eq0, v_eqT0, v_neI, v_neS, v_neB, v_ne0, v_neT0, v_ltI, v_leI, v_gtI, v_geI, v_is, v_isNot, v_nn, v_ns, v_ni, v_nl, v_nt, v_tb, v_tl, v_tt, v_tn, v_ti, v_asB, v_asI, v_asL, v_asT, v_asS, v_lenL, v_lenT, v_tupL, v_tupT, v_listL, v_listT, v_intB, v_tup0, v_tup1, v_tup2, v_tup3, v_tup4, v_tup5, v_lst0, v_lst1, v_lst2, v_lst3, v_lst4, v_lst5, v_ok0, v_ok1, v_ok2, v_ix0L, v_ix0, v_ix1, v_ix2, v_ix3, v_fs, v_fi, v_fb, v_fn, v_ft, v_f0, v_fc, startR, List.map_cons, List.map_nil, List.length_cons, List.length_nil, List.replicate, List.cons_append, List.nil_append, List.set_cons_zero, List.set_cons_succ, Option.some.injEq, exists_eq_left', Nat.reduceAdd, Nat.reduceSub, Nat.sub_zero, Nat.sub_self, Nat.zero_add, Nat.reduceEqDiff, Bool.not_true, Bool.not_false, if_true, if_false, Bool.and_self, Bool.true_and, Bool.and_true, Bool.false_eq_true, ↓reduceIte, true_and, and_true, decide_true, decide_false, wipeR]
        rw [addS (by rw [addS_len]; show 2 + 1 + 1 ≤ 100000; decide)]
        try simp only [ok_V0, ok_Vs, ok_K, ok_B, ok_U, ok_nil, ok_cons, ok_N, ok_aN, ok_call, ok_nl, ok_fl, ok_afl, ok_T, ok_qNot, ok_qAnd, ok_qOr, ok_and, ok_or, ok_not, ok_if, ok_Sl, ok_oNo, ok_oOf, ok_Ch, ok_it, ok_itA, ok_yes, v_addI, v_sub, v_neg, v_eqI, v_eqS, v_eqB, v_eq0, v_eqT0, v_neI, v_neS, v_neB, v_ne0, v_neT0, v_ltI, v_leI, v_gtI, v_geI, v_is, v_isNot, v_nn, v_ns, v_ni, v_nl, v_nt, v_tb, v_tl, v_tt, v_tn, v_ti, v_asB, v_asI, v_asL, v_asT, v_asS, v_lenL, v_lenT, v_tupL, v_tupT, v_listL, v_listT, v_intB, v_tup0, v_tup1, v_tup2, v_tup3, v_tup4, v_tup5, v_lst0, v_lst1, v_lst2, v_lst3, v_lst4, v_lst5, v_ok0, v_ok1, v_ok2, v_ix0L, v_ix0, v_ix1, v_ix2, v_ix3, v_fs, v_fi, v_fb, v_fn, v_ft, v_f0, v_fc, startR, List.map_cons, List.map_nil, List.length_cons, List.length_nil, List.replicate, List.cons_append, List.nil_append, List.set_cons_zero, List.set_cons_succ, Option.some.injEq, exists_eq_left', Nat.reduceAdd, Nat.reduceSub, Nat.sub_zero, Nat.sub_self, Nat.zero_add, Nat.reduceEqDiff, Bool.not_true, Bool.not_false, if_true, if_false, Bool.and_self, Bool.true_and, Bool.and_true, Bool.false_eq_true, ↓reduceIte, true_and, and_true, decide_true, decide_false, wipeR]
        have ez : (Str.ofString "Zq" ++ (⟨#[97 + ((1 + (j : Int)) % 8).toNat]⟩ : Str) ++ (⟨#[97 + ((1 + (j : Int)) / 8).toNat]⟩ : Str)) = zq (j + 1) := by
          unfold zq
          rw [show ((1 + (j : Int)) % 8).toNat = (j + 1) % 8 by omega, show ((1 + (j : Int)) / 8).toNat = (j + 1) / 8 by omega]
        rw [ez]
        refine ok_unlike (by unfold zq; rw [addS_len, addS_len]; show 2 + 1 + 1 ≤ 1000; decide) (by decide) (st.tak.few hn) fun x hx hxl => ?_
        try simp only [ok_V0, ok_Vs, ok_K, ok_B, ok_U, ok_nil, ok_cons, ok_N, ok_aN, ok_call, ok_nl, ok_fl, ok_afl, ok_T, ok_qNot, ok_qAnd, ok_qOr, ok_and, ok_or, ok_not, ok_if, ok_Sl, ok_oNo, ok_oOf, ok_Ch, ok_it, ok_itA, ok_yes, v_addI, v_sub, v_neg, v_eqI, v_eqS, v_eqB, v_eq0, v_eqT0, v_neI, v_neS, v_neB, v_ne0, v_neT0, v_ltI, v_leI, v_gtI, v_geI, v_is, v_isNot, v_nn, v_ns, v_ni, v_nl, v_nt, v_tb, v_tl, v_tt, v_tn, v_ti, v_asB, v_asI, v_asL, v_asT, v_asS, v_lenL, v_lenT, v_tupL, v_tupT, v_listL, v_listT, v_intB, v_tup0, v_tup1, v_tup2, v_tup3, v_tup4, v_tup5, v_lst0, v_lst1, v_lst2, v_lst3, v_lst4, v_lst5, v_ok0, v_ok1, v_ok2, v_ix0L, v_ix0, v_ix1, v_ix2, v_ix3, v_fs, v_fi, v_fb, v_fn, v_ft, v_f0, v_fc, startR, List.map_cons, List.map_nil, List.length_cons, List.length_nil, List.replicate, List.cons_append, List.nil_append, List.set_cons_zero, List.set_cons_succ, Option.some.injEq, exists_eq_left', Nat.reduceAdd, Nat.reduceSub, Nat.sub_zero, Nat.sub_self, Nat.zero_add, Nat.reduceEqDiff, Bool.not_true, Bool.not_false, if_true, if_false, Bool.and_self, Bool.true_and, Bool.and_true, Bool.false_eq_true, ↓reduceIte, true_and, and_true, decide_true, decide_false, wipeR]
        refine k_seq (k_asg ?_)
        rw [show (tk.map PyData.str ++ [PyData.str x]) = (tk ++ [x]).map PyData.str by simp]
        simp only [ok_V0, ok_Vs, ok_K, ok_B, ok_U, ok_nil, ok_cons, ok_N, ok_aN, ok_call, ok_nl, ok_fl, ok_afl, ok_T, ok_qNot, ok_qAnd, ok_qOr, ok_and, ok_or, ok_not, ok_if, ok_Sl, ok_oNo, ok_oOf, ok_Ch, ok_it, ok_itA, ok_yes, v_addI, v_sub, v_neg, v_eqI, v_eqS, v_eqB, v_eq0, v_eqT0, v_neI, v_neS, v_neB, v_ne0, v_neT0, v_ltI, v_leI, v_gtI, v_geI, v_is, v_isNot, v_nn, v_ns, v_ni, v_nl, v_nt, v_tb, v_tl, v_tt, v_tn, v_ti, v_asB, v_asI, v_asL, v_asT, v_asS, v_lenL, v_lenT, v_tupL, v_tupT, v_listL, v_listT, v_intB, v_tup0, v_tup1, v_tup2, v_tup3, v_tup4, v_tup5, v_lst0, v_lst1, v_lst2, v_lst3, v_lst4, v_lst5, v_ok0, v_ok1, v_ok2, v_ix0L, v_ix0, v_ix1, v_ix2, v_ix3, v_fs, v_fi, v_fb, v_fn, v_ft, v_f0, v_fc, startR, List.map_cons, List.map_nil, List.length_cons, List.length_nil, List.replicate, List.cons_append, List.nil_append, List.set_cons_zero, List.set_cons_succ, Option.some.injEq, exists_eq_left', Nat.reduceAdd, Nat.reduceSub, Nat.sub_zero, Nat.sub_self, Nat.zero_add, Nat.reduceEqDiff, Bool.not_true, Bool.not_false, if_true, if_false, Bool.and_self, Bool.true_and, Bool.and_true, Bool.false_eq_true, ↓reduceIte, true_and, and_true, decide_true, decide_false, wipeR, v_ixm1]
        refine ok_opener (by omega) (by omega) fun d s6 hop => ?_
        obtain ⟨wd, zs, nm, rfl, hwd, hfl, hnm⟩ := hop
        refine ⟨hfl, _, rfl, ?_⟩
        try simp only [ok_V0, ok_Vs, ok_K, ok_B, ok_U, ok_nil, ok_cons, ok_N, ok_aN, ok_call, ok_nl, ok_fl, ok_afl, ok_T, ok_qNot, ok_qAnd, ok_qOr, ok_and, ok_or, ok_not, ok_if, ok_Sl, ok_oNo, ok_oOf, ok_Ch, ok_it, ok_itA, ok_yes, v_addI, v_sub, v_neg, v_eqI, v_eqS, v_eqB, v_eq0, v_eqT0, v_neI, v_neS, v_neB, v_ne0, v_neT0, v_ltI, v_leI, v_gtI, v_geI, v_is, v_isNot, v_nn, v_ns, v_ni, v_nl, v_nt, v_tb, v_tl, v_tt, v_tn, v_ti, v_asB, v_asI, v_asL, v_asT, v_asS, v_lenL, v_lenT, v_tupL, v_tupT, v_listL, v_listT, v_intB, v_tup0, v_tup1, v_tup2, v_tup3, v_tup4, v_tup5, v_lst0, v_lst1, v_lst2, v_lst3, v_lst4, v_lst5, v_ok0, v_ok1, v_ok2, v_ix0L, v_ix0, v_ix1, v_ix2, v_ix3, v_fs, v_fi, v_fb, v_fn, v_ft, v_f0, v_fc, startR, List.map_cons, List.map_nil, List.length_cons, List.length_nil, List.replicate, List.cons_append, List.nil_append, List.set_cons_zero, List.set_cons_succ, Option.some.injEq, exists_eq_left', Nat.reduceAdd, Nat.reduceSub, Nat.sub_zero, Nat.sub_self, Nat.zero_add, Nat.reduceEqDiff, Bool.not_true, Bool.not_false, if_true, if_false, Bool.and_self, Bool.true_and, Bool.and_true, Bool.false_eq_true, ↓reduceIte, true_and, and_true, decide_true, decide_false, wipeR]
        refine k_set ?_
        try simp only [ok_V0, ok_Vs, ok_K, ok_B, ok_U, ok_nil, ok_cons, ok_N, ok_aN, ok_call, ok_nl, ok_fl, ok_afl, ok_T, ok_qNot, ok_qAnd, ok_qOr, ok_and, ok_or, ok_not, ok_if, ok_Sl, ok_oNo, ok_oOf, ok_Ch, ok_it, ok_itA, ok_yes, v_addI, v_sub, v_neg, v_eqI, v_eqS, v_eqB, v_eq0, v_eqT0, v_neI, v_neS, v_neB, v_ne0, v_neT0, v_ltI, v_leI, v_gtI, v_geI, v_is, v_isNot, v_nn, v_ns, v_ni, v_nl, v_nt, v_tb, v_tl, v_tt, v_tn, v_ti, v_asB, v_asI, v_asL, v_asT, v_asS, v_lenL, v_lenT, v_tupL, v_tupT, v_listL, v_listT, v_intB, v_tup0, v_tup1, v_tup2, v_tup3, v_tup4, v_tup5, v_lst0, v_lst1, v_lst2, v_lst3, v_lst4, v_lst5, v_ok0, v_ok1, v_ok2, v_ix0L, v_ix0, v_ix1, v_ix2, v_ix3, v_fs, v_fi, v_fb, v_fn, v_ft, v_f0, v_fc, startR, List.map_cons, List.map_nil, List.length_cons, List.length_nil, List.replicate, List.cons_append, List.nil_append, List.set_cons_zero, List.set_cons_succ, Option.some.injEq, exists_eq_left', Nat.reduceAdd, Nat.reduceSub, Nat.sub_zero, Nat.sub_self, Nat.zero_add, Nat.reduceEqDiff, Bool.not_true, Bool.not_false, if_true, if_false, Bool.and_self, Bool.true_and, Bool.and_true, Bool.false_eq_true, ↓reduceIte, true_and, and_true, decide_true, decide_false, wipeR]
        refine k_keep (ds := ps.map (ent L)) (levD fun v => decide (v < l)) (fun d => d) (by rw [List.length_map]; exact szL (by omega)) rfl (fun d hd => ?_) ?_
        · obtain ⟨p, _, rfl⟩ := List.mem_map.mp hd
          exact ⟨_, rfl, rfl, fun _ => rfl⟩
        rw [keep_map (fun v => decide (v < l)), map_id']
        rw [v_addL (szL (by have := List.length_filter_le (fun p : Nat × D => decide (lev L p.1 < l)) ps; simp at this ⊢; omega))]
        try simp only [ok_V0, ok_Vs, ok_K, ok_B, ok_U, ok_nil, ok_cons, ok_N, ok_aN, ok_call, ok_nl, ok_fl, ok_afl, ok_T, ok_qNot, ok_qAnd, ok_qOr, ok_and, ok_or, ok_not, ok_if, ok_Sl, ok_oNo, ok_oOf, ok_Ch, ok_it, ok_itA, ok_yes, v_addI, v_sub, v_neg, v_eqI, v_eqS, v_eqB, v_eq0, v_eqT0, v_neI, v_neS, v_neB, v_ne0, v_neT0, v_ltI, v_leI, v_gtI, v_geI, v_is, v_isNot, v_nn, v_ns, v_ni, v_nl, v_nt, v_tb, v_tl, v_tt, v_tn, v_ti, v_asB, v_asI, v_asL, v_asT, v_asS, v_lenL, v_lenT, v_tupL, v_tupT, v_listL, v_listT, v_intB, v_tup0, v_tup1, v_tup2, v_tup3, v_tup4, v_tup5, v_lst0, v_lst1, v_lst2, v_lst3, v_lst4, v_lst5, v_ok0, v_ok1, v_ok2, v_ix0L, v_ix0, v_ix1, v_ix2, v_ix3, v_fs, v_fi, v_fb, v_fn, v_ft, v_f0, v_fc, startR, List.map_cons, List.map_nil, List.length_cons, List.length_nil, List.replicate, List.cons_append, List.nil_append, List.set_cons_zero, List.set_cons_succ, Option.some.injEq, exists_eq_left', Nat.reduceAdd, Nat.reduceSub, Nat.sub_zero, Nat.sub_self, Nat.zero_add, Nat.reduceEqDiff, Bool.not_true, Bool.not_false, if_true, if_false, Bool.and_self, Bool.true_and, Bool.and_true, Bool.false_eq_true, ↓reduceIte, true_and, and_true, decide_true, decide_false, wipeR]
        have hin : (ps.filter fun p => decide (lev L p.1 < l)).map (ent L) ++ [.tuple [.int l, .int (1 + (j : Int)), nm]] = ((ps.filter fun p => decide (lev L p.1 < l)) ++ [(L.length, nm)]).map (ent (L ++ [(l, true)])) := by
          rw [List.map_append]
          congr 1
          · refine List.map_congr_left fun p hp => (ent_app ?_).symm
            have : p.1 ∈ ps.map (·.1) := List.mem_map.mpr ⟨p, (List.mem_filter.mp hp).1, rfl⟩
            rw [st.ar] at this
            exact (arN_lt L _ _ this).2
          · have hlev : lev (L ++ [(l, true)]) L.length = l := lev_at (x := (l, true)) (by rw [List.getElem?_append_right (Nat.le_refl _)]; simp)
            simp only [List.map_cons, List.map_nil, ent, hlev]
            rw [lenL, show ((j + 1 : Nat) : Int) = 1 + (j : Int) by omega]
        rw [hin]
        exact ok_rest hn hk hd hj st (b := true) (by simpa using hwd) (by rw [List.map_append]; exact around_op st.ar) (fun p hp => (List.mem_append.mp hp).elim (fun h => st.nm p (List.mem_filter.mp h).1) fun h => by
          have : p = (L.length, nm) := by simpa using h
          rw [this]
          exact hnm) (by omega) (fun _ => bl.1) bl.2 (st.tak.more (by omega) hx) (by rw [List.length_append]; have := st.tlen; simp; omega)
      | false =>
        try simp only [ok_V0, ok_Vs, ok_K, ok_B, ok_U, ok_nil, ok_cons, ok_N, ok_aN, ok_call, ok_nl, ok_fl, ok_afl, ok_T, ok_qNot, ok_qAnd, ok_qOr, ok_and, ok_or, ok_not, ok_if, ok_Sl, ok_oNo, ok_oOf, ok_Ch, ok_it, ok_itA, ok_yes, v_addI, v_sub, v_neg, v_eqI, v_eqS, v_eqB, v_eq0, v_eqT0, v_neI, v_neS, v_neB, v_ne0, v_neT0, v_ltI, v_leI, v_gtI, v_geI, v_is, v_isNot, v_nn, v_ns, v_ni, v_nl, v_nt, v_tb, v_tl, v_tt, v_tn, v_ti, v_asB, v_asI, v_asL, v_asT, v_asS, v_lenL, v_lenT, v_tupL, v_tupT, v_listL, v_listT, v_intB, v_tup0, v_tup1, v_tup2, v_tup3, v_tup4, v_tup5, v_lst0, v_lst1, v_lst2, v_lst3, v_lst4, v_lst5, v_ok0, v_ok1, v_ok2, v_ix0L, v_ix0, v_ix1, v_ix2, v_ix3, v_fs, v_fi, v_fb, v_fn, v_ft, v_f0, v_fc, startR, List.map_cons, List.map_nil, List.length_cons, List.length_nil, List.replicate, List.cons_append, List.nil_append, List.set_cons_zero, List.set_cons_succ, Option.some.injEq, exists_eq_left', Nat.reduceAdd, Nat.reduceSub, Nat.sub_zero, Nat.sub_self, Nat.zero_add, Nat.reduceEqDiff, Bool.not_true, Bool.not_false, if_true, if_false, Bool.and_self, Bool.true_and, Bool.and_true, Bool.false_eq_true, ↓reduceIte, true_and, and_true, decide_true, decide_false, wipeR]
        refine k_seq (k_set ?_)
        try simp only [ok_V0, ok_Vs, ok_K, ok_B, ok_U, ok_nil, ok_cons, ok_N, ok_aN, ok_call, ok_nl, ok_fl, ok_afl, ok_T, ok_qNot, ok_qAnd, ok_qOr, ok_and, ok_or, ok_not, ok_if, ok_Sl, ok_oNo, ok_oOf, ok_Ch, ok_it, ok_itA, ok_yes, v_addI, v_sub, v_neg, v_eqI, v_eqS, v_eqB, v_eq0, v_eqT0, v_neI, v_neS, v_neB, v_ne0, v_neT0, v_ltI, v_leI, v_gtI, v_geI, v_is, v_isNot, v_nn, v_ns, v_ni, v_nl, v_nt, v_tb, v_tl, v_tt, v_tn, v_ti, v_asB, v_asI, v_asL, v_asT, v_asS, v_lenL, v_lenT, v_tupL, v_tupT, v_listL, v_listT, v_intB, v_tup0, v_tup1, v_tup2, v_tup3, v_tup4, v_tup5, v_lst0, v_lst1, v_lst2, v_lst3, v_lst4, v_lst5, v_ok0, v_ok1, v_ok2, v_ix0L, v_ix0, v_ix1, v_ix2, v_ix3, v_fs, v_fi, v_fb, v_fn, v_ft, v_f0, v_fc, startR, List.map_cons, List.map_nil, List.length_cons, List.length_nil, List.replicate, List.cons_append, List.nil_append, List.set_cons_zero, List.set_cons_succ, Option.some.injEq, exists_eq_left', Nat.reduceAdd, Nat.reduceSub, Nat.sub_zero, Nat.sub_self, Nat.zero_add, Nat.reduceEqDiff, Bool.not_true, Bool.not_false, if_true, if_false, Bool.and_self, Bool.true_and, Bool.and_true, Bool.false_eq_true, ↓reduceIte, true_and, and_true, decide_true, decide_false, wipeR]
        refine k_draw (by omega) (by omega) fun r s4 r0 r1 => ?_
        try simp only [ok_V0, ok_Vs, ok_K, ok_B, ok_U, ok_nil, ok_cons, ok_N, ok_aN, ok_call, ok_nl, ok_fl, ok_afl, ok_T, ok_qNot, ok_qAnd, ok_qOr, ok_and, ok_or, ok_not, ok_if, ok_Sl, ok_oNo, ok_oOf, ok_Ch, ok_it, ok_itA, ok_yes, v_addI, v_sub, v_neg, v_eqI, v_eqS, v_eqB, v_eq0, v_eqT0, v_neI, v_neS, v_neB, v_ne0, v_neT0, v_ltI, v_leI, v_gtI, v_geI, v_is, v_isNot, v_nn, v_ns, v_ni, v_nl, v_nt, v_tb, v_tl, v_tt, v_tn, v_ti, v_asB, v_asI, v_asL, v_asT, v_asS, v_lenL, v_lenT, v_tupL, v_tupT, v_listL, v_listT, v_intB, v_tup0, v_tup1, v_tup2, v_tup3, v_tup4, v_tup5, v_lst0, v_lst1, v_lst2, v_lst3, v_lst4, v_lst5, v_ok0, v_ok1, v_ok2, v_ix0L, v_ix0, v_ix1, v_ix2, v_ix3, v_fs, v_fi, v_fb, v_fn, v_ft, v_f0, v_fc, startR, List.map_cons, List.map_nil, List.length_cons, List.length_nil, List.replicate, List.cons_append, List.nil_append, List.set_cons_zero, List.set_cons_succ, Option.some.injEq, exists_eq_left', Nat.reduceAdd, Nat.reduceSub, Nat.sub_zero, Nat.sub_self, Nat.zero_add, Nat.reduceEqDiff, Bool.not_true, Bool.not_false, if_true, if_false, Bool.and_self, Bool.true_and, Bool.and_true, Bool.false_eq_true, ↓reduceIte, true_and, and_true, decide_true, decide_false, wipeR]
        refine k_draw (by omega) (by omega) fun r' s5 p0 p1 => ?_
        obtain ⟨l, hl, el⟩ := ix_ints (ns := [lv, lv, r]) (r := r') p0 (by simpa using p1)
        simp only [List.map_cons, List.map_nil] at el
        have bl : 0 ≤ l ∧ l ≤ 8 := by simp at hl; omega
        simp only [ok_V0, ok_Vs, ok_K, ok_B, ok_U, ok_nil, ok_cons, ok_N, ok_aN, ok_call, ok_nl, ok_fl, ok_afl, ok_T, ok_qNot, ok_qAnd, ok_qOr, ok_and, ok_or, ok_not, ok_if, ok_Sl, ok_oNo, ok_oOf, ok_Ch, ok_it, ok_itA, ok_yes, v_addI, v_sub, v_neg, v_eqI, v_eqS, v_eqB, v_eq0, v_eqT0, v_neI, v_neS, v_neB, v_ne0, v_neT0, v_ltI, v_leI, v_gtI, v_geI, v_is, v_isNot, v_nn, v_ns, v_ni, v_nl, v_nt, v_tb, v_tl, v_tt, v_tn, v_ti, v_asB, v_asI, v_asL, v_asT, v_asS, v_lenL, v_lenT, v_tupL, v_tupT, v_listL, v_listT, v_intB, v_tup0, v_tup1, v_tup2, v_tup3, v_tup4, v_tup5, v_lst0, v_lst1, v_lst2, v_lst3, v_lst4, v_lst5, v_ok0, v_ok1, v_ok2, v_ix0L, v_ix0, v_ix1, v_ix2, v_ix3, v_fs, v_fi, v_fb, v_fn, v_ft, v_f0, v_fc, startR, List.map_cons, List.map_nil, List.length_cons, List.length_nil, List.replicate, List.cons_append, List.nil_append, List.set_cons_zero, List.set_cons_succ, Option.some.injEq, exists_eq_left', Nat.reduceAdd, Nat.reduceSub, Nat.sub_zero, Nat.sub_self, Nat.zero_add, Nat.reduceEqDiff, Bool.not_true, Bool.not_false, if_true, if_false, Bool.and_self, Bool.true_and, Bool.and_true, Bool.false_eq_true, ↓reduceIte, true_and, and_true, decide_true, decide_false, wipeR, el]
        refine k_seq (k_set ?_)
        try simp only [ok_V0, ok_Vs, ok_K, ok_B, ok_U, ok_nil, ok_cons, ok_N, ok_aN, ok_call, ok_nl, ok_fl, ok_afl, ok_T, ok_qNot, ok_qAnd, ok_qOr, ok_and, ok_or, ok_not, ok_if, ok_Sl, ok_oNo, ok_oOf, ok_Ch, ok_it, ok_itA, ok_yes, v_addI, v_sub, v_neg, v_eqI, v_eqS, v_eqB, v_eq0, v_eqT0, v_neI, v_neS, v_neB, v_ne0, v_neT0, v_ltI, v_leI, v_gtI, v_geI, v_is, v_isNot, v_nn, v_ns, v_ni, v_nl, v_nt, v_tb, v_tl, v_tt, v_tn, v_ti, v_asB, v_asI, v_asL, v_asT, v_asS, v_lenL, v_lenT, v_tupL, v_tupT, v_listL, v_listT, v_intB, v_tup0, v_tup1, v_tup2, v_tup3, v_tup4, v_tup5, v_lst0, v_lst1, v_lst2, v_lst3, v_lst4, v_lst5, v_ok0, v_ok1, v_ok2, v_ix0L, v_ix0, v_ix1, v_ix2, v_ix3, v_fs, v_fi, v_fb, v_fn, v_ft, v_f0, v_fc, startR, List.map_cons, List.map_nil, List.length_cons, List.length_nil, List.replicate, List.cons_append, List.nil_append, List.set_cons_zero, List.set_cons_succ, Option.some.injEq, exists_eq_left', Nat.reduceAdd, Nat.reduceSub, Nat.sub_zero, Nat.sub_self, Nat.zero_add, Nat.reduceEqDiff, Bool.not_true, Bool.not_false, if_true, if_false, Bool.and_self, Bool.true_and, Bool.and_true, Bool.false_eq_true, ↓reduceIte, true_and, and_true, decide_true, decide_false, wipeR]
        refine ok_reason (by omega) (by omega) fun d s6 hop => ?_
        obtain ⟨wd, zs, rfl, hwd⟩ := hop
        try simp only [ok_V0, ok_Vs, ok_K, ok_B, ok_U, ok_nil, ok_cons, ok_N, ok_aN, ok_call, ok_nl, ok_fl, ok_afl, ok_T, ok_qNot, ok_qAnd, ok_qOr, ok_and, ok_or, ok_not, ok_if, ok_Sl, ok_oNo, ok_oOf, ok_Ch, ok_it, ok_itA, ok_yes, v_addI, v_sub, v_neg, v_eqI, v_eqS, v_eqB, v_eq0, v_eqT0, v_neI, v_neS, v_neB, v_ne0, v_neT0, v_ltI, v_leI, v_gtI, v_geI, v_is, v_isNot, v_nn, v_ns, v_ni, v_nl, v_nt, v_tb, v_tl, v_tt, v_tn, v_ti, v_asB, v_asI, v_asL, v_asT, v_asS, v_lenL, v_lenT, v_tupL, v_tupT, v_listL, v_listT, v_intB, v_tup0, v_tup1, v_tup2, v_tup3, v_tup4, v_tup5, v_lst0, v_lst1, v_lst2, v_lst3, v_lst4, v_lst5, v_ok0, v_ok1, v_ok2, v_ix0L, v_ix0, v_ix1, v_ix2, v_ix3, v_fs, v_fi, v_fb, v_fn, v_ft, v_f0, v_fc, startR, List.map_cons, List.map_nil, List.length_cons, List.length_nil, List.replicate, List.cons_append, List.nil_append, List.set_cons_zero, List.set_cons_succ, Option.some.injEq, exists_eq_left', Nat.reduceAdd, Nat.reduceSub, Nat.sub_zero, Nat.sub_self, Nat.zero_add, Nat.reduceEqDiff, Bool.not_true, Bool.not_false, if_true, if_false, Bool.and_self, Bool.true_and, Bool.and_true, Bool.false_eq_true, ↓reduceIte, true_and, and_true, decide_true, decide_false, wipeR]
        refine k_set ?_
        try simp only [ok_V0, ok_Vs, ok_K, ok_B, ok_U, ok_nil, ok_cons, ok_N, ok_aN, ok_call, ok_nl, ok_fl, ok_afl, ok_T, ok_qNot, ok_qAnd, ok_qOr, ok_and, ok_or, ok_not, ok_if, ok_Sl, ok_oNo, ok_oOf, ok_Ch, ok_it, ok_itA, ok_yes, v_addI, v_sub, v_neg, v_eqI, v_eqS, v_eqB, v_eq0, v_eqT0, v_neI, v_neS, v_neB, v_ne0, v_neT0, v_ltI, v_leI, v_gtI, v_geI, v_is, v_isNot, v_nn, v_ns, v_ni, v_nl, v_nt, v_tb, v_tl, v_tt, v_tn, v_ti, v_asB, v_asI, v_asL, v_asT, v_asS, v_lenL, v_lenT, v_tupL, v_tupT, v_listL, v_listT, v_intB, v_tup0, v_tup1, v_tup2, v_tup3, v_tup4, v_tup5, v_lst0, v_lst1, v_lst2, v_lst3, v_lst4, v_lst5, v_ok0, v_ok1, v_ok2, v_ix0L, v_ix0, v_ix1, v_ix2, v_ix3, v_fs, v_fi, v_fb, v_fn, v_ft, v_f0, v_fc, startR, List.map_cons, List.map_nil, List.length_cons, List.length_nil, List.replicate, List.cons_append, List.nil_append, List.set_cons_zero, List.set_cons_succ, Option.some.injEq, exists_eq_left', Nat.reduceAdd, Nat.reduceSub, Nat.sub_zero, Nat.sub_self, Nat.zero_add, Nat.reduceEqDiff, Bool.not_true, Bool.not_false, if_true, if_false, Bool.and_self, Bool.true_and, Bool.and_true, Bool.false_eq_true, ↓reduceIte, true_and, and_true, decide_true, decide_false, wipeR]
        refine k_keep (ds := ps.map (ent L)) (levD fun v => decide (v ≤ l)) (fun d => d) (by rw [List.length_map]; exact szL (by omega)) rfl (fun d hd => ?_) ?_
        · obtain ⟨p, _, rfl⟩ := List.mem_map.mp hd
          exact ⟨_, rfl, rfl, fun _ => rfl⟩
        rw [keep_map (fun v => decide (v ≤ l)), map_id']
        have hin : (ps.filter fun p => decide (lev L p.1 ≤ l)).map (ent L) = (ps.filter fun p => decide (lev L p.1 ≤ l)).map (ent (L ++ [(l, false)])) := by
          refine List.map_congr_left fun p hp => (ent_app ?_).symm
          have : p.1 ∈ ps.map (·.1) := List.mem_map.mpr ⟨p, (List.mem_filter.mp hp).1, rfl⟩
          rw [st.ar] at this
          exact (arN_lt L _ _ this).2
        rw [hin]
        try simp only [ok_V0, ok_Vs, ok_K, ok_B, ok_U, ok_nil, ok_cons, ok_N, ok_aN, ok_call, ok_nl, ok_fl, ok_afl, ok_T, ok_qNot, ok_qAnd, ok_qOr, ok_and, ok_or, ok_not, ok_if, ok_Sl, ok_oNo, ok_oOf, ok_Ch, ok_it, ok_itA, ok_yes, v_addI, v_sub, v_neg, v_eqI, v_eqS, v_eqB, v_eq0, v_eqT0, v_neI, v_neS, v_neB, v_ne0, v_neT0, v_ltI, v_leI, v_gtI, v_geI, v_is, v_isNot, v_nn, v_ns, v_ni, v_nl, v_nt, v_tb, v_tl, v_tt, v_tn, v_ti, v_asB, v_asI, v_asL, v_asT, v_asS, v_lenL, v_lenT, v_tupL, v_tupT, v_listL, v_listT, v_intB, v_tup0, v_tup1, v_tup2, v_tup3, v_tup4, v_tup5, v_lst0, v_lst1, v_lst2, v_lst3, v_lst4, v_lst5, v_ok0, v_ok1, v_ok2, v_ix0L, v_ix0, v_ix1, v_ix2, v_ix3, v_fs, v_fi, v_fb, v_fn, v_ft, v_f0, v_fc, startR, List.map_cons, List.map_nil, List.length_cons, List.length_nil, List.replicate, List.cons_append, List.nil_append, List.set_cons_zero, List.set_cons_succ, Option.some.injEq, exists_eq_left', Nat.reduceAdd, Nat.reduceSub, Nat.sub_zero, Nat.sub_self, Nat.zero_add, Nat.reduceEqDiff, Bool.not_true, Bool.not_false, if_true, if_false, Bool.and_self, Bool.true_and, Bool.and_true, Bool.false_eq_true, ↓reduceIte, true_and, and_true, decide_true, decide_false, wipeR]
        exact ok_rest hn hk hd hj st (b := false) (by simpa using hwd) (around_no st.ar) (fun p hp => st.nm p (List.mem_filter.mp hp).1) bl.1 (fun z => nomatch z) bl.2 st.tak.up (by have := st.tlen; omega)
    refine (k_seq (k_set ?_) : Ok _ fun r (_ : DS) => match r with | .nx ρ => ∃ L xs bs ps tk lv y, St ns (j + 1) L xs bs ps tk lv ∧ ρ = envL ns ks ds m L xs bs ps tk lv y | _ => False).imp fun r s' h => by
      cases r with
      | nx ρ => exact h
      | _ => exact h.elim
    try simp only [ok_V0, ok_Vs, ok_K, ok_B, ok_U, ok_nil, ok_cons, ok_N, ok_aN, ok_call, ok_nl, ok_fl, ok_afl, ok_T, ok_qNot, ok_qAnd, ok_qOr, ok_and, ok_or, ok_not, ok_if, ok_Sl, ok_oNo, ok_oOf, ok_Ch, ok_it, ok_itA, ok_yes, v_addI, v_sub, v_neg, v_eqI, v_eqS, v_eqB, v_eq0, v_eqT0, v_neI, v_neS, v_neB, v_ne0, v_neT0, v_ltI, v_leI, v_gtI, v_geI, v_is, v_isNot, v_nn, v_ns, v_ni, v_nl, v_nt, v_tb, v_tl, v_tt, v_tn, v_ti, v_asB, v_asI, v_asL, v_asT, v_asS, v_lenL, v_lenT, v_tupL, v_tupT, v_listL, v_listT, v_intB, v_tup0, v_tup1, v_tup2, v_tup3, v_tup4, v_tup5, v_lst0, v_lst1, v_lst2, v_lst3, v_lst4, v_lst5, v_ok0, v_ok1, v_ok2, v_ix0L, v_ix0, v_ix1, v_ix2, v_ix3, v_fs, v_fi, v_fb, v_fn, v_ft, v_f0, v_fc, startR, List.map_cons, List.map_nil, List.length_cons, List.length_nil, List.replicate, List.cons_append, List.nil_append, List.set_cons_zero, List.set_cons_succ, Option.some.injEq, exists_eq_left', Nat.reduceAdd, Nat.reduceSub, Nat.sub_zero, Nat.sub_self, Nat.zero_add, Nat.reduceEqDiff, Bool.not_true, Bool.not_false, if_true, if_false, Bool.and_self, Bool.true_and, Bool.and_true, Bool.false_eq_true, ↓reduceIte, true_and, and_true, decide_true, decide_false, wipeR]
    by_cases h8 : lv < 8
    · simp only [ok_V0, ok_Vs, ok_K, ok_B, ok_U, ok_nil, ok_cons, ok_N, ok_aN, ok_call, ok_nl, ok_fl, ok_afl, ok_T, ok_qNot, ok_qAnd, ok_qOr, ok_and, ok_or, ok_not, ok_if, ok_Sl, ok_oNo, ok_oOf, ok_Ch, ok_it, ok_itA, ok_yes, v_addI, v_sub, v_neg, v_eqI, v_eqS, v_eqB, v_eq0, v_eqT0, v_neI, v_neS, v_neB, v_ne0, v_neT0, v_ltI, v_leI, v_gtI, v_geI, v_is, v_isNot, v_nn, v_ns, v_ni, v_nl, v_nt, v_tb, v_tl, v_tt, v_tn, v_ti, v_asB, v_asI, v_asL, v_asT, v_asS, v_lenL, v_lenT, v_tupL, v_tupT, v_listL, v_listT, v_intB, v_tup0, v_tup1, v_tup2, v_tup3, v_tup4, v_tup5, v_lst0, v_lst1, v_lst2, v_lst3, v_lst4, v_lst5, v_ok0, v_ok1, v_ok2, v_ix0L, v_ix0, v_ix1, v_ix2, v_ix3, v_fs, v_fi, v_fb, v_fn, v_ft, v_f0, v_fc, startR, List.map_cons, List.map_nil, List.length_cons, List.length_nil, List.replicate, List.cons_append, List.nil_append, List.set_cons_zero, List.set_cons_succ, Option.some.injEq, exists_eq_left', Nat.reduceAdd, Nat.reduceSub, Nat.sub_zero, Nat.sub_self, Nat.zero_add, Nat.reduceEqDiff, Bool.not_true, Bool.not_false, if_true, if_false, Bool.and_self, Bool.true_and, Bool.and_true, Bool.false_eq_true, ↓reduceIte, true_and, and_true, decide_true, decide_false, wipeR, h8]
      refine k_draw (by omega) (by omega) fun r s4 r0 r1 => ?_
      try simp only [ok_V0, ok_Vs, ok_K, ok_B, ok_U, ok_nil, ok_cons, ok_N, ok_aN, ok_call, ok_nl, ok_fl, ok_afl, ok_T, ok_qNot, ok_qAnd, ok_qOr, ok_and, ok_or, ok_not, ok_if, ok_Sl, ok_oNo, ok_oOf, ok_Ch, ok_it, ok_itA, ok_yes, v_addI, v_sub, v_neg, v_eqI, v_eqS, v_eqB, v_eq0, v_eqT0, v_neI, v_neS, v_neB, v_ne0, v_neT0, v_ltI, v_leI, v_gtI, v_geI, v_is, v_isNot, v_nn, v_ns, v_ni, v_nl, v_nt, v_tb, v_tl, v_tt, v_tn, v_ti, v_asB, v_asI, v_asL, v_asT, v_asS, v_lenL, v_lenT, v_tupL, v_tupT, v_listL, v_listT, v_intB, v_tup0, v_tup1, v_tup2, v_tup3, v_tup4, v_tup5, v_lst0, v_lst1, v_lst2, v_lst3, v_lst4, v_lst5, v_ok0, v_ok1, v_ok2, v_ix0L, v_ix0, v_ix1, v_ix2, v_ix3, v_fs, v_fi, v_fb, v_fn, v_ft, v_f0, v_fc, startR, List.map_cons, List.map_nil, List.length_cons, List.length_nil, List.replicate, List.cons_append, List.nil_append, List.set_cons_zero, List.set_cons_succ, Option.some.injEq, exists_eq_left', Nat.reduceAdd, Nat.reduceSub, Nat.sub_zero, Nat.sub_self, Nat.zero_add, Nat.reduceEqDiff, Bool.not_true, Bool.not_false, if_true, if_false, Bool.and_self, Bool.true_and, Bool.and_true, Bool.false_eq_true, ↓reduceIte, true_and, and_true, decide_true, decide_false, wipeR]
      exact go _ _ (fun _ => h8) _ _ _
    · simp only [ok_V0, ok_Vs, ok_K, ok_B, ok_U, ok_nil, ok_cons, ok_N, ok_aN, ok_call, ok_nl, ok_fl, ok_afl, ok_T, ok_qNot, ok_qAnd, ok_qOr, ok_and, ok_or, ok_not, ok_if, ok_Sl, ok_oNo, ok_oOf, ok_Ch, ok_it, ok_itA, ok_yes, v_addI, v_sub, v_neg, v_eqI, v_eqS, v_eqB, v_eq0, v_eqT0, v_neI, v_neS, v_neB, v_ne0, v_neT0, v_ltI, v_leI, v_gtI, v_geI, v_is, v_isNot, v_nn, v_ns, v_ni, v_nl, v_nt, v_tb, v_tl, v_tt, v_tn, v_ti, v_asB, v_asI, v_asL, v_asT, v_asS, v_lenL, v_lenT, v_tupL, v_tupT, v_listL, v_listT, v_intB, v_tup0, v_tup1, v_tup2, v_tup3, v_tup4, v_tup5, v_lst0, v_lst1, v_lst2, v_lst3, v_lst4, v_lst5, v_ok0, v_ok1, v_ok2, v_ix0L, v_ix0, v_ix1, v_ix2, v_ix3, v_fs, v_fi, v_fb, v_fn, v_ft, v_f0, v_fc, startR, List.map_cons, List.map_nil, List.length_cons, List.length_nil, List.replicate, List.cons_append, List.nil_append, List.set_cons_zero, List.set_cons_succ, Option.some.injEq, exists_eq_left', Nat.reduceAdd, Nat.reduceSub, Nat.sub_zero, Nat.sub_self, Nat.zero_add, Nat.reduceEqDiff, Bool.not_true, Bool.not_false, if_true, if_false, Bool.and_self, Bool.true_and, Bool.and_true, Bool.false_eq_true, ↓reduceIte, true_and, and_true, decide_true, decide_false, wipeR, h8]
      exact go false _ (fun z => nomatch z) _ _ _
  rintro ρ s4 ⟨L, xs, bs, ps, tk, lv, y, st, rfl⟩
  rw [rng_len] at st
  have lenL := st.len
  unfold envL
  refine k_seq (k_app rfl (szl (by rw [st.ls.1]; omega)) ?_)
  try simp only [ok_V0, ok_Vs, ok_K, ok_B, ok_U, ok_nil, ok_cons, ok_N, ok_aN, ok_call, ok_nl, ok_fl, ok_afl, ok_T, ok_qNot, ok_qAnd, ok_qOr, ok_and, ok_or, ok_not, ok_if, ok_Sl, ok_oNo, ok_oOf, ok_Ch, ok_it, ok_itA, ok_yes, v_addI, v_sub, v_neg, v_eqI, v_eqS, v_eqB, v_eq0, v_eqT0, v_neI, v_neS, v_neB, v_ne0, v_neT0, v_ltI, v_leI, v_gtI, v_geI, v_is, v_isNot, v_nn, v_ns, v_ni, v_nl, v_nt, v_tb, v_tl, v_tt, v_tn, v_ti, v_asB, v_asI, v_asL, v_asT, v_asS, v_lenL, v_lenT, v_tupL, v_tupT, v_listL, v_listT, v_intB, v_tup0, v_tup1, v_tup2, v_tup3, v_tup4, v_tup5, v_lst0, v_lst1, v_lst2, v_lst3, v_lst4, v_lst5, v_ok0, v_ok1, v_ok2, v_ix0L, v_ix0, v_ix1, v_ix2, v_ix3, v_fs, v_fi, v_fb, v_fn, v_ft, v_f0, v_fc, startR, List.map_cons, List.map_nil, List.length_cons, List.length_nil, List.replicate, List.cons_append, List.nil_append, List.set_cons_zero, List.set_cons_succ, Option.some.injEq, exists_eq_left', Nat.reduceAdd, Nat.reduceSub, Nat.sub_zero, Nat.sub_self, Nat.zero_add, Nat.reduceEqDiff, Bool.not_true, Bool.not_false, if_true, if_false, Bool.and_self, Bool.true_and, Bool.and_true, Bool.false_eq_true, ↓reduceIte, true_and, and_true, decide_true, decide_false, wipeR]
  refine ok_form (by omega) (by omega) (by omega) (by decide) 2 3 s4 ns (by omega) (by omega) fun F s5 => ?_
  try simp only [ok_V0, ok_Vs, ok_K, ok_B, ok_U, ok_nil, ok_cons, ok_N, ok_aN, ok_call, ok_nl, ok_fl, ok_afl, ok_T, ok_qNot, ok_qAnd, ok_qOr, ok_and, ok_or, ok_not, ok_if, ok_Sl, ok_oNo, ok_oOf, ok_Ch, ok_it, ok_itA, ok_yes, v_addI, v_sub, v_neg, v_eqI, v_eqS, v_eqB, v_eq0, v_eqT0, v_neI, v_neS, v_neB, v_ne0, v_neT0, v_ltI, v_leI, v_gtI, v_geI, v_is, v_isNot, v_nn, v_ns, v_ni, v_nl, v_nt, v_tb, v_tl, v_tt, v_tn, v_ti, v_asB, v_asI, v_asL, v_asT, v_asS, v_lenL, v_lenT, v_tupL, v_tupT, v_listL, v_listT, v_intB, v_tup0, v_tup1, v_tup2, v_tup3, v_tup4, v_tup5, v_lst0, v_lst1, v_lst2, v_lst3, v_lst4, v_lst5, v_ok0, v_ok1, v_ok2, v_ix0L, v_ix0, v_ix1, v_ix2, v_ix3, v_fs, v_fi, v_fb, v_fn, v_ft, v_f0, v_fc, startR, List.map_cons, List.map_nil, List.length_cons, List.length_nil, List.replicate, List.cons_append, List.nil_append, List.set_cons_zero, List.set_cons_succ, Option.some.injEq, exists_eq_left', Nat.reduceAdd, Nat.reduceSub, Nat.sub_zero, Nat.sub_self, Nat.zero_add, Nat.reduceEqDiff, Bool.not_true, Bool.not_false, if_true, if_false, Bool.and_self, Bool.true_and, Bool.and_true, Bool.false_eq_true, ↓reduceIte, true_and, and_true, decide_true, decide_false, wipeR]
  refine ok_reason (by omega) (by omega) fun d s6 hop => ?_
  obtain ⟨wd, zs, rfl, hwd⟩ := hop
  try simp only [ok_V0, ok_Vs, ok_K, ok_B, ok_U, ok_nil, ok_cons, ok_N, ok_aN, ok_call, ok_nl, ok_fl, ok_afl, ok_T, ok_qNot, ok_qAnd, ok_qOr, ok_and, ok_or, ok_not, ok_if, ok_Sl, ok_oNo, ok_oOf, ok_Ch, ok_it, ok_itA, ok_yes, v_addI, v_sub, v_neg, v_eqI, v_eqS, v_eqB, v_eq0, v_eqT0, v_neI, v_neS, v_neB, v_ne0, v_neT0, v_ltI, v_leI, v_gtI, v_geI, v_is, v_isNot, v_nn, v_ns, v_ni, v_nl, v_nt, v_tb, v_tl, v_tt, v_tn, v_ti, v_asB, v_asI, v_asL, v_asT, v_asS, v_lenL, v_lenT, v_tupL, v_tupT, v_listL, v_listT, v_intB, v_tup0, v_tup1, v_tup2, v_tup3, v_tup4, v_tup5, v_lst0, v_lst1, v_lst2, v_lst3, v_lst4, v_lst5, v_ok0, v_ok1, v_ok2, v_ix0L, v_ix0, v_ix1, v_ix2, v_ix3, v_fs, v_fi, v_fb, v_fn, v_ft, v_f0, v_fc, startR, List.map_cons, List.map_nil, List.length_cons, List.length_nil, List.replicate, List.cons_append, List.nil_append, List.set_cons_zero, List.set_cons_succ, Option.some.injEq, exists_eq_left', Nat.reduceAdd, Nat.reduceSub, Nat.sub_zero, Nat.sub_self, Nat.zero_add, Nat.reduceEqDiff, Bool.not_true, Bool.not_false, if_true, if_false, Bool.and_self, Bool.true_and, Bool.and_true, Bool.false_eq_true, ↓reduceIte, true_and, and_true, decide_true, decide_false, wipeR]
  refine k_ret ?_
  try simp only [ok_V0, ok_Vs, ok_K, ok_B, ok_U, ok_nil, ok_cons, ok_N, ok_aN, ok_call, ok_nl, ok_fl, ok_afl, ok_T, ok_qNot, ok_qAnd, ok_qOr, ok_and, ok_or, ok_not, ok_if, ok_Sl, ok_oNo, ok_oOf, ok_Ch, ok_it, ok_itA, ok_yes, v_addI, v_sub, v_neg, v_eqI, v_eqS, v_eqB, v_eq0, v_eqT0, v_neI, v_neS, v_neB, v_ne0, v_neT0, v_ltI, v_leI, v_gtI, v_geI, v_is, v_isNot, v_nn, v_ns, v_ni, v_nl, v_nt, v_tb, v_tl, v_tt, v_tn, v_ti, v_asB, v_asI, v_asL, v_asT, v_asS, v_lenL, v_lenT, v_tupL, v_tupT, v_listL, v_listT, v_intB, v_tup0, v_tup1, v_tup2, v_tup3, v_tup4, v_tup5, v_lst0, v_lst1, v_lst2, v_lst3, v_lst4, v_lst5, v_ok0, v_ok1, v_ok2, v_ix0L, v_ix0, v_ix1, v_ix2, v_ix3, v_fs, v_fi, v_fb, v_fn, v_ft, v_f0, v_fc, startR, List.map_cons, List.map_nil, List.length_cons, List.length_nil, List.replicate, List.cons_append, List.nil_append, List.set_cons_zero, List.set_cons_succ, Option.some.injEq, exists_eq_left', Nat.reduceAdd, Nat.reduceSub, Nat.sub_zero, Nat.sub_self, Nat.zero_add, Nat.reduceEqDiff, Bool.not_true, Bool.not_false, if_true, if_false, Bool.and_self, Bool.true_and, Bool.and_true, Bool.false_eq_true, ↓reduceIte, true_and, and_true, decide_true, decide_false, wipeR]
  rw [v_addL (szL (by rw [st.bx.1]; simp; omega))]
  try simp only [ok_V0, ok_Vs, ok_K, ok_B, ok_U, ok_nil, ok_cons, ok_N, ok_aN, ok_call, ok_nl, ok_fl, ok_afl, ok_T, ok_qNot, ok_qAnd, ok_qOr, ok_and, ok_or, ok_not, ok_if, ok_Sl, ok_oNo, ok_oOf, ok_Ch, ok_it, ok_itA, ok_yes, v_addI, v_sub, v_neg, v_eqI, v_eqS, v_eqB, v_eq0, v_eqT0, v_neI, v_neS, v_neB, v_ne0, v_neT0, v_ltI, v_leI, v_gtI, v_geI, v_is, v_isNot, v_nn, v_ns, v_ni, v_nl, v_nt, v_tb, v_tl, v_tt, v_tn, v_ti, v_asB, v_asI, v_asL, v_asT, v_asS, v_lenL, v_lenT, v_tupL, v_tupT, v_listL, v_listT, v_intB, v_tup0, v_tup1, v_tup2, v_tup3, v_tup4, v_tup5, v_lst0, v_lst1, v_lst2, v_lst3, v_lst4, v_lst5, v_ok0, v_ok1, v_ok2, v_ix0L, v_ix0, v_ix1, v_ix2, v_ix3, v_fs, v_fi, v_fb, v_fn, v_ft, v_f0, v_fc, startR, List.map_cons, List.map_nil, List.length_cons, List.length_nil, List.replicate, List.cons_append, List.nil_append, List.set_cons_zero, List.set_cons_succ, Option.some.injEq, exists_eq_left', Nat.reduceAdd, Nat.reduceSub, Nat.sub_zero, Nat.sub_self, Nat.zero_add, Nat.reduceEqDiff, Bool.not_true, Bool.not_false, if_true, if_false, Bool.and_self, Bool.true_and, Bool.and_true, Bool.false_eq_true, ↓reduceIte, true_and, and_true, decide_true, decide_false, wipeR]
  have hnil : arN (L ++ [(0, false)]) (L.length + 1) = [] := by
    rw [← around_no (ps := ps) st.ar, List.map_eq_nil_iff, List.filter_eq_nil_iff]
    intro p hp
    have hm : p.1 ∈ ps.map (·.1) := List.mem_map.mpr ⟨p, hp, rfl⟩
    rw [st.ar] at hm
    obtain ⟨x, hx, hop⟩ := arN_op L _ _ hm
    rw [lev_at hx]
    have := (st.lvs x (List.mem_of_getElem? hx)).2 hop
    simp
    omega
  refine q _ _ (L ++ [(0, false)]) _ (st.ls.app ⟨F, wd, zs, rfl, by simpa using hwd⟩) ?_ (by rw [List.length_append]; simp; omega) (by rw [List.length_append]; simp) ?_
  · rw [List.length_append]
    exact st.bx.more ⟨[], rfl, by rw [hnil]; rfl, fun p h => nomatch h⟩
  · intro x hx
    rcases List.mem_append.mp hx with hx | hx
    · exact st.lvs x hx
    · have : x = (0, false) := by simpa using hx
      subst this
      exact ⟨by decide, fun z => nomatch z⟩
end Lw23
set_option Elab.async false
set_option linter.all false
set_option maxRecDepth 100000
set_option maxHeartbeats 4000000
namespace Lw23
open PySem PySem.Spec L2 Dl
section
variable {S : Type} {s : S}
theorem ok_eq {o : Option (D × S)} {d : D} (h : Ok o fun a b => a = d ∧ b = s) : o = some (d, s) := by
  obtain ⟨a, b, e, rfl, rfl⟩ := h
  exact e
theorem in_opW {w : Str} : pIn (.str w) d_OPENERS = some (.bool (decide (w ∈ opW))) := by
  have e : d_OPENERS = .tuple (opW.map .str) := rfl
  rw [e]
  simp only [pIn, inD, mem_strs]
  rfl
theorem is_opener_eq {d : D} {x : Ln} (h : LnD d x) : K_is_opener [d] s = some (.bool x.2, s) := by
  obtain ⟨y, wd, zs, rfl, hx⟩ := h
  apply ok_eq
  unfold K_is_opener B_is_opener
  refine k_fn (k_ret ?_)
  simp only [ok_V0, ok_Vs, ok_K, ok_B, ok_U, ok_nil, ok_cons, ok_N, ok_aN, ok_call, ok_nl, ok_fl, ok_afl, ok_T, ok_qNot, ok_qAnd, ok_qOr, ok_and, ok_or, ok_not, ok_if, ok_Sl, ok_oNo, ok_oOf, ok_Ch, ok_it, ok_itA, ok_yes, v_addI, v_sub, v_neg, v_eqI, v_eqS, v_eqB, v_eq0, v_eqT0, v_neI, v_neS, v_neB, v_ne0, v_neT0, v_ltI, v_leI, v_gtI, v_geI, v_is, v_isNot, v_nn, v_ns, v_ni, v_nl, v_nt, v_tb, v_tl, v_tt, v_tn, v_ti, v_asB, v_asI, v_asL, v_asT, v_asS, v_lenL, v_lenT, v_tupL, v_tupT, v_listL, v_listT, v_intB, v_tup0, v_tup1, v_tup2, v_tup3, v_tup4, v_tup5, v_lst0, v_lst1, v_lst2, v_lst3, v_lst4, v_lst5, v_ok0, v_ok1, v_ok2, v_ix0L, v_ix0, v_ix1, v_ix2, v_ix3, v_fs, v_fi, v_fb, v_fn, v_ft, v_f0, v_fc, startR, List.map_cons, List.map_nil, List.length_cons, List.length_nil, List.replicate, List.cons_append, List.nil_append, List.set_cons_zero, List.set_cons_succ, Option.some.injEq, exists_eq_left', Nat.reduceAdd, Nat.reduceSub, Nat.sub_zero, Nat.sub_self, Nat.zero_add, Nat.reduceEqDiff, Bool.not_true, Bool.not_false, if_true, if_false, Bool.and_self, Bool.true_and, Bool.and_true, Bool.false_eq_true, ↓reduceIte, true_and, and_true, decide_true, decide_false, wipeR, in_opW, hx]
abbrev Pends : Fn S := K_ends_box K_is_opener
theorem ends_eq {d : D} {x : Ln} {l : Int} (h : LnD d x) : Pends [d, .int l] s = some (.bool (ends x l), s) := by
  have h1 := is_opener_eq (s := s) h
  apply ok_eq
  obtain ⟨y, wd, zs, rfl, hx⟩ := h
  unfold Pends K_ends_box B_ends_box
  refine k_fn (k_ret ?_)
  simp only [ok_V0, ok_Vs, ok_K, ok_B, ok_U, ok_nil, ok_cons, ok_N, ok_aN, ok_call, ok_nl, ok_fl, ok_afl, ok_T, ok_qNot, ok_qAnd, ok_qOr, ok_and, ok_or, ok_not, ok_if, ok_Sl, ok_oNo, ok_oOf, ok_Ch, ok_it, ok_itA, ok_yes, v_addI, v_sub, v_neg, v_eqI, v_eqS, v_eqB, v_eq0, v_eqT0, v_neI, v_neS, v_neB, v_ne0, v_neT0, v_ltI, v_leI, v_gtI, v_geI, v_is, v_isNot, v_nn, v_ns, v_ni, v_nl, v_nt, v_tb, v_tl, v_tt, v_tn, v_ti, v_asB, v_asI, v_asL, v_asT, v_asS, v_lenL, v_lenT, v_tupL, v_tupT, v_listL, v_listT, v_intB, v_tup0, v_tup1, v_tup2, v_tup3, v_tup4, v_tup5, v_lst0, v_lst1, v_lst2, v_lst3, v_lst4, v_lst5, v_ok0, v_ok1, v_ok2, v_ix0L, v_ix0, v_ix1, v_ix2, v_ix3, v_fs, v_fi, v_fb, v_fn, v_ft, v_f0, v_fc, startR, List.map_cons, List.map_nil, List.length_cons, List.length_nil, List.replicate, List.cons_append, List.nil_append, List.set_cons_zero, List.set_cons_succ, Option.some.injEq, exists_eq_left', Nat.reduceAdd, Nat.reduceSub, Nat.sub_zero, Nat.sub_self, Nat.zero_add, Nat.reduceEqDiff, Bool.not_true, Bool.not_false, if_true, if_false, Bool.and_self, Bool.true_and, Bool.and_true, Bool.false_eq_true, ↓reduceIte, true_and, and_true, decide_true, decide_false, wipeR]
  unfold ends
  by_cases a : x.1 < l
  · simp only [ok_V0, ok_Vs, ok_K, ok_B, ok_U, ok_nil, ok_cons, ok_N, ok_aN, ok_call, ok_nl, ok_fl, ok_afl, ok_T, ok_qNot, ok_qAnd, ok_qOr, ok_and, ok_or, ok_not, ok_if, ok_Sl, ok_oNo, ok_oOf, ok_Ch, ok_it, ok_itA, ok_yes, v_addI, v_sub, v_neg, v_eqI, v_eqS, v_eqB, v_eq0, v_eqT0, v_neI, v_neS, v_neB, v_ne0, v_neT0, v_ltI, v_leI, v_gtI, v_geI, v_is, v_isNot, v_nn, v_ns, v_ni, v_nl, v_nt, v_tb, v_tl, v_tt, v_tn, v_ti, v_asB, v_asI, v_asL, v_asT, v_asS, v_lenL, v_lenT, v_tupL, v_tupT, v_listL, v_listT, v_intB, v_tup0, v_tup1, v_tup2, v_tup3, v_tup4, v_tup5, v_lst0, v_lst1, v_lst2, v_lst3, v_lst4, v_lst5, v_ok0, v_ok1, v_ok2, v_ix0L, v_ix0, v_ix1, v_ix2, v_ix3, v_fs, v_fi, v_fb, v_fn, v_ft, v_f0, v_fc, startR, List.map_cons, List.map_nil, List.length_cons, List.length_nil, List.replicate, List.cons_append, List.nil_append, List.set_cons_zero, List.set_cons_succ, Option.some.injEq, exists_eq_left', Nat.reduceAdd, Nat.reduceSub, Nat.sub_zero, Nat.sub_self, Nat.zero_add, Nat.reduceEqDiff, Bool.not_true, Bool.not_false, if_true, if_false, Bool.and_self, Bool.true_and, Bool.and_true, Bool.false_eq_true, ↓reduceIte, true_and, and_true, decide_true, decide_false, wipeR, a, Bool.true_or]
  · by_cases b : x.1 = l
    · subst b
      simp only [ok_V0, ok_Vs, ok_K, ok_B, ok_U, ok_nil, ok_cons, ok_N, ok_aN, ok_call, ok_nl, ok_fl, ok_afl, ok_T, ok_qNot, ok_qAnd, ok_qOr, ok_and, ok_or, ok_not, ok_if, ok_Sl, ok_oNo, ok_oOf, ok_Ch, ok_it, ok_itA, ok_yes, v_addI, v_sub, v_neg, v_eqI, v_eqS, v_eqB, v_eq0, v_eqT0, v_neI, v_neS, v_neB, v_ne0, v_neT0, v_ltI, v_leI, v_gtI, v_geI, v_is, v_isNot, v_nn, v_ns, v_ni, v_nl, v_nt, v_tb, v_tl, v_tt, v_tn, v_ti, v_asB, v_asI, v_asL, v_asT, v_asS, v_lenL, v_lenT, v_tupL, v_tupT, v_listL, v_listT, v_intB, v_tup0, v_tup1, v_tup2, v_tup3, v_tup4, v_tup5, v_lst0, v_lst1, v_lst2, v_lst3, v_lst4, v_lst5, v_ok0, v_ok1, v_ok2, v_ix0L, v_ix0, v_ix1, v_ix2, v_ix3, v_fs, v_fi, v_fb, v_fn, v_ft, v_f0, v_fc, startR, List.map_cons, List.map_nil, List.length_cons, List.length_nil, List.replicate, List.cons_append, List.nil_append, List.set_cons_zero, List.set_cons_succ, Option.some.injEq, exists_eq_left', Nat.reduceAdd, Nat.reduceSub, Nat.sub_zero, Nat.sub_self, Nat.zero_add, Nat.reduceEqDiff, Bool.not_true, Bool.not_false, if_true, if_false, Bool.and_self, Bool.true_and, Bool.and_true, Bool.false_eq_true, ↓reduceIte, true_and, and_true, decide_true, decide_false, wipeR, h1, Bool.false_or, ok_some, show (x.1 < x.1) = False from eq_false (by omega)]
    · simp only [ok_V0, ok_Vs, ok_K, ok_B, ok_U, ok_nil, ok_cons, ok_N, ok_aN, ok_call, ok_nl, ok_fl, ok_afl, ok_T, ok_qNot, ok_qAnd, ok_qOr, ok_and, ok_or, ok_not, ok_if, ok_Sl, ok_oNo, ok_oOf, ok_Ch, ok_it, ok_itA, ok_yes, v_addI, v_sub, v_neg, v_eqI, v_eqS, v_eqB, v_eq0, v_eqT0, v_neI, v_neS, v_neB, v_ne0, v_neT0, v_ltI, v_leI, v_gtI, v_geI, v_is, v_isNot, v_nn, v_ns, v_ni, v_nl, v_nt, v_tb, v_tl, v_tt, v_tn, v_ti, v_asB, v_asI, v_asL, v_asT, v_asS, v_lenL, v_lenT, v_tupL, v_tupT, v_listL, v_listT, v_intB, v_tup0, v_tup1, v_tup2, v_tup3, v_tup4, v_tup5, v_lst0, v_lst1, v_lst2, v_lst3, v_lst4, v_lst5, v_ok0, v_ok1, v_ok2, v_ix0L, v_ix0, v_ix1, v_ix2, v_ix3, v_fs, v_fi, v_fb, v_fn, v_ft, v_f0, v_fc, startR, List.map_cons, List.map_nil, List.length_cons, List.length_nil, List.replicate, List.cons_append, List.nil_append, List.set_cons_zero, List.set_cons_succ, Option.some.injEq, exists_eq_left', Nat.reduceAdd, Nat.reduceSub, Nat.sub_zero, Nat.sub_self, Nat.zero_add, Nat.reduceEqDiff, Bool.not_true, Bool.not_false, if_true, if_false, Bool.and_self, Bool.true_and, Bool.and_true, Bool.false_eq_true, ↓reduceIte, true_and, and_true, decide_true, decide_false, wipeR, a, b, Bool.false_or, Bool.false_and]
abbrev Phas : Fn S := K_has_opener K_is_opener
theorem ix_lines {xs : List D} {L : List Ln} {a : Nat} {x : Ln} (h : LsD xs L) (hx : L[a]? = some x) : ∃ d, pIx (.tuple xs) (.int ((a : Nat) : Int)) = some d ∧ LnD d x := by
  obtain ⟨d, h1, h2⟩ := h.2 a x hx
  exact ⟨d, by simp only [pIx]; exact atI_nat h1, h2⟩
theorem has_eq {xs : List D} {L : List Ln} {a : Nat} {x : Ln} (h : LsD xs L) (hx : L[a]? = some x) : Phas [.tuple xs, .int ((a + 1 : Nat) : Int)] s = some (.bool x.2, s) := by
  have ha := (List.getElem?_eq_some_iff.mp hx).1
  obtain ⟨d, e1, hd⟩ := ix_lines h hx
  apply ok_eq
  unfold Phas K_has_opener B_has_opener
  refine k_fn (k_ret ?_)
  have hl : xs.length = L.length := h.1
  simp only [ok_V0, ok_Vs, ok_K, ok_B, ok_U, ok_nil, ok_cons, ok_N, ok_aN, ok_call, ok_nl, ok_fl, ok_afl, ok_T, ok_qNot, ok_qAnd, ok_qOr, ok_and, ok_or, ok_not, ok_if, ok_Sl, ok_oNo, ok_oOf, ok_Ch, ok_it, ok_itA, ok_yes, v_addI, v_sub, v_neg, v_eqI, v_eqS, v_eqB, v_eq0, v_eqT0, v_neI, v_neS, v_neB, v_ne0, v_neT0, v_ltI, v_leI, v_gtI, v_geI, v_is, v_isNot, v_nn, v_ns, v_ni, v_nl, v_nt, v_tb, v_tl, v_tt, v_tn, v_ti, v_asB, v_asI, v_asL, v_asT, v_asS, v_lenL, v_lenT, v_tupL, v_tupT, v_listL, v_listT, v_intB, v_tup0, v_tup1, v_tup2, v_tup3, v_tup4, v_tup5, v_lst0, v_lst1, v_lst2, v_lst3, v_lst4, v_lst5, v_ok0, v_ok1, v_ok2, v_ix0L, v_ix0, v_ix1, v_ix2, v_ix3, v_fs, v_fi, v_fb, v_fn, v_ft, v_f0, v_fc, startR, List.map_cons, List.map_nil, List.length_cons, List.length_nil, List.replicate, List.cons_append, List.nil_append, List.set_cons_zero, List.set_cons_succ, Option.some.injEq, exists_eq_left', Nat.reduceAdd, Nat.reduceSub, Nat.sub_zero, Nat.sub_self, Nat.zero_add, Nat.reduceEqDiff, Bool.not_true, Bool.not_false, if_true, if_false, Bool.and_self, Bool.true_and, Bool.and_true, Bool.false_eq_true, ↓reduceIte, true_and, and_true, decide_true, decide_false, wipeR, show ((1 : Int) ≤ ((a + 1 : Nat) : Int)) = True from eq_true (by omega), show (((a + 1 : Nat) : Int) ≤ (xs.length : Int)) = True from eq_true (by omega), show ((a + 1 : Nat) : Int) - 1 = (a : Nat) from by omega, e1, is_opener_eq hd, ok_some]
theorem lev_ix {d : D} {x : Ln} (h : LnD d x) : pIx d (.int 0) = some (.int x.1) := by
  obtain ⟨y, wd, zs, rfl, _⟩ := h
  exact v_ix0
abbrev Pbox : Fn S := K_box_of Phas Pends
theorem box_eq {xs : List D} {L : List Ln} {a : Nat} {x : Ln} (h : LsD xs L) (hx : L[a]? = some x) (hop : x.2 = true) (hL : L.length ≤ 900) : ∃ e, BoxEnd L a x e ∧ Pbox [.tuple xs, .int ((a + 1 : Nat) : Int)] s = some (.tuple [.int ((a + 1 : Nat) : Int), .int (e : Nat)], s) := by
  have ha := (List.getElem?_eq_some_iff.mp hx).1
  obtain ⟨d, e1, hd⟩ := ix_lines h hx
  have hl : xs.length = L.length := h.1
  -- the while
  have wh : ∀ (n e : Nat), a + 1 ≤ e → e ≤ L.length → L.length < e + n → (∀ j y, a + 1 ≤ j → j < e → L[j]? = some y → ends y x.1 = false) →
      ∃ e', BoxEnd L a x e' ∧ whileF (qAnd (qT (cB pLt (cVar 2) (cN pLen (aCons (cVar 0) aNil)))) (qNot (qT (cCall 2 Pends (aCons (cB pIx (cVar 0) (cVar 2)) (aCons (cB pIx (cB pIx (cVar 0) (cB pSub (cVar 1) (cK (.int 1)))) (cK (.int 0))) aNil))))))
        (sAug 2 (pI0 fun i j => .int (i + j)) (cK (.int 1))) n [some (.tuple xs), some (.int ((a + 1 : Nat) : Int)), some (.int (e : Nat))] s = some (.nx [some (.tuple xs), some (.int ((a + 1 : Nat) : Int)), some (.int (e' : Nat))], s) := by
    intro n
    induction n with
    | zero => intro e h1 h2 h3; omega
    | succ n ih =>
      intro e h1 h2 h3 h4
      unfold whileF
      by_cases hel : e < L.length
      · obtain ⟨y, hy⟩ : ∃ y, L[e]? = some y := ⟨_, List.getElem?_eq_getElem hel⟩
        obtain ⟨dy, ey, hdy⟩ := ix_lines h hy
        have tq : (qAnd (qT (cB pLt (cVar 2) (cN pLen (aCons (cVar 0) aNil)))) (qNot (qT (cCall 2 Pends (aCons (cB pIx (cVar 0) (cVar 2)) (aCons (cB pIx (cB pIx (cVar 0) (cB pSub (cVar 1) (cK (.int 1)))) (cK (.int 0))) aNil)))))) [some (.tuple xs), some (.int ((a + 1 : Nat) : Int)), some (.int (e : Nat))] s = some (!ends y x.1, s) := by
          have : Ok ((qAnd (qT (cB pLt (cVar 2) (cN pLen (aCons (cVar 0) aNil)))) (qNot (qT (cCall 2 Pends (aCons (cB pIx (cVar 0) (cVar 2)) (aCons (cB pIx (cB pIx (cVar 0) (cB pSub (cVar 1) (cK (.int 1)))) (cK (.int 0))) aNil)))))) [some (.tuple xs), some (.int ((a + 1 : Nat) : Int)), some (.int (e : Nat))] s) fun b s' => b = (!ends y x.1) ∧ s' = s := by
            simp only [ok_V0, ok_Vs, ok_K, ok_B, ok_U, ok_nil, ok_cons, ok_N, ok_aN, ok_call, ok_nl, ok_fl, ok_afl, ok_T, ok_qNot, ok_qAnd, ok_qOr, ok_and, ok_or, ok_not, ok_if, ok_Sl, ok_oNo, ok_oOf, ok_Ch, ok_it, ok_itA, ok_yes, v_addI, v_sub, v_neg, v_eqI, v_eqS, v_eqB, v_eq0, v_eqT0, v_neI, v_neS, v_neB, v_ne0, v_neT0, v_ltI, v_leI, v_gtI, v_geI, v_is, v_isNot, v_nn, v_ns, v_ni, v_nl, v_nt, v_tb, v_tl, v_tt, v_tn, v_ti, v_asB, v_asI, v_asL, v_asT, v_asS, v_lenL, v_lenT, v_tupL, v_tupT, v_listL, v_listT, v_intB, v_tup0, v_tup1, v_tup2, v_tup3, v_tup4, v_tup5, v_lst0, v_lst1, v_lst2, v_lst3, v_lst4, v_lst5, v_ok0, v_ok1, v_ok2, v_ix0L, v_ix0, v_ix1, v_ix2, v_ix3, v_fs, v_fi, v_fb, v_fn, v_ft, v_f0, v_fc, startR, List.map_cons, List.map_nil, List.length_cons, List.length_nil, List.replicate, List.cons_append, List.nil_append, List.set_cons_zero, List.set_cons_succ, Option.some.injEq, exists_eq_left', Nat.reduceAdd, Nat.reduceSub, Nat.sub_zero, Nat.sub_self, Nat.zero_add, Nat.reduceEqDiff, Bool.not_true, Bool.not_false, if_true, if_false, Bool.and_self, Bool.true_and, Bool.and_true, Bool.false_eq_true, ↓reduceIte, true_and, and_true, decide_true, decide_false, wipeR, show ((e : Int) < (xs.length : Int)) = True from eq_true (by omega), show ((a + 1 : Nat) : Int) - 1 = (a : Nat) from by omega, e1, ey, lev_ix hd, ends_eq hdy, ok_some]
          obtain ⟨b, s', q1, rfl, rfl⟩ := this
          exact q1
        rw [tq, bnd_of]
        cases hey : ends y x.1 with
        | true =>
          refine ⟨e, ⟨h1, h2, h4, fun z hz => by rw [hy] at hz; cases hz; exact hey⟩, ?_⟩
          simp
        | false =>
          obtain ⟨e', be, hw⟩ := ih (e + 1) (by omega) (by omega) (by omega) fun j z j1 j2 hz => by
            by_cases hj : j = e
            · subst hj; rw [hy] at hz; cases hz; exact hey
            · exact h4 j z j1 (by omega) hz
          refine ⟨e', be, ?_⟩
          simp only [Bool.not_false, if_true]
          show whileF _ _ n [some (.tuple xs), some (.int ((a + 1 : Nat) : Int)), some (.int ((e : Int) + 1))] s = _
          rw [show ((e : Int) + 1) = ((e + 1 : Nat) : Int) by omega]
          exact hw
      · have tq : (qAnd (qT (cB pLt (cVar 2) (cN pLen (aCons (cVar 0) aNil)))) (qNot (qT (cCall 2 Pends (aCons (cB pIx (cVar 0) (cVar 2)) (aCons (cB pIx (cB pIx (cVar 0) (cB pSub (cVar 1) (cK (.int 1)))) (cK (.int 0))) aNil)))))) [some (.tuple xs), some (.int ((a + 1 : Nat) : Int)), some (.int (e : Nat))] s = some (false, s) := by
          have : Ok ((qAnd (qT (cB pLt (cVar 2) (cN pLen (aCons (cVar 0) aNil)))) (qNot (qT (cCall 2 Pends (aCons (cB pIx (cVar 0) (cVar 2)) (aCons (cB pIx (cB pIx (cVar 0) (cB pSub (cVar 1) (cK (.int 1)))) (cK (.int 0))) aNil)))))) [some (.tuple xs), some (.int ((a + 1 : Nat) : Int)), some (.int (e : Nat))] s) fun b s' => b = false ∧ s' = s := by
            simp only [ok_V0, ok_Vs, ok_K, ok_B, ok_U, ok_nil, ok_cons, ok_N, ok_aN, ok_call, ok_nl, ok_fl, ok_afl, ok_T, ok_qNot, ok_qAnd, ok_qOr, ok_and, ok_or, ok_not, ok_if, ok_Sl, ok_oNo, ok_oOf, ok_Ch, ok_it, ok_itA, ok_yes, v_addI, v_sub, v_neg, v_eqI, v_eqS, v_eqB, v_eq0, v_eqT0, v_neI, v_neS, v_neB, v_ne0, v_neT0, v_ltI, v_leI, v_gtI, v_geI, v_is, v_isNot, v_nn, v_ns, v_ni, v_nl, v_nt, v_tb, v_tl, v_tt, v_tn, v_ti, v_asB, v_asI, v_asL, v_asT, v_asS, v_lenL, v_lenT, v_tupL, v_tupT, v_listL, v_listT, v_intB, v_tup0, v_tup1, v_tup2, v_tup3, v_tup4, v_tup5, v_lst0, v_lst1, v_lst2, v_lst3, v_lst4, v_lst5, v_ok0, v_ok1, v_ok2, v_ix0L, v_ix0, v_ix1, v_ix2, v_ix3, v_fs, v_fi, v_fb, v_fn, v_ft, v_f0, v_fc, startR, List.map_cons, List.map_nil, List.length_cons, List.length_nil, List.replicate, List.cons_append, List.nil_append, List.set_cons_zero, List.set_cons_succ, Option.some.injEq, exists_eq_left', Nat.reduceAdd, Nat.reduceSub, Nat.sub_zero, Nat.sub_self, Nat.zero_add, Nat.reduceEqDiff, Bool.not_true, Bool.not_false, if_true, if_false, Bool.and_self, Bool.true_and, Bool.and_true, Bool.false_eq_true, ↓reduceIte, true_and, and_true, decide_true, decide_false, wipeR, show ((e : Int) < (xs.length : Int)) = False from eq_false (by omega)]
          obtain ⟨b, s', q1, rfl, rfl⟩ := this
          exact q1
        rw [tq, bnd_of]
        refine ⟨e, ⟨h1, h2, h4, fun z hz => ?_⟩, by simp⟩
        rw [List.getElem?_eq_none (by omega)] at hz
        cases hz
  obtain ⟨e, be, hw⟩ := wh 1000 (a + 1) (Nat.le_refl _) ha (by omega) fun j y h1 h2 => by omega
  refine ⟨e, be, ok_eq ?_⟩
  unfold Pbox K_box_of B_box_of
  refine k_fn (k_seq (k_sIf ?_))
  simp only [ok_V0, ok_Vs, ok_K, ok_B, ok_U, ok_nil, ok_cons, ok_N, ok_aN, ok_call, ok_nl, ok_fl, ok_afl, ok_T, ok_qNot, ok_qAnd, ok_qOr, ok_and, ok_or, ok_not, ok_if, ok_Sl, ok_oNo, ok_oOf, ok_Ch, ok_it, ok_itA, ok_yes, v_addI, v_sub, v_neg, v_eqI, v_eqS, v_eqB, v_eq0, v_eqT0, v_neI, v_neS, v_neB, v_ne0, v_neT0, v_ltI, v_leI, v_gtI, v_geI, v_is, v_isNot, v_nn, v_ns, v_ni, v_nl, v_nt, v_tb, v_tl, v_tt, v_tn, v_ti, v_asB, v_asI, v_asL, v_asT, v_asS, v_lenL, v_lenT, v_tupL, v_tupT, v_listL, v_listT, v_intB, v_tup0, v_tup1, v_tup2, v_tup3, v_tup4, v_tup5, v_lst0, v_lst1, v_lst2, v_lst3, v_lst4, v_lst5, v_ok0, v_ok1, v_ok2, v_ix0L, v_ix0, v_ix1, v_ix2, v_ix3, v_fs, v_fi, v_fb, v_fn, v_ft, v_f0, v_fc, startR, List.map_cons, List.map_nil, List.length_cons, List.length_nil, List.replicate, List.cons_append, List.nil_append, List.set_cons_zero, List.set_cons_succ, Option.some.injEq, exists_eq_left', Nat.reduceAdd, Nat.reduceSub, Nat.sub_zero, Nat.sub_self, Nat.zero_add, Nat.reduceEqDiff, Bool.not_true, Bool.not_false, if_true, if_false, Bool.and_self, Bool.true_and, Bool.and_true, Bool.false_eq_true, ↓reduceIte, true_and, and_true, decide_true, decide_false, wipeR, has_eq h hx, ok_some, hop]
  refine k_nx (k_seq (k_set ?_))
  try simp only [ok_V0, ok_Vs, ok_K, ok_B, ok_U, ok_nil, ok_cons, ok_N, ok_aN, ok_call, ok_nl, ok_fl, ok_afl, ok_T, ok_qNot, ok_qAnd, ok_qOr, ok_and, ok_or, ok_not, ok_if, ok_Sl, ok_oNo, ok_oOf, ok_Ch, ok_it, ok_itA, ok_yes, v_addI, v_sub, v_neg, v_eqI, v_eqS, v_eqB, v_eq0, v_eqT0, v_neI, v_neS, v_neB, v_ne0, v_neT0, v_ltI, v_leI, v_gtI, v_geI, v_is, v_isNot, v_nn, v_ns, v_ni, v_nl, v_nt, v_tb, v_tl, v_tt, v_tn, v_ti, v_asB, v_asI, v_asL, v_asT, v_asS, v_lenL, v_lenT, v_tupL, v_tupT, v_listL, v_listT, v_intB, v_tup0, v_tup1, v_tup2, v_tup3, v_tup4, v_tup5, v_lst0, v_lst1, v_lst2, v_lst3, v_lst4, v_lst5, v_ok0, v_ok1, v_ok2, v_ix0L, v_ix0, v_ix1, v_ix2, v_ix3, v_fs, v_fi, v_fb, v_fn, v_ft, v_f0, v_fc, startR, List.map_cons, List.map_nil, List.length_cons, List.length_nil, List.replicate, List.cons_append, List.nil_append, List.set_cons_zero, List.set_cons_succ, Option.some.injEq, exists_eq_left', Nat.reduceAdd, Nat.reduceSub, Nat.sub_zero, Nat.sub_self, Nat.zero_add, Nat.reduceEqDiff, Bool.not_true, Bool.not_false, if_true, if_false, Bool.and_self, Bool.true_and, Bool.and_true, Bool.false_eq_true, ↓reduceIte, true_and, and_true, decide_true, decide_false, wipeR]
  refine k_seq (Ok.of hw ?_)
  try simp only [ok_V0, ok_Vs, ok_K, ok_B, ok_U, ok_nil, ok_cons, ok_N, ok_aN, ok_call, ok_nl, ok_fl, ok_afl, ok_T, ok_qNot, ok_qAnd, ok_qOr, ok_and, ok_or, ok_not, ok_if, ok_Sl, ok_oNo, ok_oOf, ok_Ch, ok_it, ok_itA, ok_yes, v_addI, v_sub, v_neg, v_eqI, v_eqS, v_eqB, v_eq0, v_eqT0, v_neI, v_neS, v_neB, v_ne0, v_neT0, v_ltI, v_leI, v_gtI, v_geI, v_is, v_isNot, v_nn, v_ns, v_ni, v_nl, v_nt, v_tb, v_tl, v_tt, v_tn, v_ti, v_asB, v_asI, v_asL, v_asT, v_asS, v_lenL, v_lenT, v_tupL, v_tupT, v_listL, v_listT, v_intB, v_tup0, v_tup1, v_tup2, v_tup3, v_tup4, v_tup5, v_lst0, v_lst1, v_lst2, v_lst3, v_lst4, v_lst5, v_ok0, v_ok1, v_ok2, v_ix0L, v_ix0, v_ix1, v_ix2, v_ix3, v_fs, v_fi, v_fb, v_fn, v_ft, v_f0, v_fc, startR, List.map_cons, List.map_nil, List.length_cons, List.length_nil, List.replicate, List.cons_append, List.nil_append, List.set_cons_zero, List.set_cons_succ, Option.some.injEq, exists_eq_left', Nat.reduceAdd, Nat.reduceSub, Nat.sub_zero, Nat.sub_self, Nat.zero_add, Nat.reduceEqDiff, Bool.not_true, Bool.not_false, if_true, if_false, Bool.and_self, Bool.true_and, Bool.and_true, Bool.false_eq_true, ↓reduceIte, true_and, and_true, decide_true, decide_false, wipeR]
  refine k_ret ?_
  simp only [ok_V0, ok_Vs, ok_K, ok_B, ok_U, ok_nil, ok_cons, ok_N, ok_aN, ok_call, ok_nl, ok_fl, ok_afl, ok_T, ok_qNot, ok_qAnd, ok_qOr, ok_and, ok_or, ok_not, ok_if, ok_Sl, ok_oNo, ok_oOf, ok_Ch, ok_it, ok_itA, ok_yes, v_addI, v_sub, v_neg, v_eqI, v_eqS, v_eqB, v_eq0, v_eqT0, v_neI, v_neS, v_neB, v_ne0, v_neT0, v_ltI, v_leI, v_gtI, v_geI, v_is, v_isNot, v_nn, v_ns, v_ni, v_nl, v_nt, v_tb, v_tl, v_tt, v_tn, v_ti, v_asB, v_asI, v_asL, v_asT, v_asS, v_lenL, v_lenT, v_tupL, v_tupT, v_listL, v_listT, v_intB, v_tup0, v_tup1, v_tup2, v_tup3, v_tup4, v_tup5, v_lst0, v_lst1, v_lst2, v_lst3, v_lst4, v_lst5, v_ok0, v_ok1, v_ok2, v_ix0L, v_ix0, v_ix1, v_ix2, v_ix3, v_fs, v_fi, v_fb, v_fn, v_ft, v_f0, v_fc, startR, List.map_cons, List.map_nil, List.length_cons, List.length_nil, List.replicate, List.cons_append, List.nil_append, List.set_cons_zero, List.set_cons_succ, Option.some.injEq, exists_eq_left', Nat.reduceAdd, Nat.reduceSub, Nat.sub_zero, Nat.sub_self, Nat.zero_add, Nat.reduceEqDiff, Bool.not_true, Bool.not_false, if_true, if_false, Bool.and_self, Bool.true_and, Bool.and_true, Bool.false_eq_true, ↓reduceIte, true_and, and_true, decide_true, decide_false, wipeR]
/-! the openers around -/
def numD (a : Nat) : D := .int ((a + 1 : Nat) : Int)
def numsD (as : List Nat) : D := .tuple (as.map numD)
theorem fl_num (as : List Nat) : flatDs (as.map numD) = true := by
  induction as with
  | nil => rfl
  | cons a as ih => simp [flatDs, flatD, numD, ih]
abbrev Pall : Fn S := K_all_openers Pends K_is_opener
theorem ends_lev {L : List Ln} {a : Nat} {x : Ln} (h : L[a]? = some x) (y : Ln) : ends y (lev L a) = ends y x.1 := by rw [lev_at h]
def numC (c : Nat → Bool) : D → Bool
  | .int i => c (i - 1).toNat
  | _ => false
theorem numC_num (c : Nat → Bool) (a : Nat) : numC c (numD a) = c a := by
  show c (((a + 1 : Nat) : Int) - 1).toNat = c a
  rw [show ((a + 1 : Nat) : Int) - 1 = (a : Nat) by omega]
  rfl
theorem num_filter (c : Nat → Bool) (as : List Nat) : (as.map numD).filter (numC c) = (as.filter c).map numD := by
  induction as with
  | nil => rfl
  | cons a as ih =>
    simp only [List.map_cons, List.filter_cons, numC_num]
    rw [ih]
    split <;> rfl
theorem all_eq {xs : List D} {L : List Ln} (h : LsD xs L) (hL : L.length ≤ 900) : Pall [.tuple xs] s = some (.list ((List.range L.length).map fun j => numsD (arN L (j + 1))), s) := by
  have hl : xs.length = L.length := h.1
  apply ok_eq
  unfold Pall K_all_openers B_all_openers
  refine k_fn (k_seq (k_own ?_))
  try simp only [ok_V0, ok_Vs, ok_K, ok_B, ok_U, ok_nil, ok_cons, ok_N, ok_aN, ok_call, ok_nl, ok_fl, ok_afl, ok_T, ok_qNot, ok_qAnd, ok_qOr, ok_and, ok_or, ok_not, ok_if, ok_Sl, ok_oNo, ok_oOf, ok_Ch, ok_it, ok_itA, ok_yes, v_addI, v_sub, v_neg, v_eqI, v_eqS, v_eqB, v_eq0, v_eqT0, v_neI, v_neS, v_neB, v_ne0, v_neT0, v_ltI, v_leI, v_gtI, v_geI, v_is, v_isNot, v_nn, v_ns, v_ni, v_nl, v_nt, v_tb, v_tl, v_tt, v_tn, v_ti, v_asB, v_asI, v_asL, v_asT, v_asS, v_lenL, v_lenT, v_tupL, v_tupT, v_listL, v_listT, v_intB, v_tup0, v_tup1, v_tup2, v_tup3, v_tup4, v_tup5, v_lst0, v_lst1, v_lst2, v_lst3, v_lst4, v_lst5, v_ok0, v_ok1, v_ok2, v_ix0L, v_ix0, v_ix1, v_ix2, v_ix3, v_fs, v_fi, v_fb, v_fn, v_ft, v_f0, v_fc, startR, List.map_cons, List.map_nil, List.length_cons, List.length_nil, List.replicate, List.cons_append, List.nil_append, List.set_cons_zero, List.set_cons_succ, Option.some.injEq, exists_eq_left', Nat.reduceAdd, Nat.reduceSub, Nat.sub_zero, Nat.sub_self, Nat.zero_add, Nat.reduceEqDiff, Bool.not_true, Bool.not_false, if_true, if_false, Bool.and_self, Bool.true_and, Bool.and_true, Bool.false_eq_true, ↓reduceIte, true_and, and_true, decide_true, decide_false, wipeR]
  refine k_seq (k_own ?_)
  try simp only [ok_V0, ok_Vs, ok_K, ok_B, ok_U, ok_nil, ok_cons, ok_N, ok_aN, ok_call, ok_nl, ok_fl, ok_afl, ok_T, ok_qNot, ok_qAnd, ok_qOr, ok_and, ok_or, ok_not, ok_if, ok_Sl, ok_oNo, ok_oOf, ok_Ch, ok_it, ok_itA, ok_yes, v_addI, v_sub, v_neg, v_eqI, v_eqS, v_eqB, v_eq0, v_eqT0, v_neI, v_neS, v_neB, v_ne0, v_neT0, v_ltI, v_leI, v_gtI, v_geI, v_is, v_isNot, v_nn, v_ns, v_ni, v_nl, v_nt, v_tb, v_tl, v_tt, v_tn, v_ti, v_asB, v_asI, v_asL, v_asT, v_asS, v_lenL, v_lenT, v_tupL, v_tupT, v_listL, v_listT, v_intB, v_tup0, v_tup1, v_tup2, v_tup3, v_tup4, v_tup5, v_lst0, v_lst1, v_lst2, v_lst3, v_lst4, v_lst5, v_ok0, v_ok1, v_ok2, v_ix0L, v_ix0, v_ix1, v_ix2, v_ix3, v_fs, v_fi, v_fb, v_fn, v_ft, v_f0, v_fc, startR, List.map_cons, List.map_nil, List.length_cons, List.length_nil, List.replicate, List.cons_append, List.nil_append, List.set_cons_zero, List.set_cons_succ, Option.some.injEq, exists_eq_left', Nat.reduceAdd, Nat.reduceSub, Nat.sub_zero, Nat.sub_self, Nat.zero_add, Nat.reduceEqDiff, Bool.not_true, Bool.not_false, if_true, if_false, Bool.and_self, Bool.true_and, Bool.and_true, Bool.false_eq_true, ↓reduceIte, true_and, and_true, decide_true, decide_false, wipeR]
  refine k_seq (k_forP (fun ds s' => ds = enumD xs ∧ s' = s) ?_ ?_)
  · simp only [ok_V0, ok_Vs, ok_K, ok_B, ok_U, ok_nil, ok_cons, ok_N, ok_aN, ok_call, ok_nl, ok_fl, ok_afl, ok_T, ok_qNot, ok_qAnd, ok_qOr, ok_and, ok_or, ok_not, ok_if, ok_Sl, ok_oNo, ok_oOf, ok_Ch, ok_it, ok_itA, ok_yes, v_addI, v_sub, v_neg, v_eqI, v_eqS, v_eqB, v_eq0, v_eqT0, v_neI, v_neS, v_neB, v_ne0, v_neT0, v_ltI, v_leI, v_gtI, v_geI, v_is, v_isNot, v_nn, v_ns, v_ni, v_nl, v_nt, v_tb, v_tl, v_tt, v_tn, v_ti, v_asB, v_asI, v_asL, v_asT, v_asS, v_lenL, v_lenT, v_tupL, v_tupT, v_listL, v_listT, v_intB, v_tup0, v_tup1, v_tup2, v_tup3, v_tup4, v_tup5, v_lst0, v_lst1, v_lst2, v_lst3, v_lst4, v_lst5, v_ok0, v_ok1, v_ok2, v_ix0L, v_ix0, v_ix1, v_ix2, v_ix3, v_fs, v_fi, v_fb, v_fn, v_ft, v_f0, v_fc, startR, List.map_cons, List.map_nil, List.length_cons, List.length_nil, List.replicate, List.cons_append, List.nil_append, List.set_cons_zero, List.set_cons_succ, Option.some.injEq, exists_eq_left', Nat.reduceAdd, Nat.reduceSub, Nat.sub_zero, Nat.sub_self, Nat.zero_add, Nat.reduceEqDiff, Bool.not_true, Bool.not_false, if_true, if_false, Bool.and_self, Bool.true_and, Bool.and_true, Bool.false_eq_true, ↓reduceIte, true_and, and_true, decide_true, decide_false, wipeR, pEnumT]
  intro ds s1 hds
  obtain ⟨e1, e2⟩ := hds
  rw [e1, e2]
  refine ⟨fun j ρ s' => s' = s ∧ ∃ y z : Option D, ρ = [some (.tuple xs), some (.list ((List.range j).map fun j => numsD (arN L (j + 1)))), some (.list ((arN L j).map numD)), y, z, none], ⟨rfl, none, none, rfl⟩, ?_, ?_⟩
  · rintro j d ρ s' hd ⟨rfl, y, z, rfl⟩
    obtain ⟨e, he, rfl⟩ := enumD_get hd
    have hj : j < L.length := by have := (List.getElem?_eq_some_iff.mp he).1; omega
    obtain ⟨x, hx⟩ : ∃ x, L[j]? = some x := ⟨_, List.getElem?_eq_getElem hj⟩
    obtain ⟨e', he', hln⟩ := h.2 j x hx
    rw [he] at he'
    cases he'
    refine ⟨_, rfl, ?_⟩
    simp only [ok_V0, ok_Vs, ok_K, ok_B, ok_U, ok_nil, ok_cons, ok_N, ok_aN, ok_call, ok_nl, ok_fl, ok_afl, ok_T, ok_qNot, ok_qAnd, ok_qOr, ok_and, ok_or, ok_not, ok_if, ok_Sl, ok_oNo, ok_oOf, ok_Ch, ok_it, ok_itA, ok_yes, v_addI, v_sub, v_neg, v_eqI, v_eqS, v_eqB, v_eq0, v_eqT0, v_neI, v_neS, v_neB, v_ne0, v_neT0, v_ltI, v_leI, v_gtI, v_geI, v_is, v_isNot, v_nn, v_ns, v_ni, v_nl, v_nt, v_tb, v_tl, v_tt, v_tn, v_ti, v_asB, v_asI, v_asL, v_asT, v_asS, v_lenL, v_lenT, v_tupL, v_tupT, v_listL, v_listT, v_intB, v_tup0, v_tup1, v_tup2, v_tup3, v_tup4, v_tup5, v_lst0, v_lst1, v_lst2, v_lst3, v_lst4, v_lst5, v_ok0, v_ok1, v_ok2, v_ix0L, v_ix0, v_ix1, v_ix2, v_ix3, v_fs, v_fi, v_fb, v_fn, v_ft, v_f0, v_fc, startR, List.map_cons, List.map_nil, List.length_cons, List.length_nil, List.replicate, List.cons_append, List.nil_append, List.set_cons_zero, List.set_cons_succ, Option.some.injEq, exists_eq_left', Nat.reduceAdd, Nat.reduceSub, Nat.sub_zero, Nat.sub_self, Nat.zero_add, Nat.reduceEqDiff, Bool.not_true, Bool.not_false, if_true, if_false, Bool.and_self, Bool.true_and, Bool.and_true, Bool.false_eq_true, ↓reduceIte, true_and, and_true, decide_true, decide_false, wipeR]
    refine k_seq (k_own (k_afl ?_))
    refine k_keep (ds := (arN L j).map numD) (numC fun a => !ends x (lev L a)) (fun d => d) (by rw [List.length_map]; have := arN_len L j; exact szL (by omega)) rfl (fun d hd => ?_) ?_
    · obtain ⟨a, ha, rfl⟩ := List.mem_map.mp hd
      obtain ⟨xa, hxa⟩ : ∃ xa, L[a]? = some xa := ⟨_, List.getElem?_eq_getElem (arN_lt L j a ha).2⟩
      obtain ⟨da, ea, hda⟩ := ix_lines h hxa
      refine ⟨_, rfl, ?_, fun _ => rfl⟩
      have : Ok ((qNot (qT (cCall 2 Pends (aCons (cVar 4) (aCons (cB pIx (cB pIx (cVar 0) (cB pSub (cVar 5) (cK (.int 1)))) (cK (.int 0))) aNil))))) [some (.tuple xs), some (.list ((List.range j).map fun j => numsD (arN L (j + 1)))), some (.list ((arN L j).map numD)), some (.int (j : Nat)), some e, some (numD a)] s') fun b s2 => b = (!ends x (lev L a)) ∧ s2 = s' := by
        unfold numD
        simp only [ok_V0, ok_Vs, ok_K, ok_B, ok_U, ok_nil, ok_cons, ok_N, ok_aN, ok_call, ok_nl, ok_fl, ok_afl, ok_T, ok_qNot, ok_qAnd, ok_qOr, ok_and, ok_or, ok_not, ok_if, ok_Sl, ok_oNo, ok_oOf, ok_Ch, ok_it, ok_itA, ok_yes, v_addI, v_sub, v_neg, v_eqI, v_eqS, v_eqB, v_eq0, v_eqT0, v_neI, v_neS, v_neB, v_ne0, v_neT0, v_ltI, v_leI, v_gtI, v_geI, v_is, v_isNot, v_nn, v_ns, v_ni, v_nl, v_nt, v_tb, v_tl, v_tt, v_tn, v_ti, v_asB, v_asI, v_asL, v_asT, v_asS, v_lenL, v_lenT, v_tupL, v_tupT, v_listL, v_listT, v_intB, v_tup0, v_tup1, v_tup2, v_tup3, v_tup4, v_tup5, v_lst0, v_lst1, v_lst2, v_lst3, v_lst4, v_lst5, v_ok0, v_ok1, v_ok2, v_ix0L, v_ix0, v_ix1, v_ix2, v_ix3, v_fs, v_fi, v_fb, v_fn, v_ft, v_f0, v_fc, startR, List.map_cons, List.map_nil, List.length_cons, List.length_nil, List.replicate, List.cons_append, List.nil_append, List.set_cons_zero, List.set_cons_succ, Option.some.injEq, exists_eq_left', Nat.reduceAdd, Nat.reduceSub, Nat.sub_zero, Nat.sub_self, Nat.zero_add, Nat.reduceEqDiff, Bool.not_true, Bool.not_false, if_true, if_false, Bool.and_self, Bool.true_and, Bool.and_true, Bool.false_eq_true, ↓reduceIte, true_and, and_true, decide_true, decide_false, wipeR, show ((a + 1 : Nat) : Int) - 1 = (a : Nat) from by omega, ea, lev_ix hda, ends_eq hln, ok_some, lev_at hxa]
      obtain ⟨b, s2, q1, rfl, rfl⟩ := this
      rw [numC_num]
      exact q1
    rw [num_filter (fun a => !ends x (lev L a)), map_id']
    refine ⟨fl_num _, ?_⟩
    simp only [ok_V0, ok_Vs, ok_K, ok_B, ok_U, ok_nil, ok_cons, ok_N, ok_aN, ok_call, ok_nl, ok_fl, ok_afl, ok_T, ok_qNot, ok_qAnd, ok_qOr, ok_and, ok_or, ok_not, ok_if, ok_Sl, ok_oNo, ok_oOf, ok_Ch, ok_it, ok_itA, ok_yes, v_addI, v_sub, v_neg, v_eqI, v_eqS, v_eqB, v_eq0, v_eqT0, v_neI, v_neS, v_neB, v_ne0, v_neT0, v_ltI, v_leI, v_gtI, v_geI, v_is, v_isNot, v_nn, v_ns, v_ni, v_nl, v_nt, v_tb, v_tl, v_tt, v_tn, v_ti, v_asB, v_asI, v_asL, v_asT, v_asS, v_lenL, v_lenT, v_tupL, v_tupT, v_listL, v_listT, v_intB, v_tup0, v_tup1, v_tup2, v_tup3, v_tup4, v_tup5, v_lst0, v_lst1, v_lst2, v_lst3, v_lst4, v_lst5, v_ok0, v_ok1, v_ok2, v_ix0L, v_ix0, v_ix1, v_ix2, v_ix3, v_fs, v_fi, v_fb, v_fn, v_ft, v_f0, v_fc, startR, List.map_cons, List.map_nil, List.length_cons, List.length_nil, List.replicate, List.cons_append, List.nil_append, List.set_cons_zero, List.set_cons_succ, Option.some.injEq, exists_eq_left', Nat.reduceAdd, Nat.reduceSub, Nat.sub_zero, Nat.sub_self, Nat.zero_add, Nat.reduceEqDiff, Bool.not_true, Bool.not_false, if_true, if_false, Bool.and_self, Bool.true_and, Bool.and_true, Bool.false_eq_true, ↓reduceIte, true_and, and_true, decide_true, decide_false, wipeR]
    refine k_seq (k_sIf ?_)
    simp only [ok_V0, ok_Vs, ok_K, ok_B, ok_U, ok_nil, ok_cons, ok_N, ok_aN, ok_call, ok_nl, ok_fl, ok_afl, ok_T, ok_qNot, ok_qAnd, ok_qOr, ok_and, ok_or, ok_not, ok_if, ok_Sl, ok_oNo, ok_oOf, ok_Ch, ok_it, ok_itA, ok_yes, v_addI, v_sub, v_neg, v_eqI, v_eqS, v_eqB, v_eq0, v_eqT0, v_neI, v_neS, v_neB, v_ne0, v_neT0, v_ltI, v_leI, v_gtI, v_geI, v_is, v_isNot, v_nn, v_ns, v_ni, v_nl, v_nt, v_tb, v_tl, v_tt, v_tn, v_ti, v_asB, v_asI, v_asL, v_asT, v_asS, v_lenL, v_lenT, v_tupL, v_tupT, v_listL, v_listT, v_intB, v_tup0, v_tup1, v_tup2, v_tup3, v_tup4, v_tup5, v_lst0, v_lst1, v_lst2, v_lst3, v_lst4, v_lst5, v_ok0, v_ok1, v_ok2, v_ix0L, v_ix0, v_ix1, v_ix2, v_ix3, v_fs, v_fi, v_fb, v_fn, v_ft, v_f0, v_fc, startR, List.map_cons, List.map_nil, List.length_cons, List.length_nil, List.replicate, List.cons_append, List.nil_append, List.set_cons_zero, List.set_cons_succ, Option.some.injEq, exists_eq_left', Nat.reduceAdd, Nat.reduceSub, Nat.sub_zero, Nat.sub_self, Nat.zero_add, Nat.reduceEqDiff, Bool.not_true, Bool.not_false, if_true, if_false, Bool.and_self, Bool.true_and, Bool.and_true, Bool.false_eq_true, ↓reduceIte, true_and, and_true, decide_true, decide_false, wipeR, is_opener_eq hln, ok_some]
    have fin : ∀ (s : S), arN L (j + 1) = ((arN L j).filter fun a => !ends x (lev L a)) ++ (if x.2 then [j] else []) := fun _ => arN_succ hx
    cases hop : x.2 with
    | true =>
      simp only [if_true]
      refine k_app rfl (szl (by rw [List.length_map]; have h1 := arN_len L j; have h2 := List.length_filter_le (fun a => !ends x (lev L a)) (arN L j); omega)) ?_
      simp only [ok_V0, ok_Vs, ok_K, ok_B, ok_U, ok_nil, ok_cons, ok_N, ok_aN, ok_call, ok_nl, ok_fl, ok_afl, ok_T, ok_qNot, ok_qAnd, ok_qOr, ok_and, ok_or, ok_not, ok_if, ok_Sl, ok_oNo, ok_oOf, ok_Ch, ok_it, ok_itA, ok_yes, v_addI, v_sub, v_neg, v_eqI, v_eqS, v_eqB, v_eq0, v_eqT0, v_neI, v_neS, v_neB, v_ne0, v_neT0, v_ltI, v_leI, v_gtI, v_geI, v_is, v_isNot, v_nn, v_ns, v_ni, v_nl, v_nt, v_tb, v_tl, v_tt, v_tn, v_ti, v_asB, v_asI, v_asL, v_asT, v_asS, v_lenL, v_lenT, v_tupL, v_tupT, v_listL, v_listT, v_intB, v_tup0, v_tup1, v_tup2, v_tup3, v_tup4, v_tup5, v_lst0, v_lst1, v_lst2, v_lst3, v_lst4, v_lst5, v_ok0, v_ok1, v_ok2, v_ix0L, v_ix0, v_ix1, v_ix2, v_ix3, v_fs, v_fi, v_fb, v_fn, v_ft, v_f0, v_fc, startR, List.map_cons, List.map_nil, List.length_cons, List.length_nil, List.replicate, List.cons_append, List.nil_append, List.set_cons_zero, List.set_cons_succ, Option.some.injEq, exists_eq_left', Nat.reduceAdd, Nat.reduceSub, Nat.sub_zero, Nat.sub_self, Nat.zero_add, Nat.reduceEqDiff, Bool.not_true, Bool.not_false, if_true, if_false, Bool.and_self, Bool.true_and, Bool.and_true, Bool.false_eq_true, ↓reduceIte, true_and, and_true, decide_true, decide_false, wipeR]
      have e9 : ((arN L j).filter fun a => !ends x (lev L a)).map numD ++ [.int ((j : Int) + 1)] = (arN L (j + 1)).map numD := by
        rw [fin s', hop]
        simp [numD]
      rw [e9]
      refine k_app rfl (szl (by simp; omega)) ?_
      simp only [ok_V0, ok_Vs, ok_K, ok_B, ok_U, ok_nil, ok_cons, ok_N, ok_aN, ok_call, ok_nl, ok_fl, ok_afl, ok_T, ok_qNot, ok_qAnd, ok_qOr, ok_and, ok_or, ok_not, ok_if, ok_Sl, ok_oNo, ok_oOf, ok_Ch, ok_it, ok_itA, ok_yes, v_addI, v_sub, v_neg, v_eqI, v_eqS, v_eqB, v_eq0, v_eqT0, v_neI, v_neS, v_neB, v_ne0, v_neT0, v_ltI, v_leI, v_gtI, v_geI, v_is, v_isNot, v_nn, v_ns, v_ni, v_nl, v_nt, v_tb, v_tl, v_tt, v_tn, v_ti, v_asB, v_asI, v_asL, v_asT, v_asS, v_lenL, v_lenT, v_tupL, v_tupT, v_listL, v_listT, v_intB, v_tup0, v_tup1, v_tup2, v_tup3, v_tup4, v_tup5, v_lst0, v_lst1, v_lst2, v_lst3, v_lst4, v_lst5, v_ok0, v_ok1, v_ok2, v_ix0L, v_ix0, v_ix1, v_ix2, v_ix3, v_fs, v_fi, v_fb, v_fn, v_ft, v_f0, v_fc, startR, List.map_cons, List.map_nil, List.length_cons, List.length_nil, List.replicate, List.cons_append, List.nil_append, List.set_cons_zero, List.set_cons_succ, Option.some.injEq, exists_eq_left', Nat.reduceAdd, Nat.reduceSub, Nat.sub_zero, Nat.sub_self, Nat.zero_add, Nat.reduceEqDiff, Bool.not_true, Bool.not_false, if_true, if_false, Bool.and_self, Bool.true_and, Bool.and_true, Bool.false_eq_true, ↓reduceIte, true_and, and_true, decide_true, decide_false, wipeR, fl_num]
      exact ⟨_, _, by rw [List.range_succ, List.map_append]; rfl⟩
    | false =>
      simp only [Bool.false_eq_true, if_false]
      refine k_nx ?_
      have e9 : ((arN L j).filter fun a => !ends x (lev L a)).map numD = (arN L (j + 1)).map numD := by
        rw [fin s', hop]
        simp
      rw [e9]
      refine k_app rfl (szl (by simp; omega)) ?_
      simp only [ok_V0, ok_Vs, ok_K, ok_B, ok_U, ok_nil, ok_cons, ok_N, ok_aN, ok_call, ok_nl, ok_fl, ok_afl, ok_T, ok_qNot, ok_qAnd, ok_qOr, ok_and, ok_or, ok_not, ok_if, ok_Sl, ok_oNo, ok_oOf, ok_Ch, ok_it, ok_itA, ok_yes, v_addI, v_sub, v_neg, v_eqI, v_eqS, v_eqB, v_eq0, v_eqT0, v_neI, v_neS, v_neB, v_ne0, v_neT0, v_ltI, v_leI, v_gtI, v_geI, v_is, v_isNot, v_nn, v_ns, v_ni, v_nl, v_nt, v_tb, v_tl, v_tt, v_tn, v_ti, v_asB, v_asI, v_asL, v_asT, v_asS, v_lenL, v_lenT, v_tupL, v_tupT, v_listL, v_listT, v_intB, v_tup0, v_tup1, v_tup2, v_tup3, v_tup4, v_tup5, v_lst0, v_lst1, v_lst2, v_lst3, v_lst4, v_lst5, v_ok0, v_ok1, v_ok2, v_ix0L, v_ix0, v_ix1, v_ix2, v_ix3, v_fs, v_fi, v_fb, v_fn, v_ft, v_f0, v_fc, startR, List.map_cons, List.map_nil, List.length_cons, List.length_nil, List.replicate, List.cons_append, List.nil_append, List.set_cons_zero, List.set_cons_succ, Option.some.injEq, exists_eq_left', Nat.reduceAdd, Nat.reduceSub, Nat.sub_zero, Nat.sub_self, Nat.zero_add, Nat.reduceEqDiff, Bool.not_true, Bool.not_false, if_true, if_false, Bool.and_self, Bool.true_and, Bool.and_true, Bool.false_eq_true, ↓reduceIte, true_and, and_true, decide_true, decide_false, wipeR, fl_num]
      exact ⟨_, _, by rw [List.range_succ, List.map_append]; rfl⟩
  rintro ρ s2 ⟨rfl, y, z, rfl⟩
  rw [enumD_len, hl]
  refine k_ret ?_
  simp only [ok_V0, ok_Vs, ok_K, ok_B, ok_U, ok_nil, ok_cons, ok_N, ok_aN, ok_call, ok_nl, ok_fl, ok_afl, ok_T, ok_qNot, ok_qAnd, ok_qOr, ok_and, ok_or, ok_not, ok_if, ok_Sl, ok_oNo, ok_oOf, ok_Ch, ok_it, ok_itA, ok_yes, v_addI, v_sub, v_neg, v_eqI, v_eqS, v_eqB, v_eq0, v_eqT0, v_neI, v_neS, v_neB, v_ne0, v_neT0, v_ltI, v_leI, v_gtI, v_geI, v_is, v_isNot, v_nn, v_ns, v_ni, v_nl, v_nt, v_tb, v_tl, v_tt, v_tn, v_ti, v_asB, v_asI, v_asL, v_asT, v_asS, v_lenL, v_lenT, v_tupL, v_tupT, v_listL, v_listT, v_intB, v_tup0, v_tup1, v_tup2, v_tup3, v_tup4, v_tup5, v_lst0, v_lst1, v_lst2, v_lst3, v_lst4, v_lst5, v_ok0, v_ok1, v_ok2, v_ix0L, v_ix0, v_ix1, v_ix2, v_ix3, v_fs, v_fi, v_fb, v_fn, v_ft, v_f0, v_fc, startR, List.map_cons, List.map_nil, List.length_cons, List.length_nil, List.replicate, List.cons_append, List.nil_append, List.set_cons_zero, List.set_cons_succ, Option.some.injEq, exists_eq_left', Nat.reduceAdd, Nat.reduceSub, Nat.sub_zero, Nat.sub_self, Nat.zero_add, Nat.reduceEqDiff, Bool.not_true, Bool.not_false, if_true, if_false, Bool.and_self, Bool.true_and, Bool.and_true, Bool.false_eq_true, ↓reduceIte, true_and, and_true, decide_true, decide_false, wipeR]
abbrev Pat : Fn S := K_openers_at Pall
theorem LsD.take {xs : List D} {L : List Ln} (h : LsD xs L) (k : Nat) : LsD (xs.take k) (L.take k) := by
  refine ⟨by rw [List.length_take, List.length_take, h.1], fun i x hx => ?_⟩
  have hi : i < k := by
    apply Classical.byContradiction
    intro hn
    rw [List.getElem?_eq_none (by rw [List.length_take]; omega)] at hx
    cases hx
  rw [List.getElem?_take_of_lt hi] at hx
  obtain ⟨d, h1, h2⟩ := h.2 i x hx
  exact ⟨d, by rw [List.getElem?_take_of_lt hi]; exact h1, h2⟩
theorem cutD_to (xs : List D) (k : Nat) : cutD xs none (some (k : Int)) = xs.take k := by
  unfold cutD
  rw [HT.sIx_none, HT.sIx_nat, List.drop_zero, Nat.sub_zero]
  by_cases h : k ≤ xs.length
  · rw [Nat.min_eq_left h]
  · rw [Nat.min_eq_right (by omega), List.take_length, List.take_of_length_le (by omega)]
theorem ix_last {ds : List D} {d : D} : pIx (.list (ds ++ [d])) (.int (-1)) = some d := by
  simp only [pIx]
  unfold atI ixN
  have e : (-1 + ((ds.length : Int) + 1)).toNat = ds.length := by omega
  have h1 : (1 : Int) ≤ (ds.length : Int) + 1 := by omega
  simp [e, h1]
theorem at_eq {xs : List D} {L : List Ln} {k : Nat} (h : LsD xs L) (hL : L.length ≤ 900) (h1 : 1 ≤ k) (h2 : k ≤ L.length) : Pat [.tuple xs, .int (k : Nat)] s = some (numsD (arN L k), s) := by
  apply ok_eq
  unfold Pat K_openers_at B_openers_at
  refine k_fn (k_ret ?_)
  have hlen : (L.take k).length = k := by rw [List.length_take]; omega
  have ha := all_eq (s := s) (h.take k) (by omega)
  rw [hlen] at ha
  simp only [ok_V0, ok_Vs, ok_K, ok_B, ok_U, ok_nil, ok_cons, ok_N, ok_aN, ok_call, ok_nl, ok_fl, ok_afl, ok_T, ok_qNot, ok_qAnd, ok_qOr, ok_and, ok_or, ok_not, ok_if, ok_Sl, ok_oNo, ok_oOf, ok_Ch, ok_it, ok_itA, ok_yes, v_addI, v_sub, v_neg, v_eqI, v_eqS, v_eqB, v_eq0, v_eqT0, v_neI, v_neS, v_neB, v_ne0, v_neT0, v_ltI, v_leI, v_gtI, v_geI, v_is, v_isNot, v_nn, v_ns, v_ni, v_nl, v_nt, v_tb, v_tl, v_tt, v_tn, v_ti, v_asB, v_asI, v_asL, v_asT, v_asS, v_lenL, v_lenT, v_tupL, v_tupT, v_listL, v_listT, v_intB, v_tup0, v_tup1, v_tup2, v_tup3, v_tup4, v_tup5, v_lst0, v_lst1, v_lst2, v_lst3, v_lst4, v_lst5, v_ok0, v_ok1, v_ok2, v_ix0L, v_ix0, v_ix1, v_ix2, v_ix3, v_fs, v_fi, v_fb, v_fn, v_ft, v_f0, v_fc, startR, List.map_cons, List.map_nil, List.length_cons, List.length_nil, List.replicate, List.cons_append, List.nil_append, List.set_cons_zero, List.set_cons_succ, Option.some.injEq, exists_eq_left', Nat.reduceAdd, Nat.reduceSub, Nat.sub_zero, Nat.sub_self, Nat.zero_add, Nat.reduceEqDiff, Bool.not_true, Bool.not_false, if_true, if_false, Bool.and_self, Bool.true_and, Bool.and_true, Bool.false_eq_true, ↓reduceIte, true_and, and_true, decide_true, decide_false, wipeR, v_slT, cutD_to, ha, ok_some]
  obtain ⟨j, rfl⟩ : ∃ j, k = j + 1 := ⟨k - 1, by omega⟩
  rw [List.range_succ, List.map_append, List.map_cons, List.map_nil, ix_last]
  simp only [ok_V0, ok_Vs, ok_K, ok_B, ok_U, ok_nil, ok_cons, ok_N, ok_aN, ok_call, ok_nl, ok_fl, ok_afl, ok_T, ok_qNot, ok_qAnd, ok_qOr, ok_and, ok_or, ok_not, ok_if, ok_Sl, ok_oNo, ok_oOf, ok_Ch, ok_it, ok_itA, ok_yes, v_addI, v_sub, v_neg, v_eqI, v_eqS, v_eqB, v_eq0, v_eqT0, v_neI, v_neS, v_neB, v_ne0, v_neT0, v_ltI, v_leI, v_gtI, v_geI, v_is, v_isNot, v_nn, v_ns, v_ni, v_nl, v_nt, v_tb, v_tl, v_tt, v_tn, v_ti, v_asB, v_asI, v_asL, v_asT, v_asS, v_lenL, v_lenT, v_tupL, v_tupT, v_listL, v_listT, v_intB, v_tup0, v_tup1, v_tup2, v_tup3, v_tup4, v_tup5, v_lst0, v_lst1, v_lst2, v_lst3, v_lst4, v_lst5, v_ok0, v_ok1, v_ok2, v_ix0L, v_ix0, v_ix1, v_ix2, v_ix3, v_fs, v_fi, v_fb, v_fn, v_ft, v_f0, v_fc, startR, List.map_cons, List.map_nil, List.length_cons, List.length_nil, List.replicate, List.cons_append, List.nil_append, List.set_cons_zero, List.set_cons_succ, Option.some.injEq, exists_eq_left', Nat.reduceAdd, Nat.reduceSub, Nat.sub_zero, Nat.sub_self, Nat.zero_add, Nat.reduceEqDiff, Bool.not_true, Bool.not_false, if_true, if_false, Bool.and_self, Bool.true_and, Bool.and_true, Bool.false_eq_true, ↓reduceIte, true_and, and_true, decide_true, decide_false, wipeR, arN_take (L := L) (k := j + 1) (j + 1) (Nat.le_refl _)]
end
end Lw23
set_option Elab.async false
set_option linter.all false
set_option maxRecDepth 100000
set_option maxHeartbeats 4000000
namespace Lw23
open PySem PySem.Spec L2 Dl
section
variable {S : Type} {s : S}
theorem numbers_eq {ts : List D} {L : List Ln} {as : List Nat} (h : InD ts L as) (hl : as.length ≤ 900) : K_w_numbers [.tuple ts] s = some (numsD as, s) := by
  obtain ⟨ps, rfl, rfl, _⟩ := h
  have hl' : ps.length ≤ 900 := by simpa using hl
  apply ok_eq
  unfold K_w_numbers B_w_numbers
  refine k_fn (k_ret ?_)
  simp only [ok_V0, ok_Vs, ok_K, ok_B, ok_U, ok_nil, ok_cons, ok_N, ok_aN, ok_call, ok_nl, ok_fl, ok_afl, ok_T, ok_qNot, ok_qAnd, ok_qOr, ok_and, ok_or, ok_not, ok_if, ok_Sl, ok_oNo, ok_oOf, ok_Ch, ok_it, ok_itA, ok_yes, v_addI, v_sub, v_neg, v_eqI, v_eqS, v_eqB, v_eq0, v_eqT0, v_neI, v_neS, v_neB, v_ne0, v_neT0, v_ltI, v_leI, v_gtI, v_geI, v_is, v_isNot, v_nn, v_ns, v_ni, v_nl, v_nt, v_tb, v_tl, v_tt, v_tn, v_ti, v_asB, v_asI, v_asL, v_asT, v_asS, v_lenL, v_lenT, v_tupL, v_tupT, v_listL, v_listT, v_intB, v_tup0, v_tup1, v_tup2, v_tup3, v_tup4, v_tup5, v_lst0, v_lst1, v_lst2, v_lst3, v_lst4, v_lst5, v_ok0, v_ok1, v_ok2, v_ix0L, v_ix0, v_ix1, v_ix2, v_ix3, v_fs, v_fi, v_fb, v_fn, v_ft, v_f0, v_fc, startR, List.map_cons, List.map_nil, List.length_cons, List.length_nil, List.replicate, List.cons_append, List.nil_append, List.set_cons_zero, List.set_cons_succ, Option.some.injEq, exists_eq_left', Nat.reduceAdd, Nat.reduceSub, Nat.sub_zero, Nat.sub_self, Nat.zero_add, Nat.reduceEqDiff, Bool.not_true, Bool.not_false, if_true, if_false, Bool.and_self, Bool.true_and, Bool.and_true, Bool.false_eq_true, ↓reduceIte, true_and, and_true, decide_true, decide_false, wipeR]
  refine k_keep (ds := ps.map (ent L)) (fun _ => true) (fun d => match d with | .tuple [_, n, _] => n | d => d) (by rw [List.length_map]; exact szL (by omega)) rfl (fun d hd => ?_) ?_
  · obtain ⟨p, _, rfl⟩ := List.mem_map.mp hd
    exact ⟨_, rfl, rfl, fun _ => rfl⟩
  simp only [ok_V0, ok_Vs, ok_K, ok_B, ok_U, ok_nil, ok_cons, ok_N, ok_aN, ok_call, ok_nl, ok_fl, ok_afl, ok_T, ok_qNot, ok_qAnd, ok_qOr, ok_and, ok_or, ok_not, ok_if, ok_Sl, ok_oNo, ok_oOf, ok_Ch, ok_it, ok_itA, ok_yes, v_addI, v_sub, v_neg, v_eqI, v_eqS, v_eqB, v_eq0, v_eqT0, v_neI, v_neS, v_neB, v_ne0, v_neT0, v_ltI, v_leI, v_gtI, v_geI, v_is, v_isNot, v_nn, v_ns, v_ni, v_nl, v_nt, v_tb, v_tl, v_tt, v_tn, v_ti, v_asB, v_asI, v_asL, v_asT, v_asS, v_lenL, v_lenT, v_tupL, v_tupT, v_listL, v_listT, v_intB, v_tup0, v_tup1, v_tup2, v_tup3, v_tup4, v_tup5, v_lst0, v_lst1, v_lst2, v_lst3, v_lst4, v_lst5, v_ok0, v_ok1, v_ok2, v_ix0L, v_ix0, v_ix1, v_ix2, v_ix3, v_fs, v_fi, v_fb, v_fn, v_ft, v_f0, v_fc, startR, List.map_cons, List.map_nil, List.length_cons, List.length_nil, List.replicate, List.cons_append, List.nil_append, List.set_cons_zero, List.set_cons_succ, Option.some.injEq, exists_eq_left', Nat.reduceAdd, Nat.reduceSub, Nat.sub_zero, Nat.sub_self, Nat.zero_add, Nat.reduceEqDiff, Bool.not_true, Bool.not_false, if_true, if_false, Bool.and_self, Bool.true_and, Bool.and_true, Bool.false_eq_true, ↓reduceIte, true_and, and_true, decide_true, decide_false, wipeR]
  unfold numsD
  rw [List.filter_eq_self.mpr (fun _ _ => rfl), List.map_map, List.map_map]
  rfl
theorem isi_int {i : Int} : pIsi "int" (.int i) = some (.bool true) := by
  show (L2.kitB "int" "int").map PyData.bool = some (PyData.bool true)
  rw [show L2.kitB "int" "int" = some true from by decide +kernel]
  rfl
theorem isi_intB {i : Int} : pIsi "bool" (.int i) = some (.bool false) := by
  show (L2.kitB "int" "bool").map PyData.bool = some (PyData.bool false)
  rw [show L2.kitB "int" "bool" = some false from by decide +kernel]
  rfl
theorem isi_tup {ds : List D} : pIsi "tuple" (.tuple ds) = some (.bool true) := by
  show (L2.kitB "tuple" "tuple").map PyData.bool = some (PyData.bool true)
  rw [show L2.kitB "tuple" "tuple" = some true from by decide +kernel]
  rfl
theorem whole_eq {i : Int} : K_w_whole [.int i] s = some (.bool true, s) := by
  apply ok_eq
  unfold K_w_whole B_w_whole
  refine k_fn (k_ret ?_)
  simp only [ok_V0, ok_Vs, ok_K, ok_B, ok_U, ok_nil, ok_cons, ok_N, ok_aN, ok_call, ok_nl, ok_fl, ok_afl, ok_T, ok_qNot, ok_qAnd, ok_qOr, ok_and, ok_or, ok_not, ok_if, ok_Sl, ok_oNo, ok_oOf, ok_Ch, ok_it, ok_itA, ok_yes, v_addI, v_sub, v_neg, v_eqI, v_eqS, v_eqB, v_eq0, v_eqT0, v_neI, v_neS, v_neB, v_ne0, v_neT0, v_ltI, v_leI, v_gtI, v_geI, v_is, v_isNot, v_nn, v_ns, v_ni, v_nl, v_nt, v_tb, v_tl, v_tt, v_tn, v_ti, v_asB, v_asI, v_asL, v_asT, v_asS, v_lenL, v_lenT, v_tupL, v_tupT, v_listL, v_listT, v_intB, v_tup0, v_tup1, v_tup2, v_tup3, v_tup4, v_tup5, v_lst0, v_lst1, v_lst2, v_lst3, v_lst4, v_lst5, v_ok0, v_ok1, v_ok2, v_ix0L, v_ix0, v_ix1, v_ix2, v_ix3, v_fs, v_fi, v_fb, v_fn, v_ft, v_f0, v_fc, startR, List.map_cons, List.map_nil, List.length_cons, List.length_nil, List.replicate, List.cons_append, List.nil_append, List.set_cons_zero, List.set_cons_succ, Option.some.injEq, exists_eq_left', Nat.reduceAdd, Nat.reduceSub, Nat.sub_zero, Nat.sub_self, Nat.zero_add, Nat.reduceEqDiff, Bool.not_true, Bool.not_false, if_true, if_false, Bool.and_self, Bool.true_and, Bool.and_true, Bool.false_eq_true, ↓reduceIte, true_and, and_true, decide_true, decide_false, wipeR, isi_int, isi_intB]
theorem in_nums {a : Nat} {as : List Nat} : pIn (numD a) (numsD as) = some (.bool (decide (a ∈ as))) := by
  unfold numsD
  simp only [pIn, inD, memD]
  have h1 : (as.map numD).all scalD = true := by simp [List.all_map, scalD, numD]
  rw [if_pos ⟨rfl, h1⟩]
  simp only [Option.map_some, Option.some.injEq, PyData.bool.injEq]
  rw [Bool.eq_iff_iff]
  simp only [List.any_map, List.any_eq_true, Function.comp, decide_eq_true_eq]
  constructor
  · rintro ⟨b, hb, e⟩
    have : ((b + 1 : Nat) : Int) = ((a + 1 : Nat) : Int) := by simpa [numD, eqS] using e
    have : b = a := by omega
    exact this ▸ hb
  · intro h
    exact ⟨a, h, by simp [numD, eqS]⟩
/-- the box of line j, counted from 0 -/
theorem ix_box {bs : List D} {L : List Ln} {n j : Nat} (h : BxD bs L n) (hj : j < n) : ∃ ts, pIx (.list bs) (.int (j : Nat)) = some (.tuple ts) ∧ InD ts L (arN L (j + 1)) := by
  obtain ⟨ts, h1, h2⟩ := h.2 j hj
  exact ⟨ts, by simp only [pIx]; exact atI_nat h1, h2⟩
theorem boxN {bs : List D} {L : List Ln} {n j : Nat} (h : BxD bs L n) (hj : j < n) (hn : n ≤ 900) : ∃ ts, pIx (.list bs) (.int (j : Nat)) = some (.tuple ts) ∧ K_w_numbers [.tuple ts] s = some (numsD (arN L (j + 1)), s) := by
  obtain ⟨ts, h1, h2⟩ := ix_box h hj
  exact ⟨ts, h1, numbers_eq h2 (by have := arN_len L (j + 1); omega)⟩
abbrev Flast : Fn S := K_w_last K_w_numbers
/-- the last line at which an opener is around -/
def lastN (L : List Ln) (a n : Nat) : List Nat := (List.range n).filter fun j => decide (a ∈ arN L (j + 1))
theorem maxI_map (l : List Nat) (h : l ≠ []) : ∃ m ∈ l, (∀ j ∈ l, j ≤ m) ∧ maxI (l.map fun j => ((j + 1 : Nat) : Int)) = some (((m + 1 : Nat)) : Int) := by
  cases l with
  | nil => exact absurd rfl h
  | cons a l =>
    obtain ⟨g1, g2⟩ := foldl_max (l.map fun j => ((j + 1 : Nat) : Int)) (((a + 1 : Nat)) : Int)
    have g1' : List.foldl max (((a + 1 : Nat)) : Int) (l.map fun j => ((j + 1 : Nat) : Int)) ∈ (a :: l).map fun j => ((j + 1 : Nat) : Int) := g1
    obtain ⟨m, hm, e⟩ := List.mem_map.mp g1'
    refine ⟨m, hm, fun j hj => ?_, by simp only [List.map_cons, maxI]; rw [← e]⟩
    have := g2 (((j + 1 : Nat)) : Int) (List.mem_map.mpr ⟨j, hj, rfl⟩ : _ ∈ (a :: l).map fun j => ((j + 1 : Nat) : Int))
    rw [← e] at this
    omega
theorem last_eq {bs : List D} {L : List Ln} {n a : Nat} (h : BxD bs L n) (hn : n ≤ 900) (ha : lastN L a n ≠ []) : ∃ m ∈ lastN L a n, (∀ j ∈ lastN L a n, j ≤ m) ∧ Flast [.list bs, numD a] s = some (.int ((m + 1 : Nat) : Int), s) := by
  obtain ⟨m, hm, hmax, e⟩ := maxI_map _ ha
  refine ⟨m, hm, hmax, ok_eq ?_⟩
  unfold Flast K_w_last B_w_last
  refine k_fn (k_ret ?_)
  have hbl : bs.length = n := h.1
  simp only [ok_V0, ok_Vs, ok_K, ok_B, ok_U, ok_nil, ok_cons, ok_N, ok_aN, ok_call, ok_nl, ok_fl, ok_afl, ok_T, ok_qNot, ok_qAnd, ok_qOr, ok_and, ok_or, ok_not, ok_if, ok_Sl, ok_oNo, ok_oOf, ok_Ch, ok_it, ok_itA, ok_yes, v_addI, v_sub, v_neg, v_eqI, v_eqS, v_eqB, v_eq0, v_eqT0, v_neI, v_neS, v_neB, v_ne0, v_neT0, v_ltI, v_leI, v_gtI, v_geI, v_is, v_isNot, v_nn, v_ns, v_ni, v_nl, v_nt, v_tb, v_tl, v_tt, v_tn, v_ti, v_asB, v_asI, v_asL, v_asT, v_asS, v_lenL, v_lenT, v_tupL, v_tupT, v_listL, v_listT, v_intB, v_tup0, v_tup1, v_tup2, v_tup3, v_tup4, v_tup5, v_lst0, v_lst1, v_lst2, v_lst3, v_lst4, v_lst5, v_ok0, v_ok1, v_ok2, v_ix0L, v_ix0, v_ix1, v_ix2, v_ix3, v_fs, v_fi, v_fb, v_fn, v_ft, v_f0, v_fc, startR, List.map_cons, List.map_nil, List.length_cons, List.length_nil, List.replicate, List.cons_append, List.nil_append, List.set_cons_zero, List.set_cons_succ, Option.some.injEq, exists_eq_left', Nat.reduceAdd, Nat.reduceSub, Nat.sub_zero, Nat.sub_self, Nat.zero_add, Nat.reduceEqDiff, Bool.not_true, Bool.not_false, if_true, if_false, Bool.and_self, Bool.true_and, Bool.and_true, Bool.false_eq_true, ↓reduceIte, true_and, and_true, decide_true, decide_false, wipeR]
  refine k_keep (ds := rngD 1 n) (fun d => match d with | .int i => decide (a ∈ arN L ((i - 1).toNat + 1)) | _ => false) (fun d => d) (by rw [rng_len]; exact szL (by omega)) ?_ (fun d hd => ?_) ?_
  · have : Ok ((iOfA pR2 (aCons (cK (.int 1)) (aCons (cB pAdd (cN pLen (aCons (cVar 0) aNil)) (cK (.int 1))) aNil))) [some (.list bs), some (numD a), none] s) fun x s' => x = rngD 1 n ∧ s' = s := by
      simp only [ok_V0, ok_Vs, ok_K, ok_B, ok_U, ok_nil, ok_cons, ok_N, ok_aN, ok_call, ok_nl, ok_fl, ok_afl, ok_T, ok_qNot, ok_qAnd, ok_qOr, ok_and, ok_or, ok_not, ok_if, ok_Sl, ok_oNo, ok_oOf, ok_Ch, ok_it, ok_itA, ok_yes, v_addI, v_sub, v_neg, v_eqI, v_eqS, v_eqB, v_eq0, v_eqT0, v_neI, v_neS, v_neB, v_ne0, v_neT0, v_ltI, v_leI, v_gtI, v_geI, v_is, v_isNot, v_nn, v_ns, v_ni, v_nl, v_nt, v_tb, v_tl, v_tt, v_tn, v_ti, v_asB, v_asI, v_asL, v_asT, v_asS, v_lenL, v_lenT, v_tupL, v_tupT, v_listL, v_listT, v_intB, v_tup0, v_tup1, v_tup2, v_tup3, v_tup4, v_tup5, v_lst0, v_lst1, v_lst2, v_lst3, v_lst4, v_lst5, v_ok0, v_ok1, v_ok2, v_ix0L, v_ix0, v_ix1, v_ix2, v_ix3, v_fs, v_fi, v_fb, v_fn, v_ft, v_f0, v_fc, startR, List.map_cons, List.map_nil, List.length_cons, List.length_nil, List.replicate, List.cons_append, List.nil_append, List.set_cons_zero, List.set_cons_succ, Option.some.injEq, exists_eq_left', Nat.reduceAdd, Nat.reduceSub, Nat.sub_zero, Nat.sub_self, Nat.zero_add, Nat.reduceEqDiff, Bool.not_true, Bool.not_false, if_true, if_false, Bool.and_self, Bool.true_and, Bool.and_true, Bool.false_eq_true, ↓reduceIte, true_and, and_true, decide_true, decide_false, wipeR, hbl]
      rw [pr2 ⟨by omega, by omega, by omega, by omega⟩]
      simp only [ok_V0, ok_Vs, ok_K, ok_B, ok_U, ok_nil, ok_cons, ok_N, ok_aN, ok_call, ok_nl, ok_fl, ok_afl, ok_T, ok_qNot, ok_qAnd, ok_qOr, ok_and, ok_or, ok_not, ok_if, ok_Sl, ok_oNo, ok_oOf, ok_Ch, ok_it, ok_itA, ok_yes, v_addI, v_sub, v_neg, v_eqI, v_eqS, v_eqB, v_eq0, v_eqT0, v_neI, v_neS, v_neB, v_ne0, v_neT0, v_ltI, v_leI, v_gtI, v_geI, v_is, v_isNot, v_nn, v_ns, v_ni, v_nl, v_nt, v_tb, v_tl, v_tt, v_tn, v_ti, v_asB, v_asI, v_asL, v_asT, v_asS, v_lenL, v_lenT, v_tupL, v_tupT, v_listL, v_listT, v_intB, v_tup0, v_tup1, v_tup2, v_tup3, v_tup4, v_tup5, v_lst0, v_lst1, v_lst2, v_lst3, v_lst4, v_lst5, v_ok0, v_ok1, v_ok2, v_ix0L, v_ix0, v_ix1, v_ix2, v_ix3, v_fs, v_fi, v_fb, v_fn, v_ft, v_f0, v_fc, startR, List.map_cons, List.map_nil, List.length_cons, List.length_nil, List.replicate, List.cons_append, List.nil_append, List.set_cons_zero, List.set_cons_succ, Option.some.injEq, exists_eq_left', Nat.reduceAdd, Nat.reduceSub, Nat.sub_zero, Nat.sub_self, Nat.zero_add, Nat.reduceEqDiff, Bool.not_true, Bool.not_false, if_true, if_false, Bool.and_self, Bool.true_and, Bool.and_true, Bool.false_eq_true, ↓reduceIte, true_and, and_true, decide_true, decide_false, wipeR]
      rw [show ((n : Int) + 1 - 1).toNat = n by omega]
    obtain ⟨b, s2, q1, rfl, rfl⟩ := this
    exact q1
  · obtain ⟨j, hj⟩ := List.mem_iff_getElem?.mp hd
    obtain ⟨hjn, rfl⟩ := range_get hj
    obtain ⟨ts, e1, e2⟩ := boxN (s := s) h hjn hn
    refine ⟨_, rfl, ?_, fun _ => rfl⟩
    have : Ok ((qT (cB pIn (cVar 1) (cCall 1 K_w_numbers (aCons (cB pIx (cVar 0) (cB pSub (cVar 2) (cK (.int 1)))) aNil)))) [some (.list bs), some (numD a), some (.int (1 + (j : Int)))] s) fun b s' => b = decide (a ∈ arN L (j + 1)) ∧ s' = s := by
      simp only [ok_V0, ok_Vs, ok_K, ok_B, ok_U, ok_nil, ok_cons, ok_N, ok_aN, ok_call, ok_nl, ok_fl, ok_afl, ok_T, ok_qNot, ok_qAnd, ok_qOr, ok_and, ok_or, ok_not, ok_if, ok_Sl, ok_oNo, ok_oOf, ok_Ch, ok_it, ok_itA, ok_yes, v_addI, v_sub, v_neg, v_eqI, v_eqS, v_eqB, v_eq0, v_eqT0, v_neI, v_neS, v_neB, v_ne0, v_neT0, v_ltI, v_leI, v_gtI, v_geI, v_is, v_isNot, v_nn, v_ns, v_ni, v_nl, v_nt, v_tb, v_tl, v_tt, v_tn, v_ti, v_asB, v_asI, v_asL, v_asT, v_asS, v_lenL, v_lenT, v_tupL, v_tupT, v_listL, v_listT, v_intB, v_tup0, v_tup1, v_tup2, v_tup3, v_tup4, v_tup5, v_lst0, v_lst1, v_lst2, v_lst3, v_lst4, v_lst5, v_ok0, v_ok1, v_ok2, v_ix0L, v_ix0, v_ix1, v_ix2, v_ix3, v_fs, v_fi, v_fb, v_fn, v_ft, v_f0, v_fc, startR, List.map_cons, List.map_nil, List.length_cons, List.length_nil, List.replicate, List.cons_append, List.nil_append, List.set_cons_zero, List.set_cons_succ, Option.some.injEq, exists_eq_left', Nat.reduceAdd, Nat.reduceSub, Nat.sub_zero, Nat.sub_self, Nat.zero_add, Nat.reduceEqDiff, Bool.not_true, Bool.not_false, if_true, if_false, Bool.and_self, Bool.true_and, Bool.and_true, Bool.false_eq_true, ↓reduceIte, true_and, and_true, decide_true, decide_false, wipeR, show (1 + (j : Int)) - 1 = (j : Nat) from by omega, e1, e2, ok_some, in_nums]
    obtain ⟨b, s2, q1, rfl, rfl⟩ := this
    refine q1.trans ?_
    show _ = some (decide (a ∈ arN L ((1 + (j : Int) - 1).toNat + 1)), s2)
    rw [show (1 + (j : Int) - 1).toNat = j by omega]
  · have ef : ((rngD 1 n).filter (fun d => match d with | .int i => decide (a ∈ arN L ((i - 1).toNat + 1)) | _ => false)).map (fun d => d) = ((lastN L a n).map fun j => ((j + 1 : Nat) : Int)).map PyData.int := by
      unfold lastN rngD
      rw [map_id', List.filter_map, List.map_map]
      have : ((fun d : D => match d with | .int i => decide (a ∈ arN L ((i - 1).toNat + 1)) | _ => false) ∘ fun i : Nat => PyData.int (1 + (i : Int))) = fun j => decide (a ∈ arN L (j + 1)) := by
        funext j
        show decide (a ∈ arN L ((1 + (j : Int) - 1).toNat + 1)) = _
        rw [show (1 + (j : Int) - 1).toNat = j by omega]
      rw [this]
      refine List.map_congr_left fun j _ => ?_
      show PyData.int (1 + (j : Int)) = PyData.int ((j + 1 : Nat) : Int)
      rw [show (1 + (j : Int)) = ((j + 1 : Nat) : Int) by omega]
    rw [ef]
    simp only [ok_V0, ok_Vs, ok_K, ok_B, ok_U, ok_nil, ok_cons, ok_N, ok_aN, ok_call, ok_nl, ok_fl, ok_afl, ok_T, ok_qNot, ok_qAnd, ok_qOr, ok_and, ok_or, ok_not, ok_if, ok_Sl, ok_oNo, ok_oOf, ok_Ch, ok_it, ok_itA, ok_yes, v_addI, v_sub, v_neg, v_eqI, v_eqS, v_eqB, v_eq0, v_eqT0, v_neI, v_neS, v_neB, v_ne0, v_neT0, v_ltI, v_leI, v_gtI, v_geI, v_is, v_isNot, v_nn, v_ns, v_ni, v_nl, v_nt, v_tb, v_tl, v_tt, v_tn, v_ti, v_asB, v_asI, v_asL, v_asT, v_asS, v_lenL, v_lenT, v_tupL, v_tupT, v_listL, v_listT, v_intB, v_tup0, v_tup1, v_tup2, v_tup3, v_tup4, v_tup5, v_lst0, v_lst1, v_lst2, v_lst3, v_lst4, v_lst5, v_ok0, v_ok1, v_ok2, v_ix0L, v_ix0, v_ix1, v_ix2, v_ix3, v_fs, v_fi, v_fb, v_fn, v_ft, v_f0, v_fc, startR, List.map_cons, List.map_nil, List.length_cons, List.length_nil, List.replicate, List.cons_append, List.nil_append, List.set_cons_zero, List.set_cons_succ, Option.some.injEq, exists_eq_left', Nat.reduceAdd, Nat.reduceSub, Nat.sub_zero, Nat.sub_self, Nat.zero_add, Nat.reduceEqDiff, Bool.not_true, Bool.not_false, if_true, if_false, Bool.and_self, Bool.true_and, Bool.and_true, Bool.false_eq_true, ↓reduceIte, true_and, and_true, decide_true, decide_false, wipeR, pMax, Dl.ints_map, Option.bind_some, e, Option.map_some]
theorem nums_shape (as : List Nat) : SeqAt.shaped (numsD as) = true := by
  have e : as.map numD = (as.map fun a => ((a + 1 : Nat) : Int)).map PyData.int := by rw [List.map_map]; rfl
  unfold SeqAt.shaped numsD
  rw [e]
  have h1 : PyData.canLay0 (.tuple ((as.map fun a => ((a + 1 : Nat) : Int)).map PyData.int)) = true := Lc.lay_ints _
  have h2 : PyData.depth (.tuple ((as.map fun a => ((a + 1 : Nat) : Int)).map PyData.int)) = 1 := by
    show PyData.depthAll _ + 1 = 1
    rw [Lc.dep_ints]
  rw [h1, h2]
  rfl
theorem ne_nums (as : List Nat) : pNe (numsD as) (numsD as) = some (.bool false) := by
  have e : PyData.eqv (numsD as) (numsD as) = true := SeqAt.eqv_refl _ (SeqAt.canLay_of_shaped (nums_shape as))
  refine (v_neD (nums_shape as) (nums_shape as)).trans ?_
  show some (PyData.bool (!PyData.eqv (numsD as) (numsD as))) = _
  rw [e]
  rfl
theorem all_true (n : Nat) : pAll [.list (List.replicate n (.bool true))] = some (.bool true) := by
  have : (List.replicate n (PyData.bool true) : List D) = (List.replicate n true).map PyData.bool := by simp
  rw [this]
  simp only [pAll, dBools_map, Option.map_some]
  congr 2
  simp
end
end Lw23
set_option Elab.async false
set_option linter.all false
set_option maxRecDepth 100000
set_option maxHeartbeats 4000000
namespace K23
open PySem PySem.Spec PyProof.Rows L2 Dl Lw23
def topS (i : Nat) : Stmt := PySem.Challenge.pw_linecourt_k23_boxes_and_openers.main.body.getD i (.Pass ⟨0, 0, 0, 0⟩)
section
variable {P : Program} {w : World} {K : PySem.W.Frag} {mg : Str → Option Value} {base : Heap} {f : Addr} {fd : FuncData}
-- is_opener: slots line 0
abbrev s_is_opener : Stmt := topS 2
abbrev N_is_opener : List Str := ["line"]
theorem sc_is_opener : FnScope N_is_opener ["line"] (defScope s_is_opener) := ⟨rfl, rfl, rfl, by decide +kernel, rfl, by decide +kernel, by decide +kernel⟩
theorem P_is_opener {S : Type} {Z : Zk S} {hd : Nat → Addr → Prop} {k : Nat} (U : Fun K "is_opener" "is_opener" s_is_opener f fd) {a_OPENERS : Addr} (g_OPENERS : mg "OPENERS" = some (.ref a_OPENERS)) (r_OPENERS : ∀ B H, Rep ⟨K, hd⟩ B H d_OPENERS (.ref a_OPENERS)) :
    FnOk P w K mg base CX0 (k + 1) f fd ["line"] (spD ⟨K, hd⟩ Z 1 (K_is_opener )) :=
  fn_ok (W := []) (F := B_is_opener ) U sc_is_opener rfl rfl (by decide) (by decide) fun cdv A outer s H E hr => by
    unfold B_is_opener
    exact (es_one (es_ret (ex_cmp (od_in (Room_units65 hr)) os_in (ex_ix ix_seq os_ix (ex_ix ix_seq os_ix (ex_var 0) ex_int (fun _ _ => rfl)) ex_int (fun _ _ => rfl)) (ex_of (pe_glob (v := .ref a_OPENERS) rfl g_OPENERS rfl) fun B H => r_OPENERS B H) (by rfl))))

-- has_opener: slots lines 0, i 1
abbrev s_has_opener : Stmt := topS 3
abbrev N_has_opener : List Str := ["lines", "i"]
theorem sc_has_opener : FnScope N_has_opener ["lines", "i"] (defScope s_has_opener) := ⟨rfl, rfl, rfl, by decide +kernel, rfl, by decide +kernel, by decide +kernel⟩
theorem P_has_opener {S : Type} {Z : Zk S} {hd : Nat → Addr → Prop} {k : Nat} (U : Fun K "has_opener" "has_opener" s_has_opener f fd) {F_is_opener : Fn S} {k_is_opener : Nat} (C_is_opener : Lc.Dn P w K mg base "is_opener" ["line"] k_is_opener (spD ⟨K, hd⟩ Z 1 F_is_opener)) (h_is_opener : k_is_opener ≤ k) (m_len : mg "len" = none) :
    FnOk P w K mg base CX0 (k + 1) f fd ["lines", "i"] (spD ⟨K, hd⟩ Z 2 (K_has_opener F_is_opener)) :=
  fn_ok (W := []) (F := B_has_opener F_is_opener) U sc_has_opener rfl rfl (by decide) (by decide) fun cdv A outer s H E hr => by
    unfold B_has_opener
    exact (es_one (es_ret (ex_and (ex_chain op_le os_le op_le os_le ex_int (ex_var 1) (ex_callB od_len os_len (by rfl) m_len (by decide +kernel) (ea_cons (ex_var 0) ea_nil))) (ex_one (ex_call C_is_opener (hr.mono h_is_opener) (by rfl) (ea_cons (ex_ix ix_seq os_ix (ex_var 0) (ex_bin op_sub os_sub (ex_var 1) ex_int) (fun _ _ => rfl)) ea_nil))))))

-- ends_box: slots line 0, level 1
abbrev s_ends_box : Stmt := topS 4
abbrev N_ends_box : List Str := ["line", "level"]
theorem sc_ends_box : FnScope N_ends_box ["line", "level"] (defScope s_ends_box) := ⟨rfl, rfl, rfl, by decide +kernel, rfl, by decide +kernel, by decide +kernel⟩
theorem P_ends_box {S : Type} {Z : Zk S} {hd : Nat → Addr → Prop} {k : Nat} (U : Fun K "ends_box" "ends_box" s_ends_box f fd) {F_is_opener : Fn S} {k_is_opener : Nat} (C_is_opener : Lc.Dn P w K mg base "is_opener" ["line"] k_is_opener (spD ⟨K, hd⟩ Z 1 F_is_opener)) (h_is_opener : k_is_opener ≤ k) :
    FnOk P w K mg base CX0 (k + 1) f fd ["line", "level"] (spD ⟨K, hd⟩ Z 2 (K_ends_box F_is_opener)) :=
  fn_ok (W := []) (F := B_ends_box F_is_opener) U sc_ends_box rfl rfl (by decide) (by decide) fun cdv A outer s H E hr => by
    unfold B_ends_box
    exact (es_one (es_ret (ex_or (ex_cmp (od_lt hr.units) os_lt (ex_ix ix_seq os_ix (ex_var 0) ex_int (fun _ _ => rfl)) (ex_var 1) (nomark _)) (ex_one (ex_and (ex_cmp (od_eq hr.units) os_eq (ex_ix ix_seq os_ix (ex_var 0) ex_int (fun _ _ => rfl)) (ex_var 1) (nomark _)) (ex_one (ex_call C_is_opener (hr.mono h_is_opener) (by rfl) (ea_cons (ex_var 0) ea_nil))))))))

-- box_of: slots lines 0, i 1, last 2
abbrev s_box_of : Stmt := topS 5
abbrev N_box_of : List Str := ["lines", "i", "last"]
theorem sc_box_of : FnScope N_box_of ["lines", "i"] (defScope s_box_of) := ⟨rfl, rfl, rfl, by decide +kernel, rfl, by decide +kernel, by decide +kernel⟩
theorem P_box_of {S : Type} {Z : Zk S} {hd : Nat → Addr → Prop} {k : Nat} (U : Fun K "box_of" "box_of" s_box_of f fd) {F_has_opener : Fn S} {k_has_opener : Nat} (C_has_opener : Lc.Dn P w K mg base "has_opener" ["lines", "i"] k_has_opener (spD ⟨K, hd⟩ Z 2 F_has_opener)) (h_has_opener : k_has_opener ≤ k) {F_ends_box : Fn S} {k_ends_box : Nat} (C_ends_box : Lc.Dn P w K mg base "ends_box" ["line", "level"] k_ends_box (spD ⟨K, hd⟩ Z 2 F_ends_box)) (h_ends_box : k_ends_box ≤ k) (m_len : mg "len" = none) :
    FnOk P w K mg base CX0 (k + 1) f fd ["lines", "i"] (spD ⟨K, hd⟩ Z 2 (K_box_of F_has_opener F_ends_box)) :=
  fn_ok (W := []) (F := B_box_of F_has_opener F_ends_box) U sc_box_of rfl rfl (by decide) (by decide) fun cdv A outer s H E hr => by
    unfold B_box_of
    exact (es_cons (es_if (et_not (et_val (ex_call C_has_opener (hr.mono h_has_opener) (by rfl) (ea_cons (ex_var 0) (ea_cons (ex_var 1) ea_nil)))))
    (es_one (es_ret ex_non))
    es_nil)
    (es_cons (es_set (i := 2) sc_box_of.nd rfl (.inl rfl) (ex_var 1))
    (es_cons (es_while PassesOwn.never (PW.pt (ew_and (et_cmp (od_lt hr.units) os_lt (ex_var 2) (ex_callB od_len os_len (by rfl) m_len (by decide +kernel) (ea_cons (ex_var 0) ea_nil)) (nomark _) (fun _ _ _ h => pLt_bool h)) (pw_and1 (et_not (et_val (ex_call C_ends_box (hr.mono h_ends_box) (by rfl) (ea_cons (ex_ix ix_seq os_ix (ex_var 0) (ex_var 2) (fun _ _ => rfl)) (ea_cons (ex_ix ix_seq os_ix (ex_ix ix_seq os_ix (ex_var 0) (ex_bin op_sub os_sub (ex_var 1) ex_int) (fun _ _ => rfl)) ex_int (fun _ _ => rfl)) ea_nil))))))))
    (es_one (es_aug (ps_aug (i := 2) sc_box_of.nd rfl (.inl rfl) ex_int ip_add) os_ip)))
    (es_one (es_ret (ex_tup (ea_cons (ex_var 1) (ea_cons (ex_var 2) ea_nil))))))))

-- all_openers: slots lines 0, told 1, around 2, at 3, line 4, i 5; cells line, lines; own [1, 2]
abbrev s_all_openers : Stmt := topS 6
abbrev N_all_openers : List Str := ["lines", "told", "around", "at", "line", "i"]
theorem sc_all_openers : FnScope N_all_openers ["lines"] (defScope s_all_openers) := ⟨rfl, rfl, rfl, by decide +kernel, rfl, by decide +kernel, by decide +kernel⟩
theorem P_all_openers {S : Type} {Z : Zk S} {hd : Nat → Addr → Prop} {k : Nat} (U : Fun K "all_openers" "all_openers" s_all_openers f fd) {F_ends_box : Fn S} {k_ends_box : Nat} (C_ends_box : Lc.Dn P w K mg base "ends_box" ["line", "level"] k_ends_box (spD ⟨K, hd⟩ Z 2 F_ends_box)) (h_ends_box : k_ends_box ≤ k) {F_is_opener : Fn S} {k_is_opener : Nat} (C_is_opener : Lc.Dn P w K mg base "is_opener" ["line"] k_is_opener (spD ⟨K, hd⟩ Z 1 F_is_opener)) (h_is_opener : k_is_opener ≤ k) (m_enumerate : mg "enumerate" = none) (m_tuple : mg "tuple" = none) :
    FnOk P w K mg base CX0 (k + 1) f fd ["lines"] (spD ⟨K, hd⟩ Z 1 (K_all_openers F_ends_box F_is_opener)) :=
  fn_ok (W := [1, 2]) (F := B_all_openers F_ends_box F_is_opener) U sc_all_openers rfl rfl (by decide) (by decide) fun cdv A outer s H E hr => by
    unfold B_all_openers
    exact (es_cons (es_own (i := 1) sc_all_openers.nd rfl (.inl rfl) (nl_lst ea_nil))
    (es_cons (es_own (i := 2) sc_all_openers.nd rfl (.inl rfl) (nl_lst ea_nil))
    (es_cons (es_for PassesOwn.never rfl (ei_enumT (Lc.pi_enumT (by rfl) m_enumerate (ea_cons (ex_var 0) ea_nil))) (eg_tup rfl (egs_cons (eg_name (i := 3) sc_all_openers.nd rfl (.inl rfl)) (egs_cons (eg_name (i := 4) sc_all_openers.nd rfl (.inr rfl)) egs_nil)) (fun _ _ _ h => glC (fun _ _ _ h => glC (fun _ _ _ h => gl0 h) h) h))
    (es_cons (es_ownNl (ps_setLc (i := 2) (own := [("i", 5)]) rfl sc_all_openers.nd rfl rfl (sw_true rfl rfl rfl (by decide +kernel)) (ei_list (ex_var 2)) (blkOk_by (N := N_all_openers) (sc := defScope s_all_openers) (by decide +kernel)) (fun _ _ _ _ _ => (eg_name (i := 5) sc_all_openers.nd rfl (.inl rfl))) (fun _ _ _ _ _ => pts_one (et_not (et_val (ex_call C_ends_box (hr.mono h_ends_box) (by rfl) (ea_cons (ex_var 4) (ea_cons (ex_ix ix_seq os_ix (ex_ix ix_seq os_ix (ex_var 0) (ex_bin op_sub os_sub (ex_var 5) ex_int) (fun _ _ => rfl)) ex_int (fun _ _ => rfl)) ea_nil)))))) (fun _ _ _ _ _ => (ex_var 5))) (fun _ _ _ h => nl_lcT (hu := by decide) (fun _ _ _ h => h) (nlw h)))
      (es_cons (es_if (et_val (ex_call C_is_opener (hr.mono h_is_opener) (by rfl) (ea_cons (ex_var 4) ea_nil)))
      (es_one (es_app2 (ps_expr (pe_bm PySem.F.plainAttrs_list PySem.F.slot_list_append PySem.F.type_list_append mt_append (pv 2) (pa_cons (ex_bin od_add os_add (ex_var 3) ex_int) pa_nil)))))
      es_nil)
      (es_one (es_app2 (ps_expr (pe_bm PySem.F.plainAttrs_list PySem.F.slot_list_append PySem.F.type_list_append mt_append (pv 1) (pa_cons (ex_weak (ex_callTy od_tuple os_tuple (by rfl) m_tuple (by decide +kernel) (ea_cons (ex_var 2) ea_nil))) pa_nil))))))))
    (es_one (es_ret (ex_var 1))))))

-- openers_at: slots lines 0, k 1
abbrev s_openers_at : Stmt := topS 7
abbrev N_openers_at : List Str := ["lines", "k"]
theorem sc_openers_at : FnScope N_openers_at ["lines", "k"] (defScope s_openers_at) := ⟨rfl, rfl, rfl, by decide +kernel, rfl, by decide +kernel, by decide +kernel⟩
theorem P_openers_at {S : Type} {Z : Zk S} {hd : Nat → Addr → Prop} {k : Nat} (U : Fun K "openers_at" "openers_at" s_openers_at f fd) {F_all_openers : Fn S} {k_all_openers : Nat} (C_all_openers : Lc.Dn P w K mg base "all_openers" ["lines"] k_all_openers (spD ⟨K, hd⟩ Z 1 F_all_openers)) (h_all_openers : k_all_openers ≤ k) :
    FnOk P w K mg base CX0 (k + 1) f fd ["lines", "k"] (spD ⟨K, hd⟩ Z 2 (K_openers_at F_all_openers)) :=
  fn_ok (W := []) (F := B_openers_at F_all_openers) U sc_openers_at rfl rfl (by decide) (by decide) fun cdv A outer s H E hr => by
    unfold B_openers_at
    exact (es_one (es_ret (ex_ix ix_seq os_ix (ex_call C_all_openers (hr.mono h_all_openers) (by rfl) (ea_cons (ex_slice od_sl os_sl (ex_var 0) eo_none (eo_some (ex_var 1))) ea_nil)) (ex_un un_neg us_neg ex_int) (fun _ _ => rfl))))

-- _law_own: slots _law_own_here 0
abbrev s_w_own : Stmt := topS 11
abbrev N_w_own : List Str := ["_law_own_here"]
theorem sc_w_own : FnScope N_w_own [] (defScope s_w_own) := ⟨rfl, rfl, rfl, by decide +kernel, rfl, by decide +kernel, by decide +kernel⟩
theorem P_w_own {S : Type} {Z : Zk S} {hd : Nat → Addr → Prop} {k : Nat} (U : Fun K "_law_own" "_law_own" s_w_own f fd)  :
    FnOk P w K mg base CX0 (k + 1) f fd [] (spD ⟨K, hd⟩ Z 0 (K_w_own )) :=
  fn_ok (W := []) (F := B_w_own ) U sc_w_own rfl rfl (by decide) (by decide) fun cdv A outer s H E hr => by
    unfold B_w_own
    exact (es_cons (es_set (i := 0) sc_w_own.nd rfl (.inl rfl) ex_str)
    (es_one (es_ret (ex_nl (nl_split (ex_bin od_add os_add (ex_var 0) ex_str) ex_str)))))

-- _law_signs: slots _law_deck_here 0, _law_many 1, _law_small 2, _law_k 3; cells _law_deck_here, _law_small
abbrev s_w_signs : Stmt := topS 12
abbrev N_w_signs : List Str := ["_law_deck_here", "_law_many", "_law_small", "_law_k"]
theorem sc_w_signs : FnScope N_w_signs ["_law_deck_here", "_law_many"] (defScope s_w_signs) := ⟨rfl, rfl, rfl, by decide +kernel, rfl, by decide +kernel, by decide +kernel⟩
theorem P_w_signs {S : Type} {Z : Zk S} {hd : Nat → Addr → Prop} {k : Nat} (U : Fun K "_law_signs" "_law_signs" s_w_signs f fd) {F_w_draw : Fn S} {k_w_draw : Nat} (C_w_draw : Lc.Dn P w K mg base "_law_draw" ["_law_deck_here", "_law_most"] k_w_draw (spD ⟨K, hd⟩ Z 2 F_w_draw)) (h_w_draw : k_w_draw ≤ k) (m_range : mg "range" = none) :
    FnOk P w K mg base CX0 (k + 1) f fd ["_law_deck_here", "_law_many"] (spD ⟨K, hd⟩ Z 2 (K_w_signs F_w_draw)) :=
  fn_ok (W := []) (F := B_w_signs F_w_draw) U sc_w_signs rfl rfl (by decide) (by decide) fun cdv A outer s H E hr => by
    unfold B_w_signs
    exact (es_cons (es_set (i := 2) sc_w_signs.nd rfl (.inr rfl) ex_str)
    (es_one (es_ret (ex_join ex_str (ex_nl (nl_lc (own := [("_law_k", 3)]) (tt := tYes) rfl sc_w_signs.nd (ei_range1 (pi_range1 (by rfl) m_range (ea_cons (ex_var 1) ea_nil))) (blkOk_by (N := N_w_signs) (sc := defScope s_w_signs) (by decide +kernel)) (fun _ _ _ _ _ => (eg_name (i := 3) sc_w_signs.nd rfl (.inl rfl))) (fun _ _ _ _ _ => pts_nil) (fun _ _ _ h => yes_of h) (fun _ _ _ _ _ => (ex_ix ix_seq os_ix (ex_var 2) (ex_call C_w_draw (hr.mono h_w_draw) (by rfl) (ea_cons (ex_var 0) (ea_cons ex_int ea_nil))) (fun _ _ => rfl)))))))))

-- _law_unlike: slots _law_word 0, _law_there 1, _law_ahead 2, _law_small 3, _law_sign 4; cells _law_ahead, _law_there
abbrev s_w_unlike : Stmt := topS 13
abbrev N_w_unlike : List Str := ["_law_word", "_law_there", "_law_ahead", "_law_small", "_law_sign"]
theorem sc_w_unlike : FnScope N_w_unlike ["_law_word", "_law_there", "_law_ahead"] (defScope s_w_unlike) := ⟨rfl, rfl, rfl, by decide +kernel, rfl, by decide +kernel, by decide +kernel⟩
theorem P_w_unlike {S : Type} {Z : Zk S} {hd : Nat → Addr → Prop} {k : Nat} (U : Fun K "_law_unlike" "_law_unlike" s_w_unlike f fd)  :
    FnOk P w K mg base CX0 (k + 1) f fd ["_law_word", "_law_there", "_law_ahead"] (spD ⟨K, hd⟩ Z 3 (K_w_unlike )) :=
  fn_ok (W := []) (F := B_w_unlike ) U sc_w_unlike rfl rfl (by decide) (by decide) fun cdv A outer s H E hr => by
    unfold B_w_unlike
    exact (es_cons (es_if (et_cmp (od_notIn (Room_units65 hr)) os_notIn (ex_var 0) (ex_var 1) (by rfl) (fun _ _ _ h => pNotIn_bool h))
    (es_one (es_ret (ex_var 0)))
    es_nil)
    (es_cons (es_set (i := 3) sc_w_unlike.nd rfl (.inl rfl) ex_str)
    (es_one (es_ret (ex_ix ix_seq os_ix (ex_nl (nl_lc (own := [("_law_sign", 4)]) rfl sc_w_unlike.nd (ei_str (ex_var 3)) (blkOk_by (N := N_w_unlike) (sc := defScope s_w_unlike) (by decide +kernel)) (fun _ _ _ _ _ => (eg_name (i := 4) sc_w_unlike.nd rfl (.inl rfl))) (fun _ _ _ _ _ => pts_one (et_cmp (od_notIn (Room_units65 hr)) os_notIn (ex_bin od_add os_add (ex_bin od_add os_add (ex_var 2) (ex_var 4)) ex_str) (ex_var 1) (by rfl) (fun _ _ _ h => pNotIn_bool h))) (fun _ _ _ h => h) (fun _ _ _ _ _ => (ex_bin od_add os_add (ex_bin od_add os_add (ex_var 2) (ex_var 4)) ex_str)))) ex_int (fun _ _ => rfl))))))

-- _law_numbers: slots _law_inside 0, _law_level 1, _law_number 2, _law_name 3
abbrev s_w_numbers : Stmt := topS 21
abbrev N_w_numbers : List Str := ["_law_inside", "_law_level", "_law_number", "_law_name"]
theorem sc_w_numbers : FnScope N_w_numbers ["_law_inside"] (defScope s_w_numbers) := ⟨rfl, rfl, rfl, by decide +kernel, rfl, by decide +kernel, by decide +kernel⟩
theorem P_w_numbers {S : Type} {Z : Zk S} {hd : Nat → Addr → Prop} {k : Nat} (U : Fun K "_law_numbers" "_law_numbers" s_w_numbers f fd) (m_tuple : mg "tuple" = none) :
    FnOk P w K mg base CX0 (k + 1) f fd ["_law_inside"] (spD ⟨K, hd⟩ Z 1 (K_w_numbers )) :=
  fn_ok (W := []) (F := B_w_numbers ) U sc_w_numbers rfl rfl (by decide) (by decide) fun cdv A outer s H E hr => by
    unfold B_w_numbers
    exact (es_one (es_ret (ex_callTy od_tuple os_tuple (by rfl) m_tuple (by decide +kernel) (ea_cons (ex_nl (nl_lc (own := [("_law_level", 1), ("_law_number", 2), ("_law_name", 3)]) (tt := tYes) rfl sc_w_numbers.nd (ei_tup (ex_var 0)) (blkOk_by (N := N_w_numbers) (sc := defScope s_w_numbers) (by decide +kernel)) (fun _ _ _ _ _ => (eg_tup rfl (egs_cons (eg_name (i := 1) sc_w_numbers.nd rfl (.inl rfl)) (egs_cons (eg_name (i := 2) sc_w_numbers.nd rfl (.inl rfl)) (egs_cons (eg_name (i := 3) sc_w_numbers.nd rfl (.inl rfl)) egs_nil))) (fun _ _ _ h => glC (fun _ _ _ h => glC (fun _ _ _ h => glC (fun _ _ _ h => gl0 h) h) h) h))) (fun _ _ _ _ _ => pts_nil) (fun _ _ _ h => yes_of h) (fun _ _ _ _ _ => (ex_var 2)))) ea_nil))))

-- _law_last: slots _law_boxes 0, _law_i 1, _law_k 2; cells _law_boxes, _law_i
abbrev s_w_last : Stmt := topS 22
abbrev N_w_last : List Str := ["_law_boxes", "_law_i", "_law_k"]
theorem sc_w_last : FnScope N_w_last ["_law_boxes", "_law_i"] (defScope s_w_last) := ⟨rfl, rfl, rfl, by decide +kernel, rfl, by decide +kernel, by decide +kernel⟩
theorem P_w_last {S : Type} {Z : Zk S} {hd : Nat → Addr → Prop} {k : Nat} (U : Fun K "_law_last" "_law_last" s_w_last f fd) {F_w_numbers : Fn S} {k_w_numbers : Nat} (C_w_numbers : Lc.Dn P w K mg base "_law_numbers" ["_law_inside"] k_w_numbers (spD ⟨K, hd⟩ Z 1 F_w_numbers)) (h_w_numbers : k_w_numbers ≤ k) (m_max : mg "max" = none) (m_range : mg "range" = none) (m_len : mg "len" = none) :
    FnOk P w K mg base CX0 (k + 1) f fd ["_law_boxes", "_law_i"] (spD ⟨K, hd⟩ Z 2 (K_w_last F_w_numbers)) :=
  fn_ok (W := []) (F := B_w_last F_w_numbers) U sc_w_last rfl rfl (by decide) (by decide) fun cdv A outer s H E hr => by
    unfold B_w_last
    exact (es_one (es_ret (ex_callB (cr_max rfl) os_max (by rfl) m_max (by decide +kernel) (ea_cons (ex_nl (nl_lc (own := [("_law_k", 2)]) rfl sc_w_last.nd (ei_range2 (pi_range2 (by rfl) m_range (ea_cons ex_int (ea_cons (ex_bin od_add os_add (ex_callB od_len os_len (by rfl) m_len (by decide +kernel) (ea_cons (ex_var 0) ea_nil)) ex_int) ea_nil)))) (blkOk_by (N := N_w_last) (sc := defScope s_w_last) (by decide +kernel)) (fun _ _ _ _ _ => (eg_name (i := 2) sc_w_last.nd rfl (.inl rfl))) (fun _ _ _ _ _ => pts_one (et_cmp (od_in (Room_units65 hr)) os_in (ex_var 1) (ex_call C_w_numbers (hr.mono h_w_numbers) (by rfl) (ea_cons (ex_ix ix_seq os_ix (ex_var 0) (ex_bin op_sub os_sub (ex_var 2) ex_int) (fun _ _ => rfl)) ea_nil)) (by rfl) (fun _ _ _ h => pIn_bool h))) (fun _ _ _ h => h) (fun _ _ _ _ _ => (ex_var 2)))) ea_nil))))

-- _law_whole: slots _law_found 0
abbrev s_w_whole : Stmt := topS 23
abbrev N_w_whole : List Str := ["_law_found"]
theorem sc_w_whole : FnScope N_w_whole ["_law_found"] (defScope s_w_whole) := ⟨rfl, rfl, rfl, by decide +kernel, rfl, by decide +kernel, by decide +kernel⟩
theorem P_w_whole {S : Type} {Z : Zk S} {hd : Nat → Addr → Prop} {k : Nat} (U : Fun K "_law_whole" "_law_whole" s_w_whole f fd) (m_isinstance : mg "isinstance" = none) (m_bool : mg "bool" = none) (m_int : mg "int" = none) :
    FnOk P w K mg base CX0 (k + 1) f fd ["_law_found"] (spD ⟨K, hd⟩ Z 1 (K_w_whole )) :=
  fn_ok (W := []) (F := B_w_whole ) U sc_w_whole rfl rfl (by decide) (by decide) fun cdv A outer s H E hr => by
    unfold B_w_whole
    exact (es_one (es_ret (ex_and (ex_isi (by rfl) m_isinstance (ex_var 0) (pe_bltn (v := .ty "int") (by rfl) m_int (by decide +kernel) rfl)) (ex_one (ex_not (ex_isi (by rfl) m_isinstance (ex_var 0) (pe_bltn (v := .ty "bool") (by rfl) m_bool (by decide +kernel) rfl)))))))

end
end K23
set_option Elab.async false
set_option linter.all false
set_option maxRecDepth 100000
set_option maxHeartbeats 4000000
namespace K23
open PySem PySem.Spec PyProof.Rows L2 Dl
section
variable {P : Program} {w : World} {K : PySem.W.Frag} {mg : Str → Option Value} {base : Heap} {f : Addr} {fd : FuncData}
abbrev s_w_deck : Stmt := topS 9
abbrev N_w_deck : List Str := ["_law_script", "_law_seed", "_law_cell"]
theorem sc_w_deck : FnScope N_w_deck ["_law_script"] (defScope s_w_deck) := ⟨rfl, rfl, rfl, by decide +kernel, rfl, by decide +kernel, by decide +kernel⟩
def spDeck (K : PySem.W.Frag) : Sp := fun vs H Q _ => ∃ (a : Addr) (ns : List Int), vs = [.ref a] ∧ SqL K H a (ns.map V.int) ∧ ∀ d c H' s, Same H H' → d ≠ c → DkS d c H' s → H d = none → H c = none → Q (.ref d) H'
theorem ok_w_deck {k : Nat} (F : Fun K "_law_deck" "_law_deck" s_w_deck f fd) (m_list : mg "list" = none) : FnOk P w K mg base CX0 (k + 1) f fd ["_law_script"] (spDeck K) := by
  refine F.ok sc_w_deck (fun vs H Q E h => ?_) (fun cdv A outer s H vs Q E hr h => ?_)
  · obtain ⟨a, ns, rfl, _⟩ := h
    rfl
  · obtain ⟨a, ns, rfl, hS, q⟩ := h
    refine ⟨_, (pss_cons (ps_set (i := 1) sc_w_deck.nd rfl (.inl rfl) pe_int)
      (pss_cons (ps_for PassesOwn.never rfl (pi_list (pe_slice sl_list (pv 0) po_none (po_some pe_int))) (pg_name (i := 2) sc_w_deck.nd rfl (.inl rfl))
      (pss_one (ps_set (i := 1) sc_w_deck.nd rfl (.inl rfl) (pe_op op_mod (pe_op op_add (pe_op op_add (pe_op op_mul (pv 1) pe_int) (pe_op op_mod (pv 2) pe_int)) pe_int) pe_int))))
      (pss_one (ps_ret (pe_lst (pa_cons (pe_callTy call_list_of (by rfl) m_list (by decide +kernel) (pa_cons (pe_slice sl_list (pv 0) po_none (po_some pe_int)) pa_nil)) (pa_cons (pv 1) (pa_cons pe_int pa_nil)))))))), ?_⟩
    have ec : cutV (ns.map V.int) none (some 63) = (ns.take 63).map V.int := by
      rw [show (63 : Int) = ((63 : Nat) : Int) from rfl, Lc.cut_to, List.map_take]
    have l63 : (ns.take 63).length ≤ 63 := by
      rw [List.length_take]
      omega
    generalize ns.take 63 = nt at ec l63
    refine ⟨.ref a, rfl, _, rfl, a, _, rfl, hS, fun p np => ?_⟩
    rw [ec]
    have s1 := Lc.same_new (o := .lst (nt.map V.int)) np
    have h1 : (upd H p (.lst (nt.map V.int))) p = some (.lst (nt.map V.int)) := upd_same
    generalize upd H p (.lst (nt.map V.int)) = H1 at s1 h1 ⊢
    refine ⟨p, rfl, ⟨_, SqL.of h1⟩, ?_⟩
    refine for_list (K := K) (a := p) (xs := nt.map V.int) (fun i σ H' => ∃ (n : Int) (y : Option V), σ = [some (.ref a), some (.int n), y] ∧ H' = H1) ⟨7, none, rfl, rfl⟩ (fun i σ H' hi ⟨n, y, e1, e2⟩ => by rw [e2]; exact SqL.of h1) (fun i x σ H' hx ⟨n, y, e1, e2⟩ => ?_) (fun σ H' ⟨n, y, e1, e2⟩ => ?_)
    · subst e1 e2
      obtain ⟨z, _, rfl⟩ := List.mem_map.mp (List.mem_of_getElem? hx)
      exact ⟨.int n, rfl, n, _, rfl, rfl, .inr ⟨by decide, by decide⟩, .int z, rfl, z, _, rfl, rfl, (show (0 : Int) < 2147483629 by decide), _, _, rfl, rfl, _, _, rfl, rfl, _, _, rfl, rfl, (show (0 : Int) < 2147483629 by decide), _, _, rfl, rfl⟩
    · subst e1 e2
      refine ⟨.ref a, rfl, _, rfl, a, _, rfl, s1.seq hS, fun p2 np2 => ?_⟩
      rw [ec]
      refine ⟨p2, _, rfl, .inl (SqL.of upd_same), fun c nc => ?_⟩
      have s0 := s1.trans (Lc.same_new (o := .lst (nt.map V.int)) np2)
      have s2 := s1.trans ((Lc.same_new (o := .lst (nt.map V.int)) np2).trans (Lc.same_new (o := .lst (nt.map V.int)) nc))
      have hc : (upd (upd H' p2 (.lst (nt.map V.int))) c (.lst (nt.map V.int))) c = some (.lst (nt.map V.int)) := upd_same
      generalize (upd (upd H' p2 (.lst (nt.map V.int))) c (.lst (nt.map V.int))) = H2 at s2 hc ⊢
      refine ⟨.int n, rfl, Lc.sz (by show 3 ≤ 100000; decide), fun d nd => ?_⟩
      exact q d c _ (nt, n, 0) (s2.trans (Lc.same_new nd)) (ne_of_none hc nd).symm ⟨upd_same, Lc.same_new nd _ _ hc, l63⟩ (s2.free nd) (s0.free nc)
abbrev s_w_draw : Stmt := topS 10
abbrev N_w_draw : List Str := ["_law_deck_here", "_law_most", "_law_number", "_law_cell"]
theorem sc_w_draw : FnScope N_w_draw ["_law_deck_here", "_law_most"] (defScope s_w_draw) := ⟨rfl, rfl, rfl, by decide +kernel, rfl, by decide +kernel, by decide +kernel⟩
def spDraw : Sp := fun vs H Q _ => ∃ (d c : Addr) (s : DS) (m : Int), vs = [.ref d, .int m] ∧ DkS d c H s ∧ 0 < m ∧ m < 1073741824 ∧ ∀ H', Lc.Fr (MD d c) H H' → DkS d c H' (drawF s m).2 → Q (.int (drawF s m).1) H'
theorem ok_w_draw {k : Nat} (F : Fun K "_law_draw" "_law_draw" s_w_draw f fd) : FnOk P w K mg base CX0 (k + 1) f fd ["_law_deck_here", "_law_most"] spDraw := by
  refine F.ok sc_w_draw (fun vs H Q E h => ?_) (fun cdv A outer s H vs Q E hr h => ?_)
  · obtain ⟨d, c, s, m, rfl, _⟩ := h
    rfl
  · obtain ⟨d, c, ⟨cells, n, sm⟩, m, rfl, ⟨hd, hc, hl⟩, hm, hm2, q⟩ := h
    simp only at hd hc hl
    refine ⟨_, (pss_cons (ps_asg (pe_op op_add (pe_ix ix_list (pv 0) pe_int (fun _ _ => rfl)) pe_int) (pg_sub (pv 0) pe_int set_list))
      (pss_cons (ps_if (pt_cmpR (Lc.op_eqNil hr.units0) (pe_ix ix_list (pv 0) pe_int (fun _ _ => rfl)) (pe_lst pa_nil) (nomark _))
      (pss_cons (ps_set (i := 2) sc_w_draw.nd rfl (.inl rfl) (pe_op op_mod (pe_op op_mul (pe_op op_add (pe_ix ix_list (pv 0) pe_int (fun _ _ => rfl)) (pe_op op_mul pe_int (pe_ix ix_list (pv 0) pe_int (fun _ _ => rfl)))) pe_int) pe_int))
        (pss_one (ps_ret (pe_op op_mod (pe_op op_mod (pe_op op_mul (pe_op op_mod (pe_op op_add (pe_op op_mul (pv 2) (pv 2)) (pe_op op_mul pe_int (pe_ix ix_list (pv 0) pe_int (fun _ _ => rfl)))) pe_int) pe_int) pe_int) (pv 1)))))
      pss_nil)
      (pss_cons (ps_set (i := 3) sc_w_draw.nd rfl (.inl rfl) (pe_bm PySem.F.plainAttrs_list PySem.F.slot_list_pop PySem.F.type_list_pop mt_popAt (pe_ix ix_list (pv 0) pe_int (fun _ _ => rfl)) (pa_cons pe_int pa_nil)))
      (pss_cons (ps_if (pt_cmpR op_ge (pv 3) (pe_op op_pow pe_int pe_int) (nomark _))
      (pss_cons (ps_expr (pe_bm PySem.F.plainAttrs_list PySem.F.slot_list_insert PySem.F.type_list_insert mt_insert (pe_ix ix_list (pv 0) pe_int (fun _ _ => rfl)) (pa_cons pe_int (pa_cons (pe_op op_fdiv (pv 3) (pv 1)) pa_nil))))
        (pss_one (ps_ret (pe_op op_mod (pv 3) (pv 1)))))
      pss_nil)
      (pss_cons (ps_set (i := 2) sc_w_draw.nd rfl (.inl rfl) (pe_op op_mod (pe_op op_mul (pe_op op_add (pe_op op_mod (pv 3) pe_int) (pe_op op_mul pe_int (pe_ix ix_list (pv 0) pe_int (fun _ _ => rfl)))) pe_int) pe_int))
      (pss_one (ps_ret (pe_op op_mod (pe_op op_mod (pe_op op_mul (pe_op op_mod (pe_op op_add (pe_op op_mul (pv 2) (pv 2)) (pe_op op_mul pe_int (pv 2))) pe_int) pe_int) pe_int) (pv 1))))))))), ?_⟩
    have ndc : d ≠ c := ne_of hd hc (lst_ne cells)
    refine ⟨.ref d, rfl, d, _, 2, .int sm, rfl, rfl, SqL.of hd, rfl, sm, 1, rfl, rfl, .ref d, rfl, d, _, 2, 2, rfl, rfl, hd, rfl, ?_⟩
    have hd1 : (upd H d (.lst [.ref c, .int n, .int (sm + 1)])) d = some (.lst [.ref c, .int n, .int (sm + 1)]) := upd_same
    have hc1 : (upd H d (.lst [.ref c, .int n, .int (sm + 1)])) c = some (.lst (cells.map V.int)) := by rw [upd_ne ndc.symm]; exact hc
    have f1 : Lc.Fr (MD d c) H (upd H d (.lst [.ref c, .int n, .int (sm + 1)])) := Lc.Fr.mut (.inl rfl)
    show tSeq _ _ _ _ (upd H d (.lst [.ref c, .int n, .int (sm + 1)]))
    generalize (upd H d (.lst [.ref c, .int n, .int (sm + 1)])) = H1 at hd1 hc1 f1 ⊢
    refine ⟨.ref d, rfl, d, _, 0, .ref c, rfl, rfl, SqL.of hd1, rfl, Nat.zero_le _, fun o no => ?_⟩
    have hd2 := Lc.same_new (o := .lst []) no _ _ hd1
    have hc2 := Lc.same_new (o := .lst []) no _ _ hc1
    have f2 := f1.trans (Lc.Fr.new (o := .lst []) no)
    have ho2 : (upd H1 o (.lst [])) o = some (.lst []) := upd_same
    generalize upd H1 o (.lst []) = H2 at hd2 hc2 f2 ho2 ⊢
    refine ⟨c, o, _, rfl, rfl, SqL.of hc2, SqL.of ho2, _, rfl, ?_⟩
    have lo64 : ∀ {a b : Int}, 0 < b → -(2 ^ 64) < a % b := fun {a b} h => Int.lt_of_lt_of_le (by decide) (Int.emod_nonneg _ (by omega))
    cases cells with
    | nil =>
      refine iteT ?_
      refine ⟨.ref d, rfl, d, _, 1, .int n, rfl, rfl, SqL.of hd2, rfl, .ref d, rfl, d, _, 2, .int (sm + 1), rfl, rfl, SqL.of hd2, rfl, 7919, sm + 1, rfl, rfl, .inl ⟨by decide, by decide⟩, _, _, rfl, rfl, _, _, rfl, rfl, .inr ⟨by decide, by decide⟩, _, _, rfl, rfl, (show (0 : Int) < 2147483647 by decide), ?_⟩
      have z1 : ((n + 7919 * (sm + 1)) * 48271) % 2147483647 < 2 ^ 64 := Int.lt_trans (Int.emod_lt_of_pos _ (by decide)) (by decide)
      exact ⟨_, rfl, _, rfl, _, _, rfl, rfl, .inl ⟨lo64 (by decide), z1⟩, .ref d, rfl, d, _, 2, .int (sm + 1), rfl, rfl, SqL.of hd2, rfl, 69621, sm + 1, rfl, rfl, .inl ⟨by decide, by decide⟩, _, _, rfl, rfl, _, _, rfl, rfl, (show (0 : Int) < 2147483629 by decide), _, _, rfl, rfl, .inr ⟨by decide, by decide⟩, _, _, rfl, rfl, (show (0 : Int) < 2147483647 by decide), .int m, rfl, _, m, rfl, rfl, hm, q H2 f2 ⟨hd2, hc2, by simp [drawF]⟩⟩
    | cons x r =>
      refine iteF ?_
      have hl' : r.length + 1 ≤ 63 := hl
      refine ⟨.ref d, rfl, d, _, 0, .ref c, rfl, rfl, SqL.of hd2, rfl, .inl ⟨rfl, _, SqL.of hc2⟩, c, _, 0, 0, .int x, rfl, rfl, hc2, (by decide), (by decide), ?_, rfl, ?_⟩
      · show seqIndex? 0 ((x :: r).map V.int).length = some 0
        rw [List.length_map, List.length_cons]
        simp [seqIndex?]
      rw [show (List.map V.int (x :: r)).eraseIdx 0 = r.map V.int from rfl]
      have hd3 : (upd H2 c (.lst (r.map V.int))) d = some (.lst [.ref c, .int n, .int (sm + 1)]) := by rw [upd_ne ndc]; exact hd2
      have hc3 : (upd H2 c (.lst (r.map V.int))) c = some (.lst (r.map V.int)) := upd_same
      have f3 : Lc.Fr (MD d c) H (upd H2 c (.lst (r.map V.int))) := f2.trans (Lc.Fr.mut (.inr rfl))
      generalize upd H2 c (.lst (r.map V.int)) = H3 at hd3 hc3 f3 ⊢
      refine ⟨.int x, rfl, 10, 18, rfl, rfl, ⟨by decide, by decide, by decide⟩, _, _, rfl, rfl, _, rfl, ite2 (fun e => ?_) (fun e => ?_)⟩
      · refine ⟨.ref d, rfl, d, _, 0, .ref c, rfl, rfl, SqL.of hd3, rfl, .inl ⟨rfl, _, SqL.of hc3⟩, .int x, rfl, .int m, rfl, x, m, rfl, rfl, ⟨hm, hm2⟩, c, _, 0, _, rfl, rfl, hc3, ?_, (by decide), (by decide), ?_⟩
        · rw [List.length_map]
          exact Lc.szl (by omega)
        · have hd4 : (upd H3 c (.lst ((x / m :: r).map V.int))) d = some (.lst [.ref c, .int n, .int (sm + 1)]) := by rw [upd_ne ndc]; exact hd3
          have f4 : Lc.Fr (MD d c) H (upd H3 c (.lst ((x / m :: r).map V.int))) := f3.trans (Lc.Fr.mut (.inr rfl))
          refine ⟨.int x, rfl, .int m, rfl, x, m, rfl, rfl, hm, ?_⟩
          have e9 : drawF (x :: r, n, sm) m = (x % m, (x / m :: r, n, sm + 1)) := by
            unfold drawF
            exact if_pos (of_decide_eq_true e)
          rw [e9] at q
          exact q (upd H3 c (.lst ((x / m :: r).map V.int))) f4 ⟨hd4, upd_same, hl⟩
      · refine ⟨.int x, rfl, x, _, rfl, rfl, (show (0 : Int) < 2147483647 by decide), .ref d, rfl, d, _, 2, .int (sm + 1), rfl, rfl, SqL.of hd3, rfl, 7919, sm + 1, rfl, rfl, .inl ⟨by decide, by decide⟩, _, _, rfl, rfl, _, _, rfl, rfl, .inr ⟨by decide, by decide⟩, _, _, rfl, rfl, (show (0 : Int) < 2147483647 by decide), ?_⟩
        have e9 : drawF (x :: r, n, sm) m = (((x % 2147483647 + 7919 * (sm + 1)) * 48271 % 2147483647 * ((x % 2147483647 + 7919 * (sm + 1)) * 48271 % 2147483647) + 69621 * ((x % 2147483647 + 7919 * (sm + 1)) * 48271 % 2147483647)) % 2147483629 * 16807 % 2147483647 % m, (r, n, sm + 1)) := by
          unfold drawF
          exact if_neg fun z => e (decide_eq_true z)
        rw [e9] at q
        have z1 : ((x % 2147483647 + 7919 * (sm + 1)) * 48271) % 2147483647 < 2 ^ 64 := Int.lt_trans (Int.emod_lt_of_pos _ (by decide)) (by decide)
        exact ⟨_, rfl, _, rfl, _, _, rfl, rfl, .inl ⟨lo64 (by decide), z1⟩, _, rfl, 69621, _, rfl, rfl, .inl ⟨by decide, by decide⟩, _, _, rfl, rfl, _, _, rfl, rfl, (show (0 : Int) < 2147483629 by decide), _, _, rfl, rfl, .inr ⟨by decide, by decide⟩, _, _, rfl, rfl, (show (0 : Int) < 2147483647 by decide), .int m, rfl, _, m, rfl, rfl, hm, q H3 f3 ⟨hd3, hc3, by show r.length ≤ 63; omega⟩⟩

/-- the draw by its function on data -/
theorem D_draw {d c : Addr} {k : Nat} {f : Addr} {fd : FuncData} (F : Fun K "_law_draw" "_law_draw" s_w_draw f fd) : FnOk P w K mg base CX0 (k + 1) f fd ["_law_deck_here", "_law_most"] (spD ⟨K, hdD d⟩ (Zd d c) 2 Fdraw) := by
  have h := ok_w_draw (P := P) (w := w) (K := K) (mg := mg) (base := base) (k := k) F
  refine ⟨fun vs H Q E h => ?_, fun A outer s H args us vs Q E hr he hb hv hsp => h.run A outer s H args us vs Q E hr he hb hv ?_⟩
  · obtain ⟨B, ds, s, d, s', h1, _, _, h2, _⟩ := h
    rw [h2.len, h1]
    rfl
  · obtain ⟨B, ds, s, x, s', h1, bd, mb, h2, R, hF, q⟩ := hsp
    unfold Fdraw at hF
    split at hF
    · split at hF
      · rename_i m hm
        cases hF
        simp only [Reps, Rep] at h2
        obtain ⟨v, r, rfl, ⟨a, n, rfl, e1, e2⟩, v2, r2, rfl, rfl, rfl⟩ := h2
        obtain ⟨_, rfl⟩ := e2
        exact ⟨a, c, s, m, rfl, R, hm.1, hm.2, fun H' f1 k1 => q _ H' f1 (by simp only [Rep]) k1⟩
      · cases hF
    · cases hF
end
end K23
set_option Elab.async false
set_option linter.all false
set_option maxRecDepth 100000
set_option maxHeartbeats 4000000
namespace K23
open PySem PySem.Spec PyProof.Rows L2 Dl Lw23
section
variable {P : Program} {w : World} {K : PySem.W.Frag} {mg : Str → Option Value} {base : Heap} {f : Addr} {fd : FuncData}
-- _law_vocabulary: slots _law_deck_here 0, _law_there 1, _law_great 2, _law_names 3, _law_k 4, _law_word 5, _law_kinds 6, _law_doings 7; own [3, 6, 7]
abbrev s_w_vocabulary : Stmt := topS 14
abbrev N_w_vocabulary : List Str := ["_law_deck_here", "_law_there", "_law_great", "_law_names", "_law_k", "_law_word", "_law_kinds", "_law_doings"]
theorem sc_w_vocabulary : FnScope N_w_vocabulary ["_law_deck_here"] (defScope s_w_vocabulary) := ⟨rfl, rfl, rfl, by decide +kernel, rfl, by decide +kernel, by decide +kernel⟩
theorem P_w_vocabulary {S : Type} {Z : Zk S} {hd : Nat → Addr → Prop} {k : Nat} (U : Fun K "_law_vocabulary" "_law_vocabulary" s_w_vocabulary f fd) {F_w_own : Fn S} {k_w_own : Nat} (C_w_own : Lc.Dn P w K mg base "_law_own" [] k_w_own (spD ⟨K, hd⟩ Z 0 F_w_own)) (h_w_own : k_w_own ≤ k) {F_w_draw : Fn S} {k_w_draw : Nat} (C_w_draw : Lc.Dn P w K mg base "_law_draw" ["_law_deck_here", "_law_most"] k_w_draw (spD ⟨K, hd⟩ Z 2 F_w_draw)) (h_w_draw : k_w_draw ≤ k) {F_w_signs : Fn S} {k_w_signs : Nat} (C_w_signs : Lc.Dn P w K mg base "_law_signs" ["_law_deck_here", "_law_many"] k_w_signs (spD ⟨K, hd⟩ Z 2 F_w_signs)) (h_w_signs : k_w_signs ≤ k) {F_w_unlike : Fn S} {k_w_unlike : Nat} (C_w_unlike : Lc.Dn P w K mg base "_law_unlike" ["_law_word", "_law_there", "_law_ahead"] k_w_unlike (spD ⟨K, hd⟩ Z 3 F_w_unlike)) (h_w_unlike : k_w_unlike ≤ k) (m_int : mg "int" = none) (m_range : mg "range" = none) (m_tuple : mg "tuple" = none) (m_sorted : mg "sorted" = none) :
    FnOk P w K mg base CX0 (k + 1) f fd ["_law_deck_here"] (spD ⟨K, hd⟩ Z 1 (K_w_vocabulary F_w_own F_w_draw F_w_signs F_w_unlike)) :=
  fn_ok (W := [3, 6, 7]) (F := B_w_vocabulary F_w_own F_w_draw F_w_signs F_w_unlike) U sc_w_vocabulary rfl rfl (by decide) (by decide) fun cdv A outer s H E hr => by
    unfold B_w_vocabulary
    exact (es_cons (es_set (i := 1) sc_w_vocabulary.nd rfl (.inl rfl) (ex_call0 C_w_own (hr.mono h_w_own) (by rfl)))
    (es_cons (es_set (i := 2) sc_w_vocabulary.nd rfl (.inl rfl) (ex_callTy call_int1 os_int (by rfl) m_int (by decide +kernel) (ea_cons (ex_cmp (od_eq hr.units) os_eq (ex_call C_w_draw (hr.mono h_w_draw) (by rfl) (ea_cons (ex_var 0) (ea_cons ex_int ea_nil))) ex_int (nomark _)) ea_nil)))
    (es_cons (es_own (i := 3) sc_w_vocabulary.nd rfl (.inl rfl) (nl_lst ea_nil))
    (es_cons (es_for PassesOwn.never rfl (ei_range1 (pi_range1 (by rfl) m_range (ea_cons (ex_call C_w_draw (hr.mono h_w_draw) (by rfl) (ea_cons (ex_var 0) (ea_cons (ex_ix ix_seq os_ix (ex_lst (ea_cons ex_int (ea_cons ex_int ea_nil))) (ex_var 2) (fun _ _ => rfl)) ea_nil))) ea_nil))) (eg_name (i := 4) sc_w_vocabulary.nd rfl (.inl rfl))
    (es_cons (es_set (i := 5) sc_w_vocabulary.nd rfl (.inl rfl) (ex_bin od_add os_add (ex_upper (ex_call C_w_signs (hr.mono h_w_signs) (by rfl) (ea_cons (ex_var 0) (ea_cons ex_int ea_nil)))) (ex_call C_w_signs (hr.mono h_w_signs) (by rfl) (ea_cons (ex_var 0) (ea_cons (ex_ix ix_seq os_ix (ex_lst (ea_cons ex_int (ea_cons ex_int (ea_cons ex_int (ea_cons ex_int ea_nil))))) (ex_call C_w_draw (hr.mono h_w_draw) (by rfl) (ea_cons (ex_var 0) (ea_cons ex_int ea_nil))) (fun _ _ => rfl)) ea_nil)))))
      (es_one (es_app2 (ps_expr (pe_bm PySem.F.plainAttrs_list PySem.F.slot_list_append PySem.F.type_list_append mt_append (pv 3) (pa_cons (ex_weak (ex_call C_w_unlike (hr.mono h_w_unlike) (by rfl) (ea_cons (ex_var 5) (ea_cons (ex_var 3) (ea_cons ex_str ea_nil))))) pa_nil)))))))
    (es_cons (es_own (i := 6) sc_w_vocabulary.nd rfl (.inl rfl) (nl_lst ea_nil))
    (es_cons (es_for PassesOwn.never rfl (ei_range1 (pi_range1 (by rfl) m_range (ea_cons (ex_call C_w_draw (hr.mono h_w_draw) (by rfl) (ea_cons (ex_var 0) (ea_cons (ex_ix ix_seq os_ix (ex_lst (ea_cons ex_int (ea_cons ex_int ea_nil))) (ex_var 2) (fun _ _ => rfl)) ea_nil))) ea_nil))) (eg_name (i := 4) sc_w_vocabulary.nd rfl (.inl rfl))
    (es_one (es_app2 (ps_expr (pe_bm PySem.F.plainAttrs_list PySem.F.slot_list_append PySem.F.type_list_append mt_append (pv 6) (pa_cons (ex_weak (ex_call C_w_unlike (hr.mono h_w_unlike) (by rfl) (ea_cons (ex_call C_w_signs (hr.mono h_w_signs) (by rfl) (ea_cons (ex_var 0) (ea_cons (ex_bin od_add os_add ex_int (ex_call C_w_draw (hr.mono h_w_draw) (by rfl) (ea_cons (ex_var 0) (ea_cons (ex_ix ix_seq os_ix (ex_lst (ea_cons ex_int (ea_cons ex_int ea_nil))) (ex_var 2) (fun _ _ => rfl)) ea_nil)))) ea_nil))) (ea_cons (ex_bin od_add os_add (ex_var 1) (ex_var 6)) (ea_cons ex_str ea_nil))))) pa_nil))))))
    (es_cons (es_own (i := 7) sc_w_vocabulary.nd rfl (.inl rfl) (nl_lst ea_nil))
    (es_cons (es_for PassesOwn.never rfl (ei_range1 (pi_range1 (by rfl) m_range (ea_cons (ex_call C_w_draw (hr.mono h_w_draw) (by rfl) (ea_cons (ex_var 0) (ea_cons (ex_ix ix_seq os_ix (ex_lst (ea_cons ex_int (ea_cons ex_int ea_nil))) (ex_var 2) (fun _ _ => rfl)) ea_nil))) ea_nil))) (eg_name (i := 4) sc_w_vocabulary.nd rfl (.inl rfl))
    (es_one (es_app2 (ps_expr (pe_bm PySem.F.plainAttrs_list PySem.F.slot_list_append PySem.F.type_list_append mt_append (pv 7) (pa_cons (ex_weak (ex_call C_w_unlike (hr.mono h_w_unlike) (by rfl) (ea_cons (ex_call C_w_signs (hr.mono h_w_signs) (by rfl) (ea_cons (ex_var 0) (ea_cons (ex_bin od_add os_add ex_int (ex_call C_w_draw (hr.mono h_w_draw) (by rfl) (ea_cons (ex_var 0) (ea_cons ex_int ea_nil)))) ea_nil))) (ea_cons (ex_bin od_add os_add (ex_bin od_add os_add (ex_var 1) (ex_var 6)) (ex_var 7)) (ea_cons ex_str ea_nil))))) pa_nil))))))
    (es_one (es_ret (ex_tup (ea_cons (ex_callTy od_tuple os_tuple (by rfl) m_tuple (by decide +kernel) (ea_cons (ex_nl (nl_callB cr_sortedS on_sorted (by rfl) m_sorted (by decide +kernel) (ea_cons (ex_var 3) ea_nil))) ea_nil)) (ea_cons (ex_callTy od_tuple os_tuple (by rfl) m_tuple (by decide +kernel) (ea_cons (ex_nl (nl_callB cr_sortedS on_sorted (by rfl) m_sorted (by decide +kernel) (ea_cons (ex_var 6) ea_nil))) ea_nil)) (ea_cons (ex_callTy od_tuple os_tuple (by rfl) m_tuple (by decide +kernel) (ea_cons (ex_nl (nl_callB cr_sortedS on_sorted (by rfl) m_sorted (by decide +kernel) (ea_cons (ex_var 7) ea_nil))) ea_nil)) ea_nil))))))))))))))

-- _law_total: slots _law_deck_here 0, _law_kinds 1, _law_parts 2, _law_kind 3; own [2]
abbrev s_w_total : Stmt := topS 15
abbrev N_w_total : List Str := ["_law_deck_here", "_law_kinds", "_law_parts", "_law_kind"]
theorem sc_w_total : FnScope N_w_total ["_law_deck_here", "_law_kinds"] (defScope s_w_total) := ⟨rfl, rfl, rfl, by decide +kernel, rfl, by decide +kernel, by decide +kernel⟩
theorem P_w_total {S : Type} {Z : Zk S} {hd : Nat → Addr → Prop} {k : Nat} (U : Fun K "_law_total" "_law_total" s_w_total f fd) {F_w_draw : Fn S} {k_w_draw : Nat} (C_w_draw : Lc.Dn P w K mg base "_law_draw" ["_law_deck_here", "_law_most"] k_w_draw (spD ⟨K, hd⟩ Z 2 F_w_draw)) (h_w_draw : k_w_draw ≤ k) (m_int : mg "int" = none) (m_tuple : mg "tuple" = none) :
    FnOk P w K mg base CX0 (k + 1) f fd ["_law_deck_here", "_law_kinds"] (spD ⟨K, hd⟩ Z 2 (K_w_total F_w_draw)) :=
  fn_ok (W := [2]) (F := B_w_total F_w_draw) U sc_w_total rfl rfl (by decide) (by decide) fun cdv A outer s H E hr => by
    unfold B_w_total
    exact (es_cons (es_own (i := 2) sc_w_total.nd rfl (.inl rfl) (nl_lst ea_nil))
    (es_cons (es_for PassesOwn.never rfl (ei_list (ex_var 1)) (eg_name (i := 3) sc_w_total.nd rfl (.inl rfl))
    (es_one (es_if (et_cmp (od_eq hr.units) os_eq (ex_call C_w_draw (hr.mono h_w_draw) (by rfl) (ea_cons (ex_var 0) (ea_cons ex_int ea_nil))) ex_int (nomark _) (fun _ _ _ h => pEq_bool h))
      (es_one (es_app2 (ps_expr (pe_bm PySem.F.plainAttrs_list PySem.F.slot_list_append PySem.F.type_list_append mt_append (pv 2) (pa_cons (ex_tup (ea_cons (ex_var 3) (ea_cons (ex_bin od_add os_add ex_int (ex_call C_w_draw (hr.mono h_w_draw) (by rfl) (ea_cons (ex_var 0) (ea_cons (ex_ix ix_seq os_ix (ex_lst (ea_cons ex_int (ea_cons ex_int ea_nil))) (ex_callTy call_int1 os_int (by rfl) m_int (by decide +kernel) (ea_cons (ex_cmp (od_eq hr.units) os_eq (ex_call C_w_draw (hr.mono h_w_draw) (by rfl) (ea_cons (ex_var 0) (ea_cons ex_int ea_nil))) ex_int (nomark _)) ea_nil)) (fun _ _ => rfl)) ea_nil)))) ea_nil))) pa_nil)))))
      es_nil)))
    (es_one (es_ret (ex_tup (ea_cons (ex_callTy od_tuple os_tuple (by rfl) m_tuple (by decide +kernel) (ea_cons (ex_var 2) ea_nil)) (ea_cons (ex_call C_w_draw (hr.mono h_w_draw) (by rfl) (ea_cons (ex_var 0) (ea_cons (ex_ix ix_seq os_ix (ex_lst (ea_cons ex_int (ea_cons ex_int (ea_cons (ex_bin op_pow os_pow ex_int ex_int) ea_nil)))) (ex_call C_w_draw (hr.mono h_w_draw) (by rfl) (ea_cons (ex_var 0) (ea_cons ex_int ea_nil))) (fun _ _ => rfl)) ea_nil))) ea_nil)))))))

-- _law_atom: slots _law_deck_here 0, _law_stock 1, _law_terms 2, _law_kinds 3, _law_counts 4, _law_doings 5, _law_letters 6, _law_way 7, _law_one 8, _law_other 9
abbrev s_w_atom : Stmt := topS 16
abbrev N_w_atom : List Str := ["_law_deck_here", "_law_stock", "_law_terms", "_law_kinds", "_law_counts", "_law_doings", "_law_letters", "_law_way", "_law_one", "_law_other"]
theorem sc_w_atom : FnScope N_w_atom ["_law_deck_here", "_law_stock", "_law_terms"] (defScope s_w_atom) := ⟨rfl, rfl, rfl, by decide +kernel, rfl, by decide +kernel, by decide +kernel⟩
theorem P_w_atom {S : Type} {Z : Zk S} {hd : Nat → Addr → Prop} {k : Nat} (U : Fun K "_law_atom" "_law_atom" s_w_atom f fd) {F_w_draw : Fn S} {k_w_draw : Nat} (C_w_draw : Lc.Dn P w K mg base "_law_draw" ["_law_deck_here", "_law_most"] k_w_draw (spD ⟨K, hd⟩ Z 2 F_w_draw)) (h_w_draw : k_w_draw ≤ k) {F_w_total : Fn S} {k_w_total : Nat} (C_w_total : Lc.Dn P w K mg base "_law_total" ["_law_deck_here", "_law_kinds"] k_w_total (spD ⟨K, hd⟩ Z 2 F_w_total)) (h_w_total : k_w_total ≤ k) (m_len : mg "len" = none) :
    FnOk P w K mg base CX0 (k + 1) f fd ["_law_deck_here", "_law_stock", "_law_terms"] (spD ⟨K, hd⟩ Z 3 (K_w_atom F_w_draw F_w_total)) :=
  fn_ok (W := []) (F := B_w_atom F_w_draw F_w_total) U sc_w_atom rfl rfl (by decide) (by decide) fun cdv A outer s H E hr => by
    unfold B_w_atom
    exact (es_cons (es_asgT (ps_asg (ex_var 1) (eg_tup rfl (egs_cons (eg_name (i := 3) sc_w_atom.nd rfl (.inl rfl)) (egs_cons (eg_name (i := 4) sc_w_atom.nd rfl (.inl rfl)) (egs_cons (eg_name (i := 5) sc_w_atom.nd rfl (.inl rfl)) (egs_cons (eg_name (i := 6) sc_w_atom.nd rfl (.inl rfl)) egs_nil)))) (fun _ _ _ h => glC (fun _ _ _ h => glC (fun _ _ _ h => glC (fun _ _ _ h => glC (fun _ _ _ h => gl0 h) h) h) h) h))))
    (es_cons (es_set (i := 7) sc_w_atom.nd rfl (.inl rfl) (ex_call C_w_draw (hr.mono h_w_draw) (by rfl) (ea_cons (ex_var 0) (ea_cons ex_int ea_nil))))
    (es_cons (es_if (PW.pt (ew_and (et_cmp (od_eq hr.units) os_eq (ex_var 7) ex_int (nomark _) (fun _ _ _ h => pEq_bool h)) (pw_and1 (et_cmp op_notN os_isNot (ex_var 4) ex_non (nomark _) (fun _ _ _ h => pIsNot_bool h)))))
    (es_one (es_ret (ex_tup (ea_cons ex_str (ea_cons (ex_call C_w_total (hr.mono h_w_total) (by rfl) (ea_cons (ex_var 0) (ea_cons (ex_var 4) ea_nil))) (ea_cons (ex_call C_w_total (hr.mono h_w_total) (by rfl) (ea_cons (ex_var 0) (ea_cons (ex_var 4) ea_nil))) ea_nil))))))
    es_nil)
    (es_cons (es_if (PW.pt (ew_or (et_cmp (od_eq hr.units) os_eq (ex_var 7) ex_int (nomark _) (fun _ _ _ h => pEq_bool h)) (pw_or1 (et_cmp (od_eq hr.units) os_eq (ex_var 2) (ex_lst ea_nil) (nomark _) (fun _ _ _ h => pEq_bool h)))))
    (es_one (es_ret (ex_tup (ea_cons ex_str ea_nil))))
    es_nil)
    (es_cons (es_set (i := 8) sc_w_atom.nd rfl (.inl rfl) (ex_ix ix_seq os_ix (ex_var 2) (ex_call C_w_draw (hr.mono h_w_draw) (by rfl) (ea_cons (ex_var 0) (ea_cons (ex_callB od_len os_len (by rfl) m_len (by decide +kernel) (ea_cons (ex_var 2) ea_nil)) ea_nil))) (fun _ _ => rfl)))
    (es_cons (es_set (i := 9) sc_w_atom.nd rfl (.inl rfl) (ex_ix ix_seq os_ix (ex_var 2) (ex_call C_w_draw (hr.mono h_w_draw) (by rfl) (ea_cons (ex_var 0) (ea_cons (ex_callB od_len os_len (by rfl) m_len (by decide +kernel) (ea_cons (ex_var 2) ea_nil)) ea_nil))) (fun _ _ => rfl)))
    (es_cons (es_if (PW.pt (ew_or (et_cmp (od_eq hr.units) os_eq (ex_var 7) ex_int (nomark _) (fun _ _ _ h => pEq_bool h)) (ew_or (PW.pt (ew_and (et_cmp (od_eq hr.units) os_eq (ex_var 7) ex_int (nomark _) (fun _ _ _ h => pEq_bool h)) (pw_and1 (et_cmp (od_eq hr.units) os_eq (ex_var 5) (ex_lst ea_nil) (nomark _) (fun _ _ _ h => pEq_bool h))))) (pw_or1 (PW.pt (ew_and (et_cmp (od_ne hr.units) os_ne (ex_var 7) ex_int (nomark _) (fun _ _ _ h => pNe_bool h)) (pw_and1 (et_cmp (od_eq hr.units) os_eq (ex_var 3) (ex_lst ea_nil) (nomark _) (fun _ _ _ h => pEq_bool h)))))))))
    (es_one (es_ret (ex_tup (ea_cons ex_str (ea_cons (ex_var 8) (ea_cons (ex_var 9) ea_nil))))))
    es_nil)
    (es_cons (es_if (et_cmp (od_eq hr.units) os_eq (ex_var 7) ex_int (nomark _) (fun _ _ _ h => pEq_bool h))
    (es_one (es_ret (ex_tup (ea_cons ex_str (ea_cons (ex_ix ix_seq os_ix (ex_var 5) (ex_call C_w_draw (hr.mono h_w_draw) (by rfl) (ea_cons (ex_var 0) (ea_cons (ex_callB od_len os_len (by rfl) m_len (by decide +kernel) (ea_cons (ex_var 5) ea_nil)) ea_nil))) (fun _ _ => rfl)) (ea_cons (ex_var 8) (ea_cons (ex_var 9) ea_nil)))))))
    es_nil)
    (es_one (es_ret (ex_tup (ea_cons ex_str (ea_cons (ex_var 8) (ea_cons (ex_ix ix_seq os_ix (ex_var 3) (ex_call C_w_draw (hr.mono h_w_draw) (by rfl) (ea_cons (ex_var 0) (ea_cons (ex_callB od_len os_len (by rfl) m_len (by decide +kernel) (ea_cons (ex_var 3) ea_nil)) ea_nil))) (fun _ _ => rfl)) ea_nil))))))))))))))

-- _law_form: slots _law_deck_here 0, _law_stock 1, _law_terms 2, _law_deep 3, _law_way 4, _law_one 5, _law_x 6
abbrev s_w_form : Stmt := topS 17
abbrev N_w_form : List Str := ["_law_deck_here", "_law_stock", "_law_terms", "_law_deep", "_law_way", "_law_one", "_law_x"]
theorem sc_w_form : FnScope N_w_form ["_law_deck_here", "_law_stock", "_law_terms", "_law_deep"] (defScope s_w_form) := ⟨rfl, rfl, rfl, by decide +kernel, rfl, by decide +kernel, by decide +kernel⟩
theorem P_w_form {S : Type} {Z : Zk S} {hd : Nat → Addr → Prop} {k : Nat} (U : Fun K "_law_form" "_law_form" s_w_form f fd) {F_w_draw : Fn S} {k_w_draw : Nat} (C_w_draw : Lc.Dn P w K mg base "_law_draw" ["_law_deck_here", "_law_most"] k_w_draw (spD ⟨K, hd⟩ Z 2 F_w_draw)) (h_w_draw : k_w_draw ≤ k) {F_w_atom : Fn S} {k_w_atom : Nat} (C_w_atom : Lc.Dn P w K mg base "_law_atom" ["_law_deck_here", "_law_stock", "_law_terms"] k_w_atom (spD ⟨K, hd⟩ Z 3 F_w_atom)) (h_w_atom : k_w_atom ≤ k) {F_w_form : Fn S} {k_w_form : Nat} (C_w_form : Lc.Dn P w K mg base "_law_form" ["_law_deck_here", "_law_stock", "_law_terms", "_law_deep"] k_w_form (spD ⟨K, hd⟩ Z 4 F_w_form)) (h_w_form : k_w_form ≤ k) (m_len : mg "len" = none) :
    FnOk P w K mg base CX0 (k + 1) f fd ["_law_deck_here", "_law_stock", "_law_terms", "_law_deep"] (spD ⟨K, hd⟩ Z 4 (K_w_form F_w_draw F_w_atom F_w_form)) :=
  fn_ok (W := []) (F := B_w_form F_w_draw F_w_atom F_w_form) U sc_w_form rfl rfl (by decide) (by decide) fun cdv A outer s H E hr => by
    unfold B_w_form
    exact (es_cons (es_set (i := 4) sc_w_form.nd rfl (.inl rfl) (ex_call C_w_draw (hr.mono h_w_draw) (by rfl) (ea_cons (ex_var 0) (ea_cons ex_int ea_nil))))
    (es_cons (es_if (PW.pt (ew_or (et_cmp (od_eq hr.units) os_eq (ex_var 3) ex_int (nomark _) (fun _ _ _ h => pEq_bool h)) (pw_or1 (et_cmp (od_lt hr.units) os_lt (ex_var 4) ex_int (nomark _) (fun _ _ _ h => pLt_bool h)))))
    (es_one (es_ret (ex_call C_w_atom (hr.mono h_w_atom) (by rfl) (ea_cons (ex_var 0) (ea_cons (ex_var 1) (ea_cons (ex_var 2) ea_nil))))))
    es_nil)
    (es_cons (es_if (et_cmp (od_eq hr.units) os_eq (ex_var 4) ex_int (nomark _) (fun _ _ _ h => pEq_bool h))
    (es_one (es_ret (ex_tup (ea_cons ex_str (ea_cons (ex_call C_w_form (hr.mono h_w_form) (by rfl) (ea_cons (ex_var 0) (ea_cons (ex_var 1) (ea_cons (ex_var 2) (ea_cons (ex_bin op_sub os_sub (ex_var 3) ex_int) ea_nil))))) ea_nil)))))
    es_nil)
    (es_cons (es_if (et_cmp (od_lt hr.units) os_lt (ex_var 4) ex_int (nomark _) (fun _ _ _ h => pLt_bool h))
    (es_cons (es_set (i := 5) sc_w_form.nd rfl (.inl rfl) (ex_call C_w_form (hr.mono h_w_form) (by rfl) (ea_cons (ex_var 0) (ea_cons (ex_var 1) (ea_cons (ex_var 2) (ea_cons (ex_bin op_sub os_sub (ex_var 3) ex_int) ea_nil))))))
      (es_one (es_ret (ex_tup (ea_cons (ex_ix ix_seq os_ix (ex_lst (ea_cons ex_str (ea_cons ex_str (ea_cons ex_str (ea_cons ex_str ea_nil))))) (ex_bin op_sub os_sub (ex_var 4) ex_int) (fun _ _ => rfl)) (ea_cons (ex_var 5) (ea_cons (ex_call C_w_form (hr.mono h_w_form) (by rfl) (ea_cons (ex_var 0) (ea_cons (ex_var 1) (ea_cons (ex_var 2) (ea_cons (ex_bin op_sub os_sub (ex_var 3) ex_int) ea_nil))))) ea_nil)))))))
    es_nil)
    (es_cons (es_set (i := 6) sc_w_form.nd rfl (.inl rfl) (ex_ix ix_seq os_ix (ex_ix ix_seq os_ix (ex_var 1) ex_int (fun _ _ => rfl)) (ex_call C_w_draw (hr.mono h_w_draw) (by rfl) (ea_cons (ex_var 0) (ea_cons (ex_callB od_len os_len (by rfl) m_len (by decide +kernel) (ea_cons (ex_ix ix_seq os_ix (ex_var 1) ex_int (fun _ _ => rfl)) ea_nil)) ea_nil))) (fun _ _ => rfl)))
    (es_one (es_ret (ex_tup (ea_cons (ex_ix ix_seq os_ix (ex_lst (ea_cons ex_str (ea_cons ex_str (ea_cons ex_str ea_nil)))) (ex_bin op_sub os_sub (ex_var 4) ex_int) (fun _ _ => rfl)) (ea_cons (ex_var 6) (ea_cons (ex_call C_w_form (hr.mono h_w_form) (by rfl) (ea_cons (ex_var 0) (ea_cons (ex_var 1) (ea_cons (ex_bin od_add os_add (ex_var 2) (ex_lst (ea_cons (ex_var 6) ea_nil))) (ea_cons (ex_bin op_sub os_sub (ex_var 3) ex_int) ea_nil))))) ea_nil)))))))))))

-- _law_reason: slots _law_deck_here 0, _law_count 1, _law_ones 2, _law_numbers_here 3, _law_few 4, _law_way 5, _law_k 6, _law_one 7; cells _law_count, _law_deck_here
abbrev s_w_reason : Stmt := topS 18
abbrev N_w_reason : List Str := ["_law_deck_here", "_law_count", "_law_ones", "_law_numbers_here", "_law_few", "_law_way", "_law_k", "_law_one"]
theorem sc_w_reason : FnScope N_w_reason ["_law_deck_here", "_law_count"] (defScope s_w_reason) := ⟨rfl, rfl, rfl, by decide +kernel, rfl, by decide +kernel, by decide +kernel⟩
theorem P_w_reason {S : Type} {Z : Zk S} {hd : Nat → Addr → Prop} {k : Nat} (U : Fun K "_law_reason" "_law_reason" s_w_reason f fd) {F_w_draw : Fn S} {k_w_draw : Nat} (C_w_draw : Lc.Dn P w K mg base "_law_draw" ["_law_deck_here", "_law_most"] k_w_draw (spD ⟨K, hd⟩ Z 2 F_w_draw)) (h_w_draw : k_w_draw ≤ k) {F_w_signs : Fn S} {k_w_signs : Nat} (C_w_signs : Lc.Dn P w K mg base "_law_signs" ["_law_deck_here", "_law_many"] k_w_signs (spD ⟨K, hd⟩ Z 2 F_w_signs)) (h_w_signs : k_w_signs ≤ k) (m_tuple : mg "tuple" = none) (m_range : mg "range" = none) (m_len : mg "len" = none) :
    FnOk P w K mg base CX0 (k + 1) f fd ["_law_deck_here", "_law_count"] (spD ⟨K, hd⟩ Z 2 (K_w_reason F_w_draw F_w_signs)) :=
  fn_ok (W := []) (F := B_w_reason F_w_draw F_w_signs) U sc_w_reason rfl rfl (by decide) (by decide) fun cdv A outer s H E hr => by
    unfold B_w_reason
    exact (es_cons (es_set (i := 2) sc_w_reason.nd rfl (.inl rfl) ex_str)
    (es_cons (es_set (i := 2) sc_w_reason.nd rfl (.inl rfl) (ex_nl (nl_split (ex_bin od_add os_add (ex_var 2) ex_str) ex_str)))
    (es_cons (es_set (i := 3) sc_w_reason.nd rfl (.inl rfl) (ex_callTy od_tuple os_tuple (by rfl) m_tuple (by decide +kernel) (ea_cons (ex_nl (nl_lc (own := [("_law_k", 6)]) (tt := tYes) rfl sc_w_reason.nd (ei_range1 (pi_range1 (by rfl) m_range (ea_cons ex_int ea_nil))) (blkOk_by (N := N_w_reason) (sc := defScope s_w_reason) (by decide +kernel)) (fun _ _ _ _ _ => (eg_name (i := 6) sc_w_reason.nd rfl (.inl rfl))) (fun _ _ _ _ _ => pts_nil) (fun _ _ _ h => yes_of h) (fun _ _ _ _ _ => (ex_bin od_add os_add ex_int (ex_call C_w_draw (hr.mono h_w_draw) (by rfl) (ea_cons (ex_var 0) (ea_cons (ex_var 1) ea_nil))))))) ea_nil)))
    (es_cons (es_set (i := 4) sc_w_reason.nd rfl (.inl rfl) (ex_slice od_sl os_sl (ex_var 3) eo_none (eo_some (ex_bin od_add os_add ex_int (ex_call C_w_draw (hr.mono h_w_draw) (by rfl) (ea_cons (ex_var 0) (ea_cons ex_int ea_nil)))))))
    (es_cons (es_set (i := 5) sc_w_reason.nd rfl (.inl rfl) (ex_call C_w_draw (hr.mono h_w_draw) (by rfl) (ea_cons (ex_var 0) (ea_cons ex_int ea_nil))))
    (es_cons (es_if (et_cmp (od_eq hr.units) os_eq (ex_var 5) ex_int (nomark _) (fun _ _ _ h => pEq_bool h))
    (es_one (es_ret (ex_tup (ea_cons (ex_ix ix_seq os_ix (ex_lst (ea_cons ex_str (ea_cons ex_str (ea_cons ex_str ea_nil)))) (ex_call C_w_draw (hr.mono h_w_draw) (by rfl) (ea_cons (ex_var 0) (ea_cons ex_int ea_nil))) (fun _ _ => rfl)) ea_nil))))
    es_nil)
    (es_cons (es_if (et_cmp (od_lt hr.units) os_lt (ex_var 5) ex_int (nomark _) (fun _ _ _ h => pLt_bool h))
    (es_one (es_ret (ex_tup (ea_cons (ex_ix ix_seq os_ix (ex_var 2) (ex_call C_w_draw (hr.mono h_w_draw) (by rfl) (ea_cons (ex_var 0) (ea_cons (ex_callB od_len os_len (by rfl) m_len (by decide +kernel) (ea_cons (ex_var 2) ea_nil)) ea_nil))) (fun _ _ => rfl)) (ea_cons (ex_ix ix_seq os_ix (ex_var 3) ex_int (fun _ _ => rfl)) ea_nil)))))
    es_nil)
    (es_cons (es_if (et_cmp (od_eq hr.units) os_eq (ex_var 5) ex_int (nomark _) (fun _ _ _ h => pEq_bool h))
    (es_one (es_ret (ex_bin od_add os_add (ex_tup (ea_cons (ex_ix ix_seq os_ix (ex_lst (ea_cons ex_str (ea_cons ex_str (ea_cons ex_str (ea_cons ex_str (ea_cons ex_str ea_nil)))))) (ex_call C_w_draw (hr.mono h_w_draw) (by rfl) (ea_cons (ex_var 0) (ea_cons ex_int ea_nil))) (fun _ _ => rfl)) ea_nil)) (ex_slice od_sl os_sl (ex_var 3) eo_none (eo_some ex_int)))))
    es_nil)
    (es_cons (es_if (et_cmp (od_eq hr.units) os_eq (ex_var 5) ex_int (nomark _) (fun _ _ _ h => pEq_bool h))
    (es_one (es_ret (ex_bin od_add os_add (ex_tup (ea_cons (ex_ix ix_seq os_ix (ex_lst (ea_cons ex_str (ea_cons ex_str ea_nil))) (ex_call C_w_draw (hr.mono h_w_draw) (by rfl) (ea_cons (ex_var 0) (ea_cons ex_int ea_nil))) (fun _ _ => rfl)) ea_nil)) (ex_var 3))))
    es_nil)
    (es_cons (es_if (et_cmp (od_eq hr.units) os_eq (ex_var 5) ex_int (nomark _) (fun _ _ _ h => pEq_bool h))
    (es_one (es_ret (ex_tup (ea_cons (ex_ix ix_seq os_ix (ex_lst (ea_cons ex_str (ea_cons ex_str ea_nil))) (ex_call C_w_draw (hr.mono h_w_draw) (by rfl) (ea_cons (ex_var 0) (ea_cons ex_int ea_nil))) (fun _ _ => rfl)) (ea_cons (ex_ix ix_seq os_ix (ex_var 3) ex_int (fun _ _ => rfl)) (ea_cons (ex_bin od_add os_add (ex_upper (ex_call C_w_signs (hr.mono h_w_signs) (by rfl) (ea_cons (ex_var 0) (ea_cons ex_int ea_nil)))) (ex_call C_w_signs (hr.mono h_w_signs) (by rfl) (ea_cons (ex_var 0) (ea_cons ex_int ea_nil)))) ea_nil))))))
    es_nil)
    (es_cons (es_if (et_cmp (od_eq hr.units) os_eq (ex_bin op_mod os_mod (ex_ix ix_seq os_ix (ex_var 3) ex_int (fun _ _ => rfl)) ex_int) ex_int (nomark _) (fun _ _ _ h => pEq_bool h))
    (es_one (es_ret (ex_tup (ea_cons ex_str (ea_cons (ex_var 4) ea_nil)))))
    es_nil)
    (es_cons (es_if (et_cmp (od_eq hr.units) os_eq (ex_bin op_mod os_mod (ex_ix ix_seq os_ix (ex_var 3) ex_int (fun _ _ => rfl)) ex_int) ex_int (nomark _) (fun _ _ _ h => pEq_bool h))
    (es_one (es_ret (ex_tup (ea_cons ex_str (ea_cons (ex_call C_w_signs (hr.mono h_w_signs) (by rfl) (ea_cons (ex_var 0) (ea_cons (ex_bin od_add os_add ex_int (ex_call C_w_draw (hr.mono h_w_draw) (by rfl) (ea_cons (ex_var 0) (ea_cons ex_int ea_nil)))) ea_nil))) (ea_cons (ex_slice od_sl os_sl (ex_var 4) (eo_some ex_int) eo_none) ea_nil))))))
    es_nil)
    (es_one (es_ret (ex_tup (ea_cons ex_str (ea_cons (ex_slice od_sl os_sl (ex_var 4) (eo_some ex_int) eo_none) (ea_cons (ex_callTy od_tuple os_tuple (by rfl) m_tuple (by decide +kernel) (ea_cons (ex_nl (nl_lc (own := [("_law_one", 7)]) (tt := tYes) rfl sc_w_reason.nd (ei_tup (ex_slice od_sl os_sl (ex_var 4) (eo_some ex_int) eo_none)) (blkOk_by (N := N_w_reason) (sc := defScope s_w_reason) (by decide +kernel)) (fun _ _ _ _ _ => (eg_name (i := 7) sc_w_reason.nd rfl (.inl rfl))) (fun _ _ _ _ _ => pts_nil) (fun _ _ _ h => yes_of h) (fun _ _ _ _ _ => (ex_call C_w_draw (hr.mono h_w_draw) (by rfl) (ea_cons (ex_var 0) (ea_cons (ex_bin op_pow os_pow ex_int ex_int) ea_nil)))))) ea_nil)) ea_nil))))))))))))))))))

-- _law_opener: slots _law_deck_here 0, _law_count 1, _law_name 2, _law_way 3
abbrev s_w_opener : Stmt := topS 19
abbrev N_w_opener : List Str := ["_law_deck_here", "_law_count", "_law_name", "_law_way"]
theorem sc_w_opener : FnScope N_w_opener ["_law_deck_here", "_law_count", "_law_name"] (defScope s_w_opener) := ⟨rfl, rfl, rfl, by decide +kernel, rfl, by decide +kernel, by decide +kernel⟩
theorem P_w_opener {S : Type} {Z : Zk S} {hd : Nat → Addr → Prop} {k : Nat} (U : Fun K "_law_opener" "_law_opener" s_w_opener f fd) {F_w_draw : Fn S} {k_w_draw : Nat} (C_w_draw : Lc.Dn P w K mg base "_law_draw" ["_law_deck_here", "_law_most"] k_w_draw (spD ⟨K, hd⟩ Z 2 F_w_draw)) (h_w_draw : k_w_draw ≤ k) :
    FnOk P w K mg base CX0 (k + 1) f fd ["_law_deck_here", "_law_count", "_law_name"] (spD ⟨K, hd⟩ Z 3 (K_w_opener F_w_draw)) :=
  fn_ok (W := []) (F := B_w_opener F_w_draw) U sc_w_opener rfl rfl (by decide) (by decide) fun cdv A outer s H E hr => by
    unfold B_w_opener
    exact (es_cons (es_set (i := 3) sc_w_opener.nd rfl (.inl rfl) (ex_call C_w_draw (hr.mono h_w_draw) (by rfl) (ea_cons (ex_var 0) (ea_cons ex_int ea_nil))))
    (es_cons (es_if (et_cmp (od_eq hr.units) os_eq (ex_var 3) ex_int (nomark _) (fun _ _ _ h => pEq_bool h))
    (es_one (es_ret (ex_tup (ea_cons (ex_tup (ea_cons ex_str ea_nil)) (ea_cons ex_non ea_nil)))))
    es_nil)
    (es_cons (es_if (et_cmp (od_eq hr.units) os_eq (ex_var 3) ex_int (nomark _) (fun _ _ _ h => pEq_bool h))
    (es_one (es_ret (ex_tup (ea_cons (ex_tup (ea_cons ex_str (ea_cons (ex_var 2) ea_nil))) (ea_cons (ex_var 2) ea_nil)))))
    es_nil)
    (es_one (es_ret (ex_tup (ea_cons (ex_tup (ea_cons ex_str (ea_cons (ex_var 2) (ea_cons (ex_bin od_add os_add ex_int (ex_call C_w_draw (hr.mono h_w_draw) (by rfl) (ea_cons (ex_var 0) (ea_cons (ex_var 1) ea_nil)))) ea_nil)))) (ea_cons (ex_var 2) ea_nil))))))))

-- _law_lines: slots _law_deck_here 0, _law_vocabulary_here 1, _law_meanings 2, _law_names 3, _law_kinds 4, _law_doings 5, _law_stock 6, _law_many 7, _law_lines_here 8, _law_boxes 9, _law_inside 10, _law_taken 11, _law_level 12, _law_k 13, _law_opens 14, _law_reason_here 15, _law_name 16, _law_there 17, _law_one 18; cells _law_level; own [8, 9, 11]
abbrev s_w_lines : Stmt := topS 20
abbrev N_w_lines : List Str := ["_law_deck_here", "_law_vocabulary_here", "_law_meanings", "_law_names", "_law_kinds", "_law_doings", "_law_stock", "_law_many", "_law_lines_here", "_law_boxes", "_law_inside", "_law_taken", "_law_level", "_law_k", "_law_opens", "_law_reason_here", "_law_name", "_law_there", "_law_one"]
theorem sc_w_lines : FnScope N_w_lines ["_law_deck_here", "_law_vocabulary_here", "_law_meanings"] (defScope s_w_lines) := ⟨rfl, rfl, rfl, by decide +kernel, rfl, by decide +kernel, by decide +kernel⟩
theorem P_w_lines {S : Type} {Z : Zk S} {hd : Nat → Addr → Prop} {k : Nat} (U : Fun K "_law_lines" "_law_lines" s_w_lines f fd) {F_w_draw : Fn S} {k_w_draw : Nat} (C_w_draw : Lc.Dn P w K mg base "_law_draw" ["_law_deck_here", "_law_most"] k_w_draw (spD ⟨K, hd⟩ Z 2 F_w_draw)) (h_w_draw : k_w_draw ≤ k) {F_w_unlike : Fn S} {k_w_unlike : Nat} (C_w_unlike : Lc.Dn P w K mg base "_law_unlike" ["_law_word", "_law_there", "_law_ahead"] k_w_unlike (spD ⟨K, hd⟩ Z 3 F_w_unlike)) (h_w_unlike : k_w_unlike ≤ k) {F_w_opener : Fn S} {k_w_opener : Nat} (C_w_opener : Lc.Dn P w K mg base "_law_opener" ["_law_deck_here", "_law_count", "_law_name"] k_w_opener (spD ⟨K, hd⟩ Z 3 F_w_opener)) (h_w_opener : k_w_opener ≤ k) {F_w_reason : Fn S} {k_w_reason : Nat} (C_w_reason : Lc.Dn P w K mg base "_law_reason" ["_law_deck_here", "_law_count"] k_w_reason (spD ⟨K, hd⟩ Z 2 F_w_reason)) (h_w_reason : k_w_reason ≤ k) {F_w_form : Fn S} {k_w_form : Nat} (C_w_form : Lc.Dn P w K mg base "_law_form" ["_law_deck_here", "_law_stock", "_law_terms", "_law_deep"] k_w_form (spD ⟨K, hd⟩ Z 4 F_w_form)) (h_w_form : k_w_form ≤ k) (m_list : mg "list" = none) (m_range : mg "range" = none) (m_tuple : mg "tuple" = none) :
    FnOk P w K mg base CX0 (k + 1) f fd ["_law_deck_here", "_law_vocabulary_here", "_law_meanings"] (spD ⟨K, hd⟩ Z 3 (K_w_lines F_w_draw F_w_unlike F_w_opener F_w_reason F_w_form)) :=
  fn_ok (W := [8, 9, 11]) (F := B_w_lines F_w_draw F_w_unlike F_w_opener F_w_reason F_w_form) U sc_w_lines rfl rfl (by decide) (by decide) fun cdv A outer s H E hr => by
    unfold B_w_lines
    exact (es_cons (es_asgT (ps_asg (ex_var 1) (eg_tup rfl (egs_cons (eg_name (i := 3) sc_w_lines.nd rfl (.inl rfl)) (egs_cons (eg_name (i := 4) sc_w_lines.nd rfl (.inl rfl)) (egs_cons (eg_name (i := 5) sc_w_lines.nd rfl (.inl rfl)) egs_nil))) (fun _ _ _ h => glC (fun _ _ _ h => glC (fun _ _ _ h => glC (fun _ _ _ h => gl0 h) h) h) h))))
    (es_cons (es_set (i := 6) sc_w_lines.nd rfl (.inl rfl) (ex_tup (ea_cons (ex_bin od_add os_add (ex_nl (nl_callTy od_list on_list (by rfl) m_list (by decide +kernel) (ea_cons (ex_var 4) ea_nil))) (ex_nl (nl_lc (own := [("_law_one", 18)]) (tt := tYes) rfl sc_w_lines.nd (ei_tup (ex_var 2)) (blkOk_by (N := N_w_lines) (sc := defScope s_w_lines) (by decide +kernel)) (fun _ _ _ _ _ => (eg_name (i := 18) sc_w_lines.nd rfl (.inl rfl))) (fun _ _ _ _ _ => pts_nil) (fun _ _ _ h => yes_of h) (fun _ _ _ _ _ => (ex_ix ix_seq os_ix (ex_var 18) ex_int (fun _ _ => rfl)))))) (ea_cons (ex_nl (nl_callTy od_list on_list (by rfl) m_list (by decide +kernel) (ea_cons (ex_var 4) ea_nil))) (ea_cons (ex_nl (nl_callTy od_list on_list (by rfl) m_list (by decide +kernel) (ea_cons (ex_var 5) ea_nil))) (ea_cons (ex_bin od_add os_add (ex_nl (nl_callTy (Lc.call_listS rfl) on_listS (by rfl) m_list (by decide +kernel) (ea_cons ex_str ea_nil))) (ex_lst (ea_cons ex_str (ea_cons ex_str ea_nil)))) ea_nil))))))
    (es_cons (es_set (i := 7) sc_w_lines.nd rfl (.inl rfl) (ex_call C_w_draw (hr.mono h_w_draw) (by rfl) (ea_cons (ex_var 0) (ea_cons (ex_ix ix_seq os_ix (ex_lst (ea_cons ex_int (ea_cons ex_int (ea_cons ex_int (ea_cons ex_int ea_nil))))) (ex_call C_w_draw (hr.mono h_w_draw) (by rfl) (ea_cons (ex_var 0) (ea_cons ex_int ea_nil))) (fun _ _ => rfl)) ea_nil))))
    (es_cons (es_own (i := 8) sc_w_lines.nd rfl (.inl rfl) (nl_lst ea_nil))
    (es_cons (es_own (i := 9) sc_w_lines.nd rfl (.inl rfl) (nl_lst ea_nil))
    (es_cons (es_set (i := 10) sc_w_lines.nd rfl (.inl rfl) (ex_lst ea_nil))
    (es_cons (es_own (i := 11) sc_w_lines.nd rfl (.inl rfl) (nl_callTy od_list on_list (by rfl) m_list (by decide +kernel) (ea_cons (ex_var 3) ea_nil)))
    (es_cons (es_set (i := 12) sc_w_lines.nd rfl (.inr rfl) ex_int)
    (es_cons (es_for PassesOwn.never rfl (ei_range2 (pi_range2 (by rfl) m_range (ea_cons ex_int (ea_cons (ex_bin od_add os_add (ex_var 7) ex_int) ea_nil)))) (eg_name (i := 13) sc_w_lines.nd rfl (.inl rfl))
    (es_cons (es_set (i := 14) sc_w_lines.nd rfl (.inl rfl) (ex_and (ex_cmp (od_lt hr.units) os_lt (ex_var 12) ex_int (nomark _)) (ex_one (ex_cmp (od_eq hr.units) os_eq (ex_call C_w_draw (hr.mono h_w_draw) (by rfl) (ea_cons (ex_var 0) (ea_cons ex_int ea_nil))) ex_int (nomark _)))))
      (es_cons (es_if (et_val (ex_var 14))
      (es_cons (es_set (i := 12) sc_w_lines.nd rfl (.inr rfl) (ex_ix ix_seq os_ix (ex_lst (ea_cons (ex_bin od_add os_add (ex_var 12) ex_int) (ea_cons (ex_bin od_add os_add ex_int (ex_call C_w_draw (hr.mono h_w_draw) (by rfl) (ea_cons (ex_var 0) (ea_cons (ex_bin od_add os_add (ex_var 12) ex_int) ea_nil)))) ea_nil))) (ex_call C_w_draw (hr.mono h_w_draw) (by rfl) (ea_cons (ex_var 0) (ea_cons ex_int ea_nil))) (fun _ _ => rfl)))
        (es_cons (es_app2 (ps_expr (pe_bm PySem.F.plainAttrs_list PySem.F.slot_list_append PySem.F.type_list_append mt_append (pv 11) (pa_cons (ex_weak (ex_call C_w_unlike (hr.mono h_w_unlike) (by rfl) (ea_cons (ex_bin od_add os_add (ex_bin od_add os_add ex_str (ex_ix ix_seq os_ix ex_str (ex_bin op_mod os_mod (ex_var 13) ex_int) (fun _ _ => rfl))) (ex_ix ix_seq os_ix ex_str (ex_bin op_fdivW os_fdiv (ex_var 13) ex_int) (fun _ _ => rfl))) (ea_cons (ex_var 11) (ea_cons ex_str ea_nil))))) pa_nil))))
        (es_cons (es_asgT (ps_asg (ex_weak (ex_call C_w_opener (hr.mono h_w_opener) (by rfl) (ea_cons (ex_var 0) (ea_cons (ex_bin od_add os_add (ex_var 7) ex_int) (ea_cons (ex_ix ix_seq os_ix (ex_var 11) (ex_un un_neg us_neg ex_int) (fun _ _ => rfl)) ea_nil))))) (eg_tup rfl (egs_cons (eg_name (i := 15) sc_w_lines.nd rfl (.inl rfl)) (egs_cons (eg_name (i := 16) sc_w_lines.nd rfl (.inl rfl)) egs_nil)) (fun _ _ _ h => glC (fun _ _ _ h => glC (fun _ _ _ h => gl0 h) h) h))))
        (es_one (es_set (i := 10) sc_w_lines.nd rfl (.inl rfl) (ex_bin od_add os_add (ex_nl (nl_lc (own := [("_law_one", 18)]) rfl sc_w_lines.nd (ei_list (ex_var 10)) (blkOk_by (N := N_w_lines) (sc := defScope s_w_lines) (by decide +kernel)) (fun _ _ _ _ _ => (eg_name (i := 18) sc_w_lines.nd rfl (.inl rfl))) (fun _ _ _ _ _ => pts_one (et_cmp (od_lt hr.units) os_lt (ex_ix ix_seq os_ix (ex_var 18) ex_int (fun _ _ => rfl)) (ex_var 12) (nomark _) (fun _ _ _ h => pLt_bool h))) (fun _ _ _ h => h) (fun _ _ _ _ _ => (ex_var 18)))) (ex_lst (ea_cons (ex_tup (ea_cons (ex_var 12) (ea_cons (ex_var 13) (ea_cons (ex_var 16) ea_nil)))) ea_nil))))))))
      (es_cons (es_set (i := 12) sc_w_lines.nd rfl (.inr rfl) (ex_ix ix_seq os_ix (ex_lst (ea_cons (ex_var 12) (ea_cons (ex_var 12) (ea_cons (ex_call C_w_draw (hr.mono h_w_draw) (by rfl) (ea_cons (ex_var 0) (ea_cons (ex_bin od_add os_add (ex_var 12) ex_int) ea_nil))) ea_nil)))) (ex_call C_w_draw (hr.mono h_w_draw) (by rfl) (ea_cons (ex_var 0) (ea_cons ex_int ea_nil))) (fun _ _ => rfl)))
        (es_cons (es_set (i := 15) sc_w_lines.nd rfl (.inl rfl) (ex_call C_w_reason (hr.mono h_w_reason) (by rfl) (ea_cons (ex_var 0) (ea_cons (ex_bin od_add os_add (ex_var 7) ex_int) ea_nil))))
        (es_one (es_setNl (ps_setLc (i := 10) (own := [("_law_one", 18)]) rfl sc_w_lines.nd rfl rfl (sw_true rfl rfl rfl (by decide +kernel)) (ei_list (ex_var 10)) (blkOk_by (N := N_w_lines) (sc := defScope s_w_lines) (by decide +kernel)) (fun _ _ _ _ _ => (eg_name (i := 18) sc_w_lines.nd rfl (.inl rfl))) (fun _ _ _ _ _ => pts_one (et_cmp op_le os_le (ex_ix ix_seq os_ix (ex_var 18) ex_int (fun _ _ => rfl)) (ex_var 12) (nomark _) (fun _ _ _ h => pIB_bool h))) (fun _ _ _ _ _ => (ex_var 18))) (fun _ _ _ h => nl_lcT (hu := by decide) (fun _ _ _ h => h) h))))))
      (es_cons (es_set (i := 17) sc_w_lines.nd rfl (.inl rfl) (ex_bin od_add os_add (ex_nl (nl_callTy od_list on_list (by rfl) m_list (by decide +kernel) (ea_cons (ex_var 3) ea_nil))) (ex_nl (nl_lc (own := [("_law_one", 18)]) rfl sc_w_lines.nd (ei_list (ex_var 10)) (blkOk_by (N := N_w_lines) (sc := defScope s_w_lines) (by decide +kernel)) (fun _ _ _ _ _ => (eg_name (i := 18) sc_w_lines.nd rfl (.inl rfl))) (fun _ _ _ _ _ => pts_one (et_cmp op_notN os_isNot (ex_ix ix_seq os_ix (ex_var 18) ex_int (fun _ _ => rfl)) ex_non (nomark _) (fun _ _ _ h => pIsNot_bool h))) (fun _ _ _ h => h) (fun _ _ _ _ _ => (ex_ix ix_seq os_ix (ex_var 18) ex_int (fun _ _ => rfl)))))))
      (es_cons (es_app2 (ps_expr (pe_bm PySem.F.plainAttrs_list PySem.F.slot_list_append PySem.F.type_list_append mt_append (pv 8) (pa_cons (ex_tup (ea_cons (ex_var 12) (ea_cons (ex_call C_w_form (hr.mono h_w_form) (by rfl) (ea_cons (ex_var 0) (ea_cons (ex_var 6) (ea_cons (ex_var 17) (ea_cons ex_int ea_nil))))) (ea_cons (ex_var 15) ea_nil)))) pa_nil))))
      (es_one (es_app2 (ps_expr (pe_bm PySem.F.plainAttrs_list PySem.F.slot_list_append PySem.F.type_list_append mt_append (pv 9) (pa_cons (ex_callTy od_tuple os_tuple (by rfl) m_tuple (by decide +kernel) (ea_cons (ex_var 10) ea_nil)) pa_nil))))))))))
    (es_cons (es_app2 (ps_expr (pe_bm PySem.F.plainAttrs_list PySem.F.slot_list_append PySem.F.type_list_append mt_append (pv 8) (pa_cons (ex_tup (ea_cons ex_int (ea_cons (ex_call C_w_form (hr.mono h_w_form) (by rfl) (ea_cons (ex_var 0) (ea_cons (ex_var 6) (ea_cons (ex_nl (nl_callTy od_list on_list (by rfl) m_list (by decide +kernel) (ea_cons (ex_var 3) ea_nil))) (ea_cons ex_int ea_nil))))) (ea_cons (ex_call C_w_reason (hr.mono h_w_reason) (by rfl) (ea_cons (ex_var 0) (ea_cons (ex_bin od_add os_add (ex_var 7) ex_int) ea_nil))) ea_nil)))) pa_nil))))
    (es_one (es_ret (ex_tup (ea_cons (ex_callTy od_tuple os_tuple (by rfl) m_tuple (by decide +kernel) (ea_cons (ex_var 8) ea_nil)) (ea_cons (ex_bin od_add os_add (ex_var 9) (ex_lst (ea_cons (ex_tup ea_nil) ea_nil))) ea_nil)))))))))))))))

end
end K23
set_option Elab.async false
set_option linter.all false
set_option maxRecDepth 100000
set_option maxHeartbeats 4000000
namespace K23
open PySem PySem.Spec PyProof.Rows L2 Dl Lw23
section
variable {P : Program} {w : World} {K : PySem.W.Frag} {mg : Str → Option Value} {base : Heap} {f : Addr} {fd : FuncData}
-- law: slots _law_script 0, _law_deck_here 1, _law_lines_here 2, _law_boxes 3, _law_k 4, _law_due 5, _law_found 6, _law_box 7, _law_number 8, _law_m 9; cells _law_boxes, _law_k
abbrev s_law : Stmt := topS 24
abbrev N_law : List Str := ["_law_script", "_law_deck_here", "_law_lines_here", "_law_boxes", "_law_k", "_law_due", "_law_found", "_law_box", "_law_number", "_law_m"]
theorem sc_law : FnScope N_law ["_law_script"] (defScope s_law) := ⟨rfl, rfl, rfl, by decide +kernel, rfl, by decide +kernel, by decide +kernel⟩
def B_law {S : Type} (F_w_lines : Fn S) (F_w_vocabulary : Fn S) (F_w_numbers : Fn S) (F_openers_at : Fn S) (F_w_whole : Fn S) (F_box_of : Fn S) (F_w_last : Fn S) : Sv S :=
    (sSeq (sAsg (cCall 3 F_w_lines (aCons (cVar 1) (aCons (cCall 1 F_w_vocabulary (aCons (cVar 1) aNil)) (aCons (cN pTup aNil) aNil)))) (gTp (gC (gNm 2) (gC (gNm 3) gN0))))
    (sSeq (sFor (iOfA pR2 (aCons (cK (.int 1)) (aCons (cB pAdd (cN pLen (aCons (cVar 2) aNil)) (cK (.int 1))) aNil))) (gNm 4)
    (sSeq (sSet 5 (cCall 1 F_w_numbers (aCons (cB pIx (cVar 3) (cB pSub (cVar 4) (cK (.int 1)))) aNil)))
      (sSeq (sSet 6 (cCall 2 F_openers_at (aCons (cVar 2) (aCons (cVar 4) aNil))))
      (sSeq (sIf (qOr (qNot (qT (cU (pIsi "tuple") (cVar 6)))) (qOr (qT (cB pNe (cVar 6) (cVar 5))) (qNot (qT (cN pAll (aCons (cNl (lcF (iOf asT (cVar 6)) (gNm 8) qYes (cCall 1 F_w_whole (aCons (cVar 8) aNil)) [8])) aNil))))))
      (sRet (cK (.bool false)))
      sNx)
      (sSeq (sIf (qOr (qT (cB pEq (cVar 5) (cN pTup aNil))) (qT (cB pNe (cB pIx (cVar 5) (cU pNeg (cK (.int 1)))) (cVar 4))))
      sCt
      sNx)
      (sSeq (sSet 7 (cCall 2 F_box_of (aCons (cVar 2) (aCons (cVar 4) aNil))))
      (sSeq (sIf (qOr (qNot (qT (cU (pIsi "tuple") (cVar 7)))) (qOr (qT (cB pNe (cVar 7) (cN pTup (aCons (cVar 4) (aCons (cCall 2 F_w_last (aCons (cVar 3) (aCons (cVar 4) aNil))) aNil))))) (qNot (qT (cCall 1 F_w_whole (aCons (cB pAdd (cB pIx (cVar 7) (cK (.int 0))) (cB pIx (cVar 7) (cK (.int 1)))) aNil))))))
      (sRet (cK (.bool false)))
      sNx)
      (sIf (qNot (qT (cN pAll (aCons (cNl (lcF (iOfA pR2 (aCons (cB pIx (cVar 7) (cK (.int 0))) (aCons (cB pAdd (cB pIx (cVar 7) (cK (.int 1))) (cK (.int 1))) aNil))) (gNm 9) qYes (cB pIn (cVar 4) (cCall 1 F_w_numbers (aCons (cB pIx (cVar 3) (cB pSub (cVar 9) (cK (.int 1)))) aNil))) [9])) aNil))))
      (sRet (cK (.bool false)))
      sNx))))))))
    (sRet (cK (.bool true)))))
theorem P_law {S : Type} {Z : Zk S} {hd : Nat → Addr → Prop} {k : Nat} {F_w_lines : Fn S} {k_w_lines : Nat} (C_w_lines : Lc.Dn P w K mg base "_law_lines" ["_law_deck_here", "_law_vocabulary_here", "_law_meanings"] k_w_lines (spD ⟨K, hd⟩ Z 3 F_w_lines)) (h_w_lines : k_w_lines ≤ k) {F_w_vocabulary : Fn S} {k_w_vocabulary : Nat} (C_w_vocabulary : Lc.Dn P w K mg base "_law_vocabulary" ["_law_deck_here"] k_w_vocabulary (spD ⟨K, hd⟩ Z 1 F_w_vocabulary)) (h_w_vocabulary : k_w_vocabulary ≤ k) {F_w_numbers : Fn S} {k_w_numbers : Nat} (C_w_numbers : Lc.Dn P w K mg base "_law_numbers" ["_law_inside"] k_w_numbers (spD ⟨K, hd⟩ Z 1 F_w_numbers)) (h_w_numbers : k_w_numbers ≤ k) {F_openers_at : Fn S} {k_openers_at : Nat} (C_openers_at : Lc.Dn P w K mg base "openers_at" ["lines", "k"] k_openers_at (spD ⟨K, hd⟩ Z 2 F_openers_at)) (h_openers_at : k_openers_at ≤ k) {F_w_whole : Fn S} {k_w_whole : Nat} (C_w_whole : Lc.Dn P w K mg base "_law_whole" ["_law_found"] k_w_whole (spD ⟨K, hd⟩ Z 1 F_w_whole)) (h_w_whole : k_w_whole ≤ k) {F_box_of : Fn S} {k_box_of : Nat} (C_box_of : Lc.Dn P w K mg base "box_of" ["lines", "i"] k_box_of (spD ⟨K, hd⟩ Z 2 F_box_of)) (h_box_of : k_box_of ≤ k) {F_w_last : Fn S} {k_w_last : Nat} (C_w_last : Lc.Dn P w K mg base "_law_last" ["_law_boxes", "_law_i"] k_w_last (spD ⟨K, hd⟩ Z 2 F_w_last)) (h_w_last : k_w_last ≤ k) (m_range : mg "range" = none) (m_len : mg "len" = none) (m_all : mg "all" = none) (m_isinstance : mg "isinstance" = none) (m_tuple : mg "tuple" = none) {cdv : Value} {A : Around} {outer : List Env} {s : Shared} {H : Hp} {E : XK} (hr : Room k (A.deeper (envOfC "law" (defScope s_law) s.heap.objs.size f cdv))) :
    PSs (cxOf CX0 P w K mg base N_law "law" (defScope s_law) f cdv A outer s H E).nox ((defBody s_law).drop 1) (tSt ⟨K, hd⟩ Z [] (B_law F_w_lines F_w_vocabulary F_w_numbers F_openers_at F_w_whole F_box_of F_w_last)) := by
    unfold B_law
    exact (es_cons (es_asgT (ps_asg (ex_call C_w_lines (hr.mono h_w_lines) (by rfl) (ea_cons (ex_var 1) (ea_cons (ex_call C_w_vocabulary (hr.mono h_w_vocabulary) (by rfl) (ea_cons (ex_var 1) ea_nil)) (ea_cons (ex_tup ea_nil) ea_nil)))) (eg_tup rfl (egs_cons (eg_name (i := 2) sc_law.nd rfl (.inl rfl)) (egs_cons (eg_name (i := 3) sc_law.nd rfl (.inr rfl)) egs_nil)) (fun _ _ _ h => glC (fun _ _ _ h => glC (fun _ _ _ h => gl0 h) h) h))))
    (es_cons (es_for PassesOwn.never rfl (ei_range2 (pi_range2 (by rfl) m_range (ea_cons ex_int (ea_cons (ex_bin od_add os_add (ex_callB od_len os_len (by rfl) m_len (by decide +kernel) (ea_cons (ex_var 2) ea_nil)) ex_int) ea_nil)))) (eg_name (i := 4) sc_law.nd rfl (.inr rfl))
    (es_cons (es_set (i := 5) sc_law.nd rfl (.inl rfl) (ex_call C_w_numbers (hr.mono h_w_numbers) (by rfl) (ea_cons (ex_ix ix_seq os_ix (ex_var 3) (ex_bin op_sub os_sub (ex_var 4) ex_int) (fun _ _ => rfl)) ea_nil)))
      (es_cons (es_set (i := 6) sc_law.nd rfl (.inl rfl) (ex_call C_openers_at (hr.mono h_openers_at) (by rfl) (ea_cons (ex_var 2) (ea_cons (ex_var 4) ea_nil))))
      (es_cons (es_if (PW.pt (ew_or (et_not (et_val (ex_isi (by rfl) m_isinstance (ex_var 6) (pe_bltn (v := .ty "tuple") (by rfl) m_tuple (by decide +kernel) rfl)))) (ew_or (et_cmp (od_ne hr.units) os_ne (ex_var 6) (ex_var 5) (nomark _) (fun _ _ _ h => pNe_bool h)) (pw_or1 (et_not (et_val (ex_callB (cr_all rfl) os_all (by rfl) m_all (by decide +kernel) (ea_cons (ex_nl (nl_lc (own := [("_law_number", 8)]) (tt := tYes) rfl sc_law.nd (ei_tup (ex_var 6)) (blkOk_by (N := N_law) (sc := defScope s_law) (by decide +kernel)) (fun _ _ _ _ _ => (eg_name (i := 8) sc_law.nd rfl (.inl rfl))) (fun _ _ _ _ _ => pts_nil) (fun _ _ _ h => yes_of h) (fun _ _ _ _ _ => (ex_call C_w_whole (hr.mono h_w_whole) (by rfl) (ea_cons (ex_var 8) ea_nil))))) ea_nil))))))))
      (es_one (es_ret ex_bl))
      es_nil)
      (es_cons (es_if (PW.pt (ew_or (et_cmp (od_eq hr.units) os_eq (ex_var 5) (ex_tup ea_nil) (nomark _) (fun _ _ _ h => pEq_bool h)) (pw_or1 (et_cmp (od_ne hr.units) os_ne (ex_ix ix_seq os_ix (ex_var 5) (ex_un un_neg us_neg ex_int) (fun _ _ => rfl)) (ex_var 4) (nomark _) (fun _ _ _ h => pNe_bool h)))))
      (es_one es_continue)
      es_nil)
      (es_cons (es_set (i := 7) sc_law.nd rfl (.inl rfl) (ex_call C_box_of (hr.mono h_box_of) (by rfl) (ea_cons (ex_var 2) (ea_cons (ex_var 4) ea_nil))))
      (es_cons (es_if (PW.pt (ew_or (et_not (et_val (ex_isi (by rfl) m_isinstance (ex_var 7) (pe_bltn (v := .ty "tuple") (by rfl) m_tuple (by decide +kernel) rfl)))) (ew_or (et_cmp (od_ne hr.units) os_ne (ex_var 7) (ex_tup (ea_cons (ex_var 4) (ea_cons (ex_call C_w_last (hr.mono h_w_last) (by rfl) (ea_cons (ex_var 3) (ea_cons (ex_var 4) ea_nil))) ea_nil))) (nomark _) (fun _ _ _ h => pNe_bool h)) (pw_or1 (et_not (et_val (ex_call C_w_whole (hr.mono h_w_whole) (by rfl) (ea_cons (ex_bin od_add os_add (ex_ix ix_seq os_ix (ex_var 7) ex_int (fun _ _ => rfl)) (ex_ix ix_seq os_ix (ex_var 7) ex_int (fun _ _ => rfl))) ea_nil))))))))
      (es_one (es_ret ex_bl))
      es_nil)
      (es_one (es_if (et_not (et_val (ex_callB (cr_all rfl) os_all (by rfl) m_all (by decide +kernel) (ea_cons (ex_nl (nl_lc (own := [("_law_m", 9)]) (tt := tYes) rfl sc_law.nd (ei_range2 (pi_range2 (by rfl) m_range (ea_cons (ex_ix ix_seq os_ix (ex_var 7) ex_int (fun _ _ => rfl)) (ea_cons (ex_bin od_add os_add (ex_ix ix_seq os_ix (ex_var 7) ex_int (fun _ _ => rfl)) ex_int) ea_nil)))) (blkOk_by (N := N_law) (sc := defScope s_law) (by decide +kernel)) (fun _ _ _ _ _ => (eg_name (i := 9) sc_law.nd rfl (.inl rfl))) (fun _ _ _ _ _ => pts_nil) (fun _ _ _ h => yes_of h) (fun _ _ _ _ _ => (ex_cmp (od_in (Room_units65 hr)) os_in (ex_var 4) (ex_call C_w_numbers (hr.mono h_w_numbers) (by rfl) (ea_cons (ex_ix ix_seq os_ix (ex_var 3) (ex_bin op_sub os_sub (ex_var 9) ex_int) (fun _ _ => rfl)) ea_nil)) (by rfl))))) ea_nil))))
      (es_one (es_ret ex_bl))
      es_nil)))))))))
    (es_one (es_ret ex_bl))))

end
end K23
set_option Elab.async false
set_option linter.all false
set_option maxRecDepth 100000
set_option maxHeartbeats 4000000
namespace K23
open PySem PySem.Spec L2 Dl Lw23
theorem eq0_nums (as : List Nat) : pEq (numsD as) (.tuple []) = some (.bool as.isEmpty) := by
  unfold numsD
  rw [v_eqT0]
  cases as <;> rfl
theorem last_ix {as : List Nat} {a : Nat} (h : as.getLast? = some a) : pIx (numsD as) (.int (-1)) = some (numD a) := by
  unfold numsD
  obtain ⟨bs, rfl⟩ : ∃ bs, as = bs ++ [a] := by
    refine ⟨as.dropLast, ?_⟩
    have hne : as ≠ [] := by intro z; rw [z] at h; cases h
    rw [List.getLast?_eq_getLast hne] at h
    have := List.dropLast_concat_getLast hne
    cases h
    exact this.symm
  simp only [pIx]
  unfold atI ixN
  have e : (-1 + ((bs.length : Int) + 1)).toNat = bs.length := by omega
  have h1 : (1 : Int) ≤ (bs.length : Int) + 1 := by omega
  simp [e, h1]
theorem all_whole {S : Type} {s : S} {as : List Nat} {ρ : Rho} {fi : Ea S} (hl : as.length ≤ 900) (hi : fi ρ s = some (as.map numD, s)) {Q : List D → S → Prop} (h : Q (List.replicate as.length (.bool true)) s) (f : Ev S) (hf : ∀ a, ∃ ρ1, gNm 8 (numD a) (wipeR ρ [8]) = some ρ1 ∧ f ρ1 s = some (.bool true, s)) : Ok (lcF fi (gNm 8) qYes f [8] ρ s) Q := by
  refine k_keep (ds := as.map numD) (fun _ => true) (fun _ => .bool true) (by rw [List.length_map]; exact szL (by omega)) hi (fun d hd => ?_) ?_
  · obtain ⟨a, _, rfl⟩ := List.mem_map.mp hd
    obtain ⟨ρ1, h1, h2⟩ := hf a
    exact ⟨ρ1, h1, rfl, fun _ => h2⟩
  · rw [List.filter_eq_self.mpr (fun _ _ => rfl), List.map_map]
    have : as.map ((fun _ => PyData.bool true) ∘ numD) = List.replicate as.length (PyData.bool true : D) := by
      apply List.ext_getElem (by simp)
      intro i h1 h2
      simp
    rw [this]
    exact h
theorem law_true {s : DS} : Ok (B_law Flines Fvoc K_w_numbers Pat K_w_whole Pbox Flast [none, some (hnd 0), none, none, none, none, none, none, none, none] s) fun r _ => r = .rt (.bool true) := by
  unfold B_law
  refine k_seq (k_asg ?_)
  simp only [ok_V0, ok_Vs, ok_K, ok_B, ok_U, ok_nil, ok_cons, ok_N, ok_aN, ok_call, ok_nl, ok_fl, ok_afl, ok_T, ok_qNot, ok_qAnd, ok_qOr, ok_and, ok_or, ok_not, ok_if, ok_Sl, ok_oNo, ok_oOf, ok_Ch, ok_it, ok_itA, ok_yes, v_addI, v_sub, v_neg, v_eqI, v_eqS, v_eqB, v_eq0, v_eqT0, v_neI, v_neS, v_neB, v_ne0, v_neT0, v_ltI, v_leI, v_gtI, v_geI, v_is, v_isNot, v_nn, v_ns, v_ni, v_nl, v_nt, v_tb, v_tl, v_tt, v_tn, v_ti, v_asB, v_asI, v_asL, v_asT, v_asS, v_lenL, v_lenT, v_tupL, v_tupT, v_listL, v_listT, v_intB, v_tup0, v_tup1, v_tup2, v_tup3, v_tup4, v_tup5, v_lst0, v_lst1, v_lst2, v_lst3, v_lst4, v_lst5, v_ok0, v_ok1, v_ok2, v_ix0L, v_ix0, v_ix1, v_ix2, v_ix3, v_fs, v_fi, v_fb, v_fn, v_ft, v_f0, v_fc, startR, List.map_cons, List.map_nil, List.length_cons, List.length_nil, List.replicate, List.cons_append, List.nil_append, List.set_cons_zero, List.set_cons_succ, Option.some.injEq, exists_eq_left', Nat.reduceAdd, Nat.reduceSub, Nat.sub_zero, Nat.sub_self, Nat.zero_add, Nat.reduceEqDiff, Bool.not_true, Bool.not_false, if_true, if_false, Bool.and_self, Bool.true_and, Bool.and_true, Bool.false_eq_true, ↓reduceIte, true_and, and_true, decide_true, decide_false, wipeR]
  refine ok_vocabulary fun d s1 hv => ?_
  obtain ⟨ns, ks, ds, rfl, hn, hk, hd⟩ := hv
  try simp only [ok_V0, ok_Vs, ok_K, ok_B, ok_U, ok_nil, ok_cons, ok_N, ok_aN, ok_call, ok_nl, ok_fl, ok_afl, ok_T, ok_qNot, ok_qAnd, ok_qOr, ok_and, ok_or, ok_not, ok_if, ok_Sl, ok_oNo, ok_oOf, ok_Ch, ok_it, ok_itA, ok_yes, v_addI, v_sub, v_neg, v_eqI, v_eqS, v_eqB, v_eq0, v_eqT0, v_neI, v_neS, v_neB, v_ne0, v_neT0, v_ltI, v_leI, v_gtI, v_geI, v_is, v_isNot, v_nn, v_ns, v_ni, v_nl, v_nt, v_tb, v_tl, v_tt, v_tn, v_ti, v_asB, v_asI, v_asL, v_asT, v_asS, v_lenL, v_lenT, v_tupL, v_tupT, v_listL, v_listT, v_intB, v_tup0, v_tup1, v_tup2, v_tup3, v_tup4, v_tup5, v_lst0, v_lst1, v_lst2, v_lst3, v_lst4, v_lst5, v_ok0, v_ok1, v_ok2, v_ix0L, v_ix0, v_ix1, v_ix2, v_ix3, v_fs, v_fi, v_fb, v_fn, v_ft, v_f0, v_fc, startR, List.map_cons, List.map_nil, List.length_cons, List.length_nil, List.replicate, List.cons_append, List.nil_append, List.set_cons_zero, List.set_cons_succ, Option.some.injEq, exists_eq_left', Nat.reduceAdd, Nat.reduceSub, Nat.sub_zero, Nat.sub_self, Nat.zero_add, Nat.reduceEqDiff, Bool.not_true, Bool.not_false, if_true, if_false, Bool.and_self, Bool.true_and, Bool.and_true, Bool.false_eq_true, ↓reduceIte, true_and, and_true, decide_true, decide_false, wipeR]
  refine ok_lines hn hk hd fun xs bs L s2 hls hbx hL h1 hlv => ?_
  refine ⟨_, rfl, ?_⟩
  try simp only [ok_V0, ok_Vs, ok_K, ok_B, ok_U, ok_nil, ok_cons, ok_N, ok_aN, ok_call, ok_nl, ok_fl, ok_afl, ok_T, ok_qNot, ok_qAnd, ok_qOr, ok_and, ok_or, ok_not, ok_if, ok_Sl, ok_oNo, ok_oOf, ok_Ch, ok_it, ok_itA, ok_yes, v_addI, v_sub, v_neg, v_eqI, v_eqS, v_eqB, v_eq0, v_eqT0, v_neI, v_neS, v_neB, v_ne0, v_neT0, v_ltI, v_leI, v_gtI, v_geI, v_is, v_isNot, v_nn, v_ns, v_ni, v_nl, v_nt, v_tb, v_tl, v_tt, v_tn, v_ti, v_asB, v_asI, v_asL, v_asT, v_asS, v_lenL, v_lenT, v_tupL, v_tupT, v_listL, v_listT, v_intB, v_tup0, v_tup1, v_tup2, v_tup3, v_tup4, v_tup5, v_lst0, v_lst1, v_lst2, v_lst3, v_lst4, v_lst5, v_ok0, v_ok1, v_ok2, v_ix0L, v_ix0, v_ix1, v_ix2, v_ix3, v_fs, v_fi, v_fb, v_fn, v_ft, v_f0, v_fc, startR, List.map_cons, List.map_nil, List.length_cons, List.length_nil, List.replicate, List.cons_append, List.nil_append, List.set_cons_zero, List.set_cons_succ, Option.some.injEq, exists_eq_left', Nat.reduceAdd, Nat.reduceSub, Nat.sub_zero, Nat.sub_self, Nat.zero_add, Nat.reduceEqDiff, Bool.not_true, Bool.not_false, if_true, if_false, Bool.and_self, Bool.true_and, Bool.and_true, Bool.false_eq_true, ↓reduceIte, true_and, and_true, decide_true, decide_false, wipeR]
  have hxl : xs.length = L.length := hls.1
  refine k_seq (k_forP (fun ds s' => ds = rngD 1 L.length ∧ s' = s2) ?_ ?_)
  · simp only [ok_V0, ok_Vs, ok_K, ok_B, ok_U, ok_nil, ok_cons, ok_N, ok_aN, ok_call, ok_nl, ok_fl, ok_afl, ok_T, ok_qNot, ok_qAnd, ok_qOr, ok_and, ok_or, ok_not, ok_if, ok_Sl, ok_oNo, ok_oOf, ok_Ch, ok_it, ok_itA, ok_yes, v_addI, v_sub, v_neg, v_eqI, v_eqS, v_eqB, v_eq0, v_eqT0, v_neI, v_neS, v_neB, v_ne0, v_neT0, v_ltI, v_leI, v_gtI, v_geI, v_is, v_isNot, v_nn, v_ns, v_ni, v_nl, v_nt, v_tb, v_tl, v_tt, v_tn, v_ti, v_asB, v_asI, v_asL, v_asT, v_asS, v_lenL, v_lenT, v_tupL, v_tupT, v_listL, v_listT, v_intB, v_tup0, v_tup1, v_tup2, v_tup3, v_tup4, v_tup5, v_lst0, v_lst1, v_lst2, v_lst3, v_lst4, v_lst5, v_ok0, v_ok1, v_ok2, v_ix0L, v_ix0, v_ix1, v_ix2, v_ix3, v_fs, v_fi, v_fb, v_fn, v_ft, v_f0, v_fc, startR, List.map_cons, List.map_nil, List.length_cons, List.length_nil, List.replicate, List.cons_append, List.nil_append, List.set_cons_zero, List.set_cons_succ, Option.some.injEq, exists_eq_left', Nat.reduceAdd, Nat.reduceSub, Nat.sub_zero, Nat.sub_self, Nat.zero_add, Nat.reduceEqDiff, Bool.not_true, Bool.not_false, if_true, if_false, Bool.and_self, Bool.true_and, Bool.and_true, Bool.false_eq_true, ↓reduceIte, true_and, and_true, decide_true, decide_false, wipeR, hxl]
    rw [pr2 ⟨by omega, by omega, by omega, by omega⟩]
    simp only [ok_V0, ok_Vs, ok_K, ok_B, ok_U, ok_nil, ok_cons, ok_N, ok_aN, ok_call, ok_nl, ok_fl, ok_afl, ok_T, ok_qNot, ok_qAnd, ok_qOr, ok_and, ok_or, ok_not, ok_if, ok_Sl, ok_oNo, ok_oOf, ok_Ch, ok_it, ok_itA, ok_yes, v_addI, v_sub, v_neg, v_eqI, v_eqS, v_eqB, v_eq0, v_eqT0, v_neI, v_neS, v_neB, v_ne0, v_neT0, v_ltI, v_leI, v_gtI, v_geI, v_is, v_isNot, v_nn, v_ns, v_ni, v_nl, v_nt, v_tb, v_tl, v_tt, v_tn, v_ti, v_asB, v_asI, v_asL, v_asT, v_asS, v_lenL, v_lenT, v_tupL, v_tupT, v_listL, v_listT, v_intB, v_tup0, v_tup1, v_tup2, v_tup3, v_tup4, v_tup5, v_lst0, v_lst1, v_lst2, v_lst3, v_lst4, v_lst5, v_ok0, v_ok1, v_ok2, v_ix0L, v_ix0, v_ix1, v_ix2, v_ix3, v_fs, v_fi, v_fb, v_fn, v_ft, v_f0, v_fc, startR, List.map_cons, List.map_nil, List.length_cons, List.length_nil, List.replicate, List.cons_append, List.nil_append, List.set_cons_zero, List.set_cons_succ, Option.some.injEq, exists_eq_left', Nat.reduceAdd, Nat.reduceSub, Nat.sub_zero, Nat.sub_self, Nat.zero_add, Nat.reduceEqDiff, Bool.not_true, Bool.not_false, if_true, if_false, Bool.and_self, Bool.true_and, Bool.and_true, Bool.false_eq_true, ↓reduceIte, true_and, and_true, decide_true, decide_false, wipeR]
    rw [show ((L.length : Int) + 1 - 1).toNat = L.length by omega]
  intro ds' s3 hds
  obtain ⟨e1, e2⟩ := hds
  rw [e1, e2]
  refine ⟨fun j ρ s' => s' = s2 ∧ ∃ y4 y5 y6 y7 : Option D, ρ = [none, some (hnd 0), some (.tuple xs), some (.list bs), y4, y5, y6, y7, none, none], ⟨rfl, none, none, none, none, rfl⟩, ?_, ?_⟩
  · rintro j d ρ s' hdj ⟨es, y4, y5, y6, y7, rfl⟩
    rw [es]
    obtain ⟨hj, rfl⟩ := range_get hdj
    obtain ⟨x, hx⟩ : ∃ x, L[j]? = some x := ⟨_, List.getElem?_eq_getElem hj⟩
    refine ⟨_, rfl, ?_⟩
    obtain ⟨ts, b1, b2⟩ := boxN (s := s2) hbx hj (by omega)
    refine k_seq (k_set ?_)
    simp only [ok_V0, ok_Vs, ok_K, ok_B, ok_U, ok_nil, ok_cons, ok_N, ok_aN, ok_call, ok_nl, ok_fl, ok_afl, ok_T, ok_qNot, ok_qAnd, ok_qOr, ok_and, ok_or, ok_not, ok_if, ok_Sl, ok_oNo, ok_oOf, ok_Ch, ok_it, ok_itA, ok_yes, v_addI, v_sub, v_neg, v_eqI, v_eqS, v_eqB, v_eq0, v_eqT0, v_neI, v_neS, v_neB, v_ne0, v_neT0, v_ltI, v_leI, v_gtI, v_geI, v_is, v_isNot, v_nn, v_ns, v_ni, v_nl, v_nt, v_tb, v_tl, v_tt, v_tn, v_ti, v_asB, v_asI, v_asL, v_asT, v_asS, v_lenL, v_lenT, v_tupL, v_tupT, v_listL, v_listT, v_intB, v_tup0, v_tup1, v_tup2, v_tup3, v_tup4, v_tup5, v_lst0, v_lst1, v_lst2, v_lst3, v_lst4, v_lst5, v_ok0, v_ok1, v_ok2, v_ix0L, v_ix0, v_ix1, v_ix2, v_ix3, v_fs, v_fi, v_fb, v_fn, v_ft, v_f0, v_fc, startR, List.map_cons, List.map_nil, List.length_cons, List.length_nil, List.replicate, List.cons_append, List.nil_append, List.set_cons_zero, List.set_cons_succ, Option.some.injEq, exists_eq_left', Nat.reduceAdd, Nat.reduceSub, Nat.sub_zero, Nat.sub_self, Nat.zero_add, Nat.reduceEqDiff, Bool.not_true, Bool.not_false, if_true, if_false, Bool.and_self, Bool.true_and, Bool.and_true, Bool.false_eq_true, ↓reduceIte, true_and, and_true, decide_true, decide_false, wipeR, show (1 + (j : Int)) - 1 = (j : Nat) from by omega, b1, b2, ok_some]
    refine k_seq (k_set ?_)
    have ha := at_eq (s := s2) (k := j + 1) hls (by omega) (by omega) (by omega)
    rw [show ((j + 1 : Nat) : Int) = 1 + (j : Int) by omega] at ha
    simp only [ok_V0, ok_Vs, ok_K, ok_B, ok_U, ok_nil, ok_cons, ok_N, ok_aN, ok_call, ok_nl, ok_fl, ok_afl, ok_T, ok_qNot, ok_qAnd, ok_qOr, ok_and, ok_or, ok_not, ok_if, ok_Sl, ok_oNo, ok_oOf, ok_Ch, ok_it, ok_itA, ok_yes, v_addI, v_sub, v_neg, v_eqI, v_eqS, v_eqB, v_eq0, v_eqT0, v_neI, v_neS, v_neB, v_ne0, v_neT0, v_ltI, v_leI, v_gtI, v_geI, v_is, v_isNot, v_nn, v_ns, v_ni, v_nl, v_nt, v_tb, v_tl, v_tt, v_tn, v_ti, v_asB, v_asI, v_asL, v_asT, v_asS, v_lenL, v_lenT, v_tupL, v_tupT, v_listL, v_listT, v_intB, v_tup0, v_tup1, v_tup2, v_tup3, v_tup4, v_tup5, v_lst0, v_lst1, v_lst2, v_lst3, v_lst4, v_lst5, v_ok0, v_ok1, v_ok2, v_ix0L, v_ix0, v_ix1, v_ix2, v_ix3, v_fs, v_fi, v_fb, v_fn, v_ft, v_f0, v_fc, startR, List.map_cons, List.map_nil, List.length_cons, List.length_nil, List.replicate, List.cons_append, List.nil_append, List.set_cons_zero, List.set_cons_succ, Option.some.injEq, exists_eq_left', Nat.reduceAdd, Nat.reduceSub, Nat.sub_zero, Nat.sub_self, Nat.zero_add, Nat.reduceEqDiff, Bool.not_true, Bool.not_false, if_true, if_false, Bool.and_self, Bool.true_and, Bool.and_true, Bool.false_eq_true, ↓reduceIte, true_and, and_true, decide_true, decide_false, wipeR, ha, ok_some]
    have hal : (arN L (j + 1)).length ≤ 900 := by have := arN_len L (j + 1); omega
    refine k_seq (k_sIf ?_)
    have it : pIsi "tuple" (numsD (arN L (j + 1))) = some (.bool true) := isi_tup
    simp only [ok_V0, ok_Vs, ok_K, ok_B, ok_U, ok_nil, ok_cons, ok_N, ok_aN, ok_call, ok_nl, ok_fl, ok_afl, ok_T, ok_qNot, ok_qAnd, ok_qOr, ok_and, ok_or, ok_not, ok_if, ok_Sl, ok_oNo, ok_oOf, ok_Ch, ok_it, ok_itA, ok_yes, v_addI, v_sub, v_neg, v_eqI, v_eqS, v_eqB, v_eq0, v_eqT0, v_neI, v_neS, v_neB, v_ne0, v_neT0, v_ltI, v_leI, v_gtI, v_geI, v_is, v_isNot, v_nn, v_ns, v_ni, v_nl, v_nt, v_tb, v_tl, v_tt, v_tn, v_ti, v_asB, v_asI, v_asL, v_asT, v_asS, v_lenL, v_lenT, v_tupL, v_tupT, v_listL, v_listT, v_intB, v_tup0, v_tup1, v_tup2, v_tup3, v_tup4, v_tup5, v_lst0, v_lst1, v_lst2, v_lst3, v_lst4, v_lst5, v_ok0, v_ok1, v_ok2, v_ix0L, v_ix0, v_ix1, v_ix2, v_ix3, v_fs, v_fi, v_fb, v_fn, v_ft, v_f0, v_fc, startR, List.map_cons, List.map_nil, List.length_cons, List.length_nil, List.replicate, List.cons_append, List.nil_append, List.set_cons_zero, List.set_cons_succ, Option.some.injEq, exists_eq_left', Nat.reduceAdd, Nat.reduceSub, Nat.sub_zero, Nat.sub_self, Nat.zero_add, Nat.reduceEqDiff, Bool.not_true, Bool.not_false, if_true, if_false, Bool.and_self, Bool.true_and, Bool.and_true, Bool.false_eq_true, ↓reduceIte, true_and, and_true, decide_true, decide_false, wipeR, it, ne_nums]
    refine all_whole (as := arN L (j + 1)) hal rfl ?_ _ fun a => ⟨_, rfl, ?_⟩
    rotate_left
    · have : Ok ((cCall 1 K_w_whole (aCons (cVar 8) aNil)) (List.set [none, some (hnd 0), some (PyData.tuple xs), some (PyData.list bs), some (PyData.int (1 + (j : Int))), some (numsD (arN L (j + 1))), some (numsD (arN L (j + 1))), y7, none, none] 8 (some (numD a))) s2) fun b s' => b = .bool true ∧ s' = s2 := by
        have hw : K_w_whole [numD a] s2 = some (.bool true, s2) := whole_eq
        simp only [ok_V0, ok_Vs, ok_K, ok_B, ok_U, ok_nil, ok_cons, ok_N, ok_aN, ok_call, ok_nl, ok_fl, ok_afl, ok_T, ok_qNot, ok_qAnd, ok_qOr, ok_and, ok_or, ok_not, ok_if, ok_Sl, ok_oNo, ok_oOf, ok_Ch, ok_it, ok_itA, ok_yes, v_addI, v_sub, v_neg, v_eqI, v_eqS, v_eqB, v_eq0, v_eqT0, v_neI, v_neS, v_neB, v_ne0, v_neT0, v_ltI, v_leI, v_gtI, v_geI, v_is, v_isNot, v_nn, v_ns, v_ni, v_nl, v_nt, v_tb, v_tl, v_tt, v_tn, v_ti, v_asB, v_asI, v_asL, v_asT, v_asS, v_lenL, v_lenT, v_tupL, v_tupT, v_listL, v_listT, v_intB, v_tup0, v_tup1, v_tup2, v_tup3, v_tup4, v_tup5, v_lst0, v_lst1, v_lst2, v_lst3, v_lst4, v_lst5, v_ok0, v_ok1, v_ok2, v_ix0L, v_ix0, v_ix1, v_ix2, v_ix3, v_fs, v_fi, v_fb, v_fn, v_ft, v_f0, v_fc, startR, List.map_cons, List.map_nil, List.length_cons, List.length_nil, List.replicate, List.cons_append, List.nil_append, List.set_cons_zero, List.set_cons_succ, Option.some.injEq, exists_eq_left', Nat.reduceAdd, Nat.reduceSub, Nat.sub_zero, Nat.sub_self, Nat.zero_add, Nat.reduceEqDiff, Bool.not_true, Bool.not_false, if_true, if_false, Bool.and_self, Bool.true_and, Bool.and_true, Bool.false_eq_true, ↓reduceIte, true_and, and_true, decide_true, decide_false, wipeR, hw, ok_some]
      obtain ⟨b, s4, q1, rfl, rfl⟩ := this
      exact q1
    simp only [ok_V0, ok_Vs, ok_K, ok_B, ok_U, ok_nil, ok_cons, ok_N, ok_aN, ok_call, ok_nl, ok_fl, ok_afl, ok_T, ok_qNot, ok_qAnd, ok_qOr, ok_and, ok_or, ok_not, ok_if, ok_Sl, ok_oNo, ok_oOf, ok_Ch, ok_it, ok_itA, ok_yes, v_addI, v_sub, v_neg, v_eqI, v_eqS, v_eqB, v_eq0, v_eqT0, v_neI, v_neS, v_neB, v_ne0, v_neT0, v_ltI, v_leI, v_gtI, v_geI, v_is, v_isNot, v_nn, v_ns, v_ni, v_nl, v_nt, v_tb, v_tl, v_tt, v_tn, v_ti, v_asB, v_asI, v_asL, v_asT, v_asS, v_lenL, v_lenT, v_tupL, v_tupT, v_listL, v_listT, v_intB, v_tup0, v_tup1, v_tup2, v_tup3, v_tup4, v_tup5, v_lst0, v_lst1, v_lst2, v_lst3, v_lst4, v_lst5, v_ok0, v_ok1, v_ok2, v_ix0L, v_ix0, v_ix1, v_ix2, v_ix3, v_fs, v_fi, v_fb, v_fn, v_ft, v_f0, v_fc, startR, List.map_cons, List.map_nil, List.length_cons, List.length_nil, List.replicate, List.cons_append, List.nil_append, List.set_cons_zero, List.set_cons_succ, Option.some.injEq, exists_eq_left', Nat.reduceAdd, Nat.reduceSub, Nat.sub_zero, Nat.sub_self, Nat.zero_add, Nat.reduceEqDiff, Bool.not_true, Bool.not_false, if_true, if_false, Bool.and_self, Bool.true_and, Bool.and_true, Bool.false_eq_true, ↓reduceIte, true_and, and_true, decide_true, decide_false, wipeR, all_true]
    refine k_nx (k_seq (k_sIf ?_))
    simp only [ok_V0, ok_Vs, ok_K, ok_B, ok_U, ok_nil, ok_cons, ok_N, ok_aN, ok_call, ok_nl, ok_fl, ok_afl, ok_T, ok_qNot, ok_qAnd, ok_qOr, ok_and, ok_or, ok_not, ok_if, ok_Sl, ok_oNo, ok_oOf, ok_Ch, ok_it, ok_itA, ok_yes, v_addI, v_sub, v_neg, v_eqI, v_eqS, v_eqB, v_eq0, v_eqT0, v_neI, v_neS, v_neB, v_ne0, v_neT0, v_ltI, v_leI, v_gtI, v_geI, v_is, v_isNot, v_nn, v_ns, v_ni, v_nl, v_nt, v_tb, v_tl, v_tt, v_tn, v_ti, v_asB, v_asI, v_asL, v_asT, v_asS, v_lenL, v_lenT, v_tupL, v_tupT, v_listL, v_listT, v_intB, v_tup0, v_tup1, v_tup2, v_tup3, v_tup4, v_tup5, v_lst0, v_lst1, v_lst2, v_lst3, v_lst4, v_lst5, v_ok0, v_ok1, v_ok2, v_ix0L, v_ix0, v_ix1, v_ix2, v_ix3, v_fs, v_fi, v_fb, v_fn, v_ft, v_f0, v_fc, startR, List.map_cons, List.map_nil, List.length_cons, List.length_nil, List.replicate, List.cons_append, List.nil_append, List.set_cons_zero, List.set_cons_succ, Option.some.injEq, exists_eq_left', Nat.reduceAdd, Nat.reduceSub, Nat.sub_zero, Nat.sub_self, Nat.zero_add, Nat.reduceEqDiff, Bool.not_true, Bool.not_false, if_true, if_false, Bool.and_self, Bool.true_and, Bool.and_true, Bool.false_eq_true, ↓reduceIte, true_and, and_true, decide_true, decide_false, wipeR, eq0_nums]
    have self := last_self (L := L) (j := j) hx
    by_cases hem : (arN L (j + 1)).isEmpty = true
    · simp only [ok_V0, ok_Vs, ok_K, ok_B, ok_U, ok_nil, ok_cons, ok_N, ok_aN, ok_call, ok_nl, ok_fl, ok_afl, ok_T, ok_qNot, ok_qAnd, ok_qOr, ok_and, ok_or, ok_not, ok_if, ok_Sl, ok_oNo, ok_oOf, ok_Ch, ok_it, ok_itA, ok_yes, v_addI, v_sub, v_neg, v_eqI, v_eqS, v_eqB, v_eq0, v_eqT0, v_neI, v_neS, v_neB, v_ne0, v_neT0, v_ltI, v_leI, v_gtI, v_geI, v_is, v_isNot, v_nn, v_ns, v_ni, v_nl, v_nt, v_tb, v_tl, v_tt, v_tn, v_ti, v_asB, v_asI, v_asL, v_asT, v_asS, v_lenL, v_lenT, v_tupL, v_tupT, v_listL, v_listT, v_intB, v_tup0, v_tup1, v_tup2, v_tup3, v_tup4, v_tup5, v_lst0, v_lst1, v_lst2, v_lst3, v_lst4, v_lst5, v_ok0, v_ok1, v_ok2, v_ix0L, v_ix0, v_ix1, v_ix2, v_ix3, v_fs, v_fi, v_fb, v_fn, v_ft, v_f0, v_fc, startR, List.map_cons, List.map_nil, List.length_cons, List.length_nil, List.replicate, List.cons_append, List.nil_append, List.set_cons_zero, List.set_cons_succ, Option.some.injEq, exists_eq_left', Nat.reduceAdd, Nat.reduceSub, Nat.sub_zero, Nat.sub_self, Nat.zero_add, Nat.reduceEqDiff, Bool.not_true, Bool.not_false, if_true, if_false, Bool.and_self, Bool.true_and, Bool.and_true, Bool.false_eq_true, ↓reduceIte, true_and, and_true, decide_true, decide_false, wipeR, hem]
      exact k_ct ⟨rfl, _, _, _, _, rfl⟩
    have hem : (arN L (j + 1)).isEmpty = false := by simpa using hem
    simp only [ok_V0, ok_Vs, ok_K, ok_B, ok_U, ok_nil, ok_cons, ok_N, ok_aN, ok_call, ok_nl, ok_fl, ok_afl, ok_T, ok_qNot, ok_qAnd, ok_qOr, ok_and, ok_or, ok_not, ok_if, ok_Sl, ok_oNo, ok_oOf, ok_Ch, ok_it, ok_itA, ok_yes, v_addI, v_sub, v_neg, v_eqI, v_eqS, v_eqB, v_eq0, v_eqT0, v_neI, v_neS, v_neB, v_ne0, v_neT0, v_ltI, v_leI, v_gtI, v_geI, v_is, v_isNot, v_nn, v_ns, v_ni, v_nl, v_nt, v_tb, v_tl, v_tt, v_tn, v_ti, v_asB, v_asI, v_asL, v_asT, v_asS, v_lenL, v_lenT, v_tupL, v_tupT, v_listL, v_listT, v_intB, v_tup0, v_tup1, v_tup2, v_tup3, v_tup4, v_tup5, v_lst0, v_lst1, v_lst2, v_lst3, v_lst4, v_lst5, v_ok0, v_ok1, v_ok2, v_ix0L, v_ix0, v_ix1, v_ix2, v_ix3, v_fs, v_fi, v_fb, v_fn, v_ft, v_f0, v_fc, startR, List.map_cons, List.map_nil, List.length_cons, List.length_nil, List.replicate, List.cons_append, List.nil_append, List.set_cons_zero, List.set_cons_succ, Option.some.injEq, exists_eq_left', Nat.reduceAdd, Nat.reduceSub, Nat.sub_zero, Nat.sub_self, Nat.zero_add, Nat.reduceEqDiff, Bool.not_true, Bool.not_false, if_true, if_false, Bool.and_self, Bool.true_and, Bool.and_true, Bool.false_eq_true, ↓reduceIte, true_and, and_true, decide_true, decide_false, wipeR, hem]
    obtain ⟨a, hga⟩ : ∃ a, (arN L (j + 1)).getLast? = some a := by
      cases h : (arN L (j + 1)).getLast? with
      | none => rw [List.getLast?_eq_none_iff] at h; rw [h] at hem; cases hem
      | some a => exact ⟨a, rfl⟩
    simp only [ok_V0, ok_Vs, ok_K, ok_B, ok_U, ok_nil, ok_cons, ok_N, ok_aN, ok_call, ok_nl, ok_fl, ok_afl, ok_T, ok_qNot, ok_qAnd, ok_qOr, ok_and, ok_or, ok_not, ok_if, ok_Sl, ok_oNo, ok_oOf, ok_Ch, ok_it, ok_itA, ok_yes, v_addI, v_sub, v_neg, v_eqI, v_eqS, v_eqB, v_eq0, v_eqT0, v_neI, v_neS, v_neB, v_ne0, v_neT0, v_ltI, v_leI, v_gtI, v_geI, v_is, v_isNot, v_nn, v_ns, v_ni, v_nl, v_nt, v_tb, v_tl, v_tt, v_tn, v_ti, v_asB, v_asI, v_asL, v_asT, v_asS, v_lenL, v_lenT, v_tupL, v_tupT, v_listL, v_listT, v_intB, v_tup0, v_tup1, v_tup2, v_tup3, v_tup4, v_tup5, v_lst0, v_lst1, v_lst2, v_lst3, v_lst4, v_lst5, v_ok0, v_ok1, v_ok2, v_ix0L, v_ix0, v_ix1, v_ix2, v_ix3, v_fs, v_fi, v_fb, v_fn, v_ft, v_f0, v_fc, startR, List.map_cons, List.map_nil, List.length_cons, List.length_nil, List.replicate, List.cons_append, List.nil_append, List.set_cons_zero, List.set_cons_succ, Option.some.injEq, exists_eq_left', Nat.reduceAdd, Nat.reduceSub, Nat.sub_zero, Nat.sub_self, Nat.zero_add, Nat.reduceEqDiff, Bool.not_true, Bool.not_false, if_true, if_false, Bool.and_self, Bool.true_and, Bool.and_true, Bool.false_eq_true, ↓reduceIte, true_and, and_true, decide_true, decide_false, wipeR, last_ix hga]
    have hnum : pNe (numD a) (.int (1 + (j : Int))) = some (.bool (!decide (a = j))) := by
      show some (PyData.bool (!decide (((a + 1 : Nat) : Int) = 1 + (j : Int)))) = _
      congr 3
      rw [decide_eq_decide]
      omega
    simp only [ok_V0, ok_Vs, ok_K, ok_B, ok_U, ok_nil, ok_cons, ok_N, ok_aN, ok_call, ok_nl, ok_fl, ok_afl, ok_T, ok_qNot, ok_qAnd, ok_qOr, ok_and, ok_or, ok_not, ok_if, ok_Sl, ok_oNo, ok_oOf, ok_Ch, ok_it, ok_itA, ok_yes, v_addI, v_sub, v_neg, v_eqI, v_eqS, v_eqB, v_eq0, v_eqT0, v_neI, v_neS, v_neB, v_ne0, v_neT0, v_ltI, v_leI, v_gtI, v_geI, v_is, v_isNot, v_nn, v_ns, v_ni, v_nl, v_nt, v_tb, v_tl, v_tt, v_tn, v_ti, v_asB, v_asI, v_asL, v_asT, v_asS, v_lenL, v_lenT, v_tupL, v_tupT, v_listL, v_listT, v_intB, v_tup0, v_tup1, v_tup2, v_tup3, v_tup4, v_tup5, v_lst0, v_lst1, v_lst2, v_lst3, v_lst4, v_lst5, v_ok0, v_ok1, v_ok2, v_ix0L, v_ix0, v_ix1, v_ix2, v_ix3, v_fs, v_fi, v_fb, v_fn, v_ft, v_f0, v_fc, startR, List.map_cons, List.map_nil, List.length_cons, List.length_nil, List.replicate, List.cons_append, List.nil_append, List.set_cons_zero, List.set_cons_succ, Option.some.injEq, exists_eq_left', Nat.reduceAdd, Nat.reduceSub, Nat.sub_zero, Nat.sub_self, Nat.zero_add, Nat.reduceEqDiff, Bool.not_true, Bool.not_false, if_true, if_false, Bool.and_self, Bool.true_and, Bool.and_true, Bool.false_eq_true, ↓reduceIte, true_and, and_true, decide_true, decide_false, wipeR, hnum]
    by_cases haj : ¬ a = j
    · simp only [ok_V0, ok_Vs, ok_K, ok_B, ok_U, ok_nil, ok_cons, ok_N, ok_aN, ok_call, ok_nl, ok_fl, ok_afl, ok_T, ok_qNot, ok_qAnd, ok_qOr, ok_and, ok_or, ok_not, ok_if, ok_Sl, ok_oNo, ok_oOf, ok_Ch, ok_it, ok_itA, ok_yes, v_addI, v_sub, v_neg, v_eqI, v_eqS, v_eqB, v_eq0, v_eqT0, v_neI, v_neS, v_neB, v_ne0, v_neT0, v_ltI, v_leI, v_gtI, v_geI, v_is, v_isNot, v_nn, v_ns, v_ni, v_nl, v_nt, v_tb, v_tl, v_tt, v_tn, v_ti, v_asB, v_asI, v_asL, v_asT, v_asS, v_lenL, v_lenT, v_tupL, v_tupT, v_listL, v_listT, v_intB, v_tup0, v_tup1, v_tup2, v_tup3, v_tup4, v_tup5, v_lst0, v_lst1, v_lst2, v_lst3, v_lst4, v_lst5, v_ok0, v_ok1, v_ok2, v_ix0L, v_ix0, v_ix1, v_ix2, v_ix3, v_fs, v_fi, v_fb, v_fn, v_ft, v_f0, v_fc, startR, List.map_cons, List.map_nil, List.length_cons, List.length_nil, List.replicate, List.cons_append, List.nil_append, List.set_cons_zero, List.set_cons_succ, Option.some.injEq, exists_eq_left', Nat.reduceAdd, Nat.reduceSub, Nat.sub_zero, Nat.sub_self, Nat.zero_add, Nat.reduceEqDiff, Bool.not_true, Bool.not_false, if_true, if_false, Bool.and_self, Bool.true_and, Bool.and_true, Bool.false_eq_true, ↓reduceIte, true_and, and_true, decide_true, decide_false, wipeR, haj]
      exact k_ct ⟨rfl, _, _, _, _, rfl⟩
    have haj : a = j := Classical.not_not.mp haj
    subst haj
    simp only [ok_V0, ok_Vs, ok_K, ok_B, ok_U, ok_nil, ok_cons, ok_N, ok_aN, ok_call, ok_nl, ok_fl, ok_afl, ok_T, ok_qNot, ok_qAnd, ok_qOr, ok_and, ok_or, ok_not, ok_if, ok_Sl, ok_oNo, ok_oOf, ok_Ch, ok_it, ok_itA, ok_yes, v_addI, v_sub, v_neg, v_eqI, v_eqS, v_eqB, v_eq0, v_eqT0, v_neI, v_neS, v_neB, v_ne0, v_neT0, v_ltI, v_leI, v_gtI, v_geI, v_is, v_isNot, v_nn, v_ns, v_ni, v_nl, v_nt, v_tb, v_tl, v_tt, v_tn, v_ti, v_asB, v_asI, v_asL, v_asT, v_asS, v_lenL, v_lenT, v_tupL, v_tupT, v_listL, v_listT, v_intB, v_tup0, v_tup1, v_tup2, v_tup3, v_tup4, v_tup5, v_lst0, v_lst1, v_lst2, v_lst3, v_lst4, v_lst5, v_ok0, v_ok1, v_ok2, v_ix0L, v_ix0, v_ix1, v_ix2, v_ix3, v_fs, v_fi, v_fb, v_fn, v_ft, v_f0, v_fc, startR, List.map_cons, List.map_nil, List.length_cons, List.length_nil, List.replicate, List.cons_append, List.nil_append, List.set_cons_zero, List.set_cons_succ, Option.some.injEq, exists_eq_left', Nat.reduceAdd, Nat.reduceSub, Nat.sub_zero, Nat.sub_self, Nat.zero_add, Nat.reduceEqDiff, Bool.not_true, Bool.not_false, if_true, if_false, Bool.and_self, Bool.true_and, Bool.and_true, Bool.false_eq_true, ↓reduceIte, true_and, and_true, decide_true, decide_false, wipeR]
    have hop : x.2 = true := self.mpr hga
    refine k_nx (k_seq (k_set ?_))
    obtain ⟨e, be, hbox⟩ := box_eq (s := s2) hls hx hop (by omega)
    rw [show ((a + 1 : Nat) : Int) = 1 + (a : Int) by omega] at hbox
    simp only [ok_V0, ok_Vs, ok_K, ok_B, ok_U, ok_nil, ok_cons, ok_N, ok_aN, ok_call, ok_nl, ok_fl, ok_afl, ok_T, ok_qNot, ok_qAnd, ok_qOr, ok_and, ok_or, ok_not, ok_if, ok_Sl, ok_oNo, ok_oOf, ok_Ch, ok_it, ok_itA, ok_yes, v_addI, v_sub, v_neg, v_eqI, v_eqS, v_eqB, v_eq0, v_eqT0, v_neI, v_neS, v_neB, v_ne0, v_neT0, v_ltI, v_leI, v_gtI, v_geI, v_is, v_isNot, v_nn, v_ns, v_ni, v_nl, v_nt, v_tb, v_tl, v_tt, v_tn, v_ti, v_asB, v_asI, v_asL, v_asT, v_asS, v_lenL, v_lenT, v_tupL, v_tupT, v_listL, v_listT, v_intB, v_tup0, v_tup1, v_tup2, v_tup3, v_tup4, v_tup5, v_lst0, v_lst1, v_lst2, v_lst3, v_lst4, v_lst5, v_ok0, v_ok1, v_ok2, v_ix0L, v_ix0, v_ix1, v_ix2, v_ix3, v_fs, v_fi, v_fb, v_fn, v_ft, v_f0, v_fc, startR, List.map_cons, List.map_nil, List.length_cons, List.length_nil, List.replicate, List.cons_append, List.nil_append, List.set_cons_zero, List.set_cons_succ, Option.some.injEq, exists_eq_left', Nat.reduceAdd, Nat.reduceSub, Nat.sub_zero, Nat.sub_self, Nat.zero_add, Nat.reduceEqDiff, Bool.not_true, Bool.not_false, if_true, if_false, Bool.and_self, Bool.true_and, Bool.and_true, Bool.false_eq_true, ↓reduceIte, true_and, and_true, decide_true, decide_false, wipeR, hbox, ok_some]
    refine k_seq (k_sIf ?_)
    have it2 : ∀ ds : List D, pIsi "tuple" (.tuple ds) = some (.bool true) := fun ds => isi_tup
    have hmem : a ∈ arN L (a + 1) := List.mem_of_getLast? hga
    have hne : lastN L a L.length ≠ [] := fun z => by
      have : a ∈ lastN L a L.length := List.mem_filter.mpr ⟨List.mem_range.mpr hj, by simpa using hmem⟩
      rw [z] at this
      cases this
    obtain ⟨m, hm, hmax, hlast⟩ := last_eq (s := s2) hbx (by omega) hne
    have hm' := List.mem_filter.mp hm
    have hml : m < L.length := List.mem_range.mp hm'.1
    have em : m + 1 = e := box_last hx hop be (by omega) (by omega) (by simpa using hm'.2) fun j hj h => by
      have := hmax j (List.mem_filter.mpr ⟨List.mem_range.mpr hj, by simpa using h⟩)
      omega
    have hlast : Flast [.list bs, .int (1 + (a : Int))] s2 = some (.int ((m + 1 : Nat) : Int), s2) := by
      rw [show (1 + (a : Int)) = ((a + 1 : Nat) : Int) by omega]
      exact hlast
    have hpair : (PyData.tuple [.int (1 + (a : Int)), .int (e : Nat)] : D) = numsD [a, m] := by
      unfold numsD numD
      rw [← em, show (1 + (a : Int)) = ((a + 1 : Nat) : Int) by omega]
      rfl
    have hpair2 : (PyData.tuple [.int (1 + (a : Int)), .int ((m + 1 : Nat) : Int)] : D) = numsD [a, m] := by
      rw [← hpair, em]
    have hpn : pNe (.tuple [.int (1 + (a : Int)), .int (e : Nat)]) (.tuple [.int (1 + (a : Int)), .int ((m + 1 : Nat) : Int)]) = some (.bool false) := by
      rw [hpair, hpair2]
      exact ne_nums _
    have hwh : ∀ i : Int, K_w_whole [.int i] s2 = some (.bool true, s2) := fun i => whole_eq
    simp only [ok_V0, ok_Vs, ok_K, ok_B, ok_U, ok_nil, ok_cons, ok_N, ok_aN, ok_call, ok_nl, ok_fl, ok_afl, ok_T, ok_qNot, ok_qAnd, ok_qOr, ok_and, ok_or, ok_not, ok_if, ok_Sl, ok_oNo, ok_oOf, ok_Ch, ok_it, ok_itA, ok_yes, v_addI, v_sub, v_neg, v_eqI, v_eqS, v_eqB, v_eq0, v_eqT0, v_neI, v_neS, v_neB, v_ne0, v_neT0, v_ltI, v_leI, v_gtI, v_geI, v_is, v_isNot, v_nn, v_ns, v_ni, v_nl, v_nt, v_tb, v_tl, v_tt, v_tn, v_ti, v_asB, v_asI, v_asL, v_asT, v_asS, v_lenL, v_lenT, v_tupL, v_tupT, v_listL, v_listT, v_intB, v_tup0, v_tup1, v_tup2, v_tup3, v_tup4, v_tup5, v_lst0, v_lst1, v_lst2, v_lst3, v_lst4, v_lst5, v_ok0, v_ok1, v_ok2, v_ix0L, v_ix0, v_ix1, v_ix2, v_ix3, v_fs, v_fi, v_fb, v_fn, v_ft, v_f0, v_fc, startR, List.map_cons, List.map_nil, List.length_cons, List.length_nil, List.replicate, List.cons_append, List.nil_append, List.set_cons_zero, List.set_cons_succ, Option.some.injEq, exists_eq_left', Nat.reduceAdd, Nat.reduceSub, Nat.sub_zero, Nat.sub_self, Nat.zero_add, Nat.reduceEqDiff, Bool.not_true, Bool.not_false, if_true, if_false, Bool.and_self, Bool.true_and, Bool.and_true, Bool.false_eq_true, ↓reduceIte, true_and, and_true, decide_true, decide_false, wipeR, it2, hlast, ok_some, hpn, hwh]
    refine k_nx (k_sIf ?_)
    simp only [ok_V0, ok_Vs, ok_K, ok_B, ok_U, ok_nil, ok_cons, ok_N, ok_aN, ok_call, ok_nl, ok_fl, ok_afl, ok_T, ok_qNot, ok_qAnd, ok_qOr, ok_and, ok_or, ok_not, ok_if, ok_Sl, ok_oNo, ok_oOf, ok_Ch, ok_it, ok_itA, ok_yes, v_addI, v_sub, v_neg, v_eqI, v_eqS, v_eqB, v_eq0, v_eqT0, v_neI, v_neS, v_neB, v_ne0, v_neT0, v_ltI, v_leI, v_gtI, v_geI, v_is, v_isNot, v_nn, v_ns, v_ni, v_nl, v_nt, v_tb, v_tl, v_tt, v_tn, v_ti, v_asB, v_asI, v_asL, v_asT, v_asS, v_lenL, v_lenT, v_tupL, v_tupT, v_listL, v_listT, v_intB, v_tup0, v_tup1, v_tup2, v_tup3, v_tup4, v_tup5, v_lst0, v_lst1, v_lst2, v_lst3, v_lst4, v_lst5, v_ok0, v_ok1, v_ok2, v_ix0L, v_ix0, v_ix1, v_ix2, v_ix3, v_fs, v_fi, v_fb, v_fn, v_ft, v_f0, v_fc, startR, List.map_cons, List.map_nil, List.length_cons, List.length_nil, List.replicate, List.cons_append, List.nil_append, List.set_cons_zero, List.set_cons_succ, Option.some.injEq, exists_eq_left', Nat.reduceAdd, Nat.reduceSub, Nat.sub_zero, Nat.sub_self, Nat.zero_add, Nat.reduceEqDiff, Bool.not_true, Bool.not_false, if_true, if_false, Bool.and_self, Bool.true_and, Bool.and_true, Bool.false_eq_true, ↓reduceIte, true_and, and_true, decide_true, decide_false, wipeR]
    obtain ⟨be1, be2, be3, be4⟩ := be
    refine k_keep (ds := rngD (1 + (a : Int)) (e - a)) (fun _ => true) (fun _ => .bool true) (by rw [rng_len]; exact szL (by omega)) ?_ (fun d hd => ?_) ?_
    · have : Ok ((iOfA pR2 (aCons (cB pIx (cVar 7) (cK (.int 0))) (aCons (cB pAdd (cB pIx (cVar 7) (cK (.int 1))) (cK (.int 1))) aNil))) [none, some (hnd 0), some (PyData.tuple xs), some (PyData.list bs), some (PyData.int (1 + (a : Int))), some (numsD (arN L (a + 1))), some (numsD (arN L (a + 1))), some (PyData.tuple [.int (1 + (a : Int)), .int (e : Nat)]), none, none] s2) fun x s' => x = rngD (1 + (a : Int)) (e - a) ∧ s' = s2 := by
        simp only [ok_V0, ok_Vs, ok_K, ok_B, ok_U, ok_nil, ok_cons, ok_N, ok_aN, ok_call, ok_nl, ok_fl, ok_afl, ok_T, ok_qNot, ok_qAnd, ok_qOr, ok_and, ok_or, ok_not, ok_if, ok_Sl, ok_oNo, ok_oOf, ok_Ch, ok_it, ok_itA, ok_yes, v_addI, v_sub, v_neg, v_eqI, v_eqS, v_eqB, v_eq0, v_eqT0, v_neI, v_neS, v_neB, v_ne0, v_neT0, v_ltI, v_leI, v_gtI, v_geI, v_is, v_isNot, v_nn, v_ns, v_ni, v_nl, v_nt, v_tb, v_tl, v_tt, v_tn, v_ti, v_asB, v_asI, v_asL, v_asT, v_asS, v_lenL, v_lenT, v_tupL, v_tupT, v_listL, v_listT, v_intB, v_tup0, v_tup1, v_tup2, v_tup3, v_tup4, v_tup5, v_lst0, v_lst1, v_lst2, v_lst3, v_lst4, v_lst5, v_ok0, v_ok1, v_ok2, v_ix0L, v_ix0, v_ix1, v_ix2, v_ix3, v_fs, v_fi, v_fb, v_fn, v_ft, v_f0, v_fc, startR, List.map_cons, List.map_nil, List.length_cons, List.length_nil, List.replicate, List.cons_append, List.nil_append, List.set_cons_zero, List.set_cons_succ, Option.some.injEq, exists_eq_left', Nat.reduceAdd, Nat.reduceSub, Nat.sub_zero, Nat.sub_self, Nat.zero_add, Nat.reduceEqDiff, Bool.not_true, Bool.not_false, if_true, if_false, Bool.and_self, Bool.true_and, Bool.and_true, Bool.false_eq_true, ↓reduceIte, true_and, and_true, decide_true, decide_false, wipeR]
        rw [pr2 ⟨by omega, by omega, by omega, by omega⟩]
        simp only [ok_V0, ok_Vs, ok_K, ok_B, ok_U, ok_nil, ok_cons, ok_N, ok_aN, ok_call, ok_nl, ok_fl, ok_afl, ok_T, ok_qNot, ok_qAnd, ok_qOr, ok_and, ok_or, ok_not, ok_if, ok_Sl, ok_oNo, ok_oOf, ok_Ch, ok_it, ok_itA, ok_yes, v_addI, v_sub, v_neg, v_eqI, v_eqS, v_eqB, v_eq0, v_eqT0, v_neI, v_neS, v_neB, v_ne0, v_neT0, v_ltI, v_leI, v_gtI, v_geI, v_is, v_isNot, v_nn, v_ns, v_ni, v_nl, v_nt, v_tb, v_tl, v_tt, v_tn, v_ti, v_asB, v_asI, v_asL, v_asT, v_asS, v_lenL, v_lenT, v_tupL, v_tupT, v_listL, v_listT, v_intB, v_tup0, v_tup1, v_tup2, v_tup3, v_tup4, v_tup5, v_lst0, v_lst1, v_lst2, v_lst3, v_lst4, v_lst5, v_ok0, v_ok1, v_ok2, v_ix0L, v_ix0, v_ix1, v_ix2, v_ix3, v_fs, v_fi, v_fb, v_fn, v_ft, v_f0, v_fc, startR, List.map_cons, List.map_nil, List.length_cons, List.length_nil, List.replicate, List.cons_append, List.nil_append, List.set_cons_zero, List.set_cons_succ, Option.some.injEq, exists_eq_left', Nat.reduceAdd, Nat.reduceSub, Nat.sub_zero, Nat.sub_self, Nat.zero_add, Nat.reduceEqDiff, Bool.not_true, Bool.not_false, if_true, if_false, Bool.and_self, Bool.true_and, Bool.and_true, Bool.false_eq_true, ↓reduceIte, true_and, and_true, decide_true, decide_false, wipeR]
        rw [show ((e : Int) + 1 - (1 + (a : Int))).toNat = e - a by omega]
      obtain ⟨b, s4, q1, rfl, rfl⟩ := this
      exact q1
    · obtain ⟨i, hi⟩ := List.mem_iff_getElem?.mp hd
      obtain ⟨hin, rfl⟩ := range_get hi
      obtain ⟨ts', c1, c2⟩ := boxN (s := s2) (j := a + i) hbx (by omega) (by omega)
      refine ⟨_, rfl, rfl, fun _ => ?_⟩
      have hst : a ∈ arN L (a + i + 1) := (stay hx hop (a + i) (by omega) (by omega)).mpr fun t y t1 t2 hy => be3 t y (by omega) (by omega) hy
      have hin2 : pIn (.int (1 + (a : Int))) (numsD (arN L (a + i + 1))) = some (.bool true) := by
        have := in_nums (a := a) (as := arN L (a + i + 1))
        unfold numD at this
        rw [show (1 + (a : Int)) = ((a + 1 : Nat) : Int) by omega, this, decide_eq_true hst]
      have : Ok ((cB pIn (cVar 4) (cCall 1 K_w_numbers (aCons (cB pIx (cVar 3) (cB pSub (cVar 9) (cK (.int 1)))) aNil))) [none, some (hnd 0), some (PyData.tuple xs), some (PyData.list bs), some (PyData.int (1 + (a : Int))), some (numsD (arN L (a + 1))), some (numsD (arN L (a + 1))), some (PyData.tuple [.int (1 + (a : Int)), .int (e : Nat)]), none, some (.int (1 + (a : Int) + (i : Int)))] s2) fun b s' => b = .bool true ∧ s' = s2 := by
        simp only [ok_V0, ok_Vs, ok_K, ok_B, ok_U, ok_nil, ok_cons, ok_N, ok_aN, ok_call, ok_nl, ok_fl, ok_afl, ok_T, ok_qNot, ok_qAnd, ok_qOr, ok_and, ok_or, ok_not, ok_if, ok_Sl, ok_oNo, ok_oOf, ok_Ch, ok_it, ok_itA, ok_yes, v_addI, v_sub, v_neg, v_eqI, v_eqS, v_eqB, v_eq0, v_eqT0, v_neI, v_neS, v_neB, v_ne0, v_neT0, v_ltI, v_leI, v_gtI, v_geI, v_is, v_isNot, v_nn, v_ns, v_ni, v_nl, v_nt, v_tb, v_tl, v_tt, v_tn, v_ti, v_asB, v_asI, v_asL, v_asT, v_asS, v_lenL, v_lenT, v_tupL, v_tupT, v_listL, v_listT, v_intB, v_tup0, v_tup1, v_tup2, v_tup3, v_tup4, v_tup5, v_lst0, v_lst1, v_lst2, v_lst3, v_lst4, v_lst5, v_ok0, v_ok1, v_ok2, v_ix0L, v_ix0, v_ix1, v_ix2, v_ix3, v_fs, v_fi, v_fb, v_fn, v_ft, v_f0, v_fc, startR, List.map_cons, List.map_nil, List.length_cons, List.length_nil, List.replicate, List.cons_append, List.nil_append, List.set_cons_zero, List.set_cons_succ, Option.some.injEq, exists_eq_left', Nat.reduceAdd, Nat.reduceSub, Nat.sub_zero, Nat.sub_self, Nat.zero_add, Nat.reduceEqDiff, Bool.not_true, Bool.not_false, if_true, if_false, Bool.and_self, Bool.true_and, Bool.and_true, Bool.false_eq_true, ↓reduceIte, true_and, and_true, decide_true, decide_false, wipeR, show (1 + (a : Int) + (i : Int)) - 1 = ((a + i : Nat) : Int) from by omega, c1, c2, ok_some, hin2]
      obtain ⟨b, s4, q1, rfl, rfl⟩ := this
      exact q1
    rw [List.filter_eq_self.mpr (fun _ _ => rfl)]
    have hrep : (rngD (1 + (a : Int)) (e - a)).map (fun _ => PyData.bool true) = List.replicate (e - a) (PyData.bool true : D) := by
      apply List.ext_getElem (by simp [rng_len])
      intro i h1 h2
      simp
    rw [hrep]
    simp only [ok_V0, ok_Vs, ok_K, ok_B, ok_U, ok_nil, ok_cons, ok_N, ok_aN, ok_call, ok_nl, ok_fl, ok_afl, ok_T, ok_qNot, ok_qAnd, ok_qOr, ok_and, ok_or, ok_not, ok_if, ok_Sl, ok_oNo, ok_oOf, ok_Ch, ok_it, ok_itA, ok_yes, v_addI, v_sub, v_neg, v_eqI, v_eqS, v_eqB, v_eq0, v_eqT0, v_neI, v_neS, v_neB, v_ne0, v_neT0, v_ltI, v_leI, v_gtI, v_geI, v_is, v_isNot, v_nn, v_ns, v_ni, v_nl, v_nt, v_tb, v_tl, v_tt, v_tn, v_ti, v_asB, v_asI, v_asL, v_asT, v_asS, v_lenL, v_lenT, v_tupL, v_tupT, v_listL, v_listT, v_intB, v_tup0, v_tup1, v_tup2, v_tup3, v_tup4, v_tup5, v_lst0, v_lst1, v_lst2, v_lst3, v_lst4, v_lst5, v_ok0, v_ok1, v_ok2, v_ix0L, v_ix0, v_ix1, v_ix2, v_ix3, v_fs, v_fi, v_fb, v_fn, v_ft, v_f0, v_fc, startR, List.map_cons, List.map_nil, List.length_cons, List.length_nil, List.replicate, List.cons_append, List.nil_append, List.set_cons_zero, List.set_cons_succ, Option.some.injEq, exists_eq_left', Nat.reduceAdd, Nat.reduceSub, Nat.sub_zero, Nat.sub_self, Nat.zero_add, Nat.reduceEqDiff, Bool.not_true, Bool.not_false, if_true, if_false, Bool.and_self, Bool.true_and, Bool.and_true, Bool.false_eq_true, ↓reduceIte, true_and, and_true, decide_true, decide_false, wipeR, all_true]
    exact k_nx ⟨rfl, _, _, _, _, rfl⟩
  rintro ρ s4 ⟨es, y4, y5, y6, y7, rfl⟩
  refine k_ret ?_
  simp only [ok_V0, ok_Vs, ok_K, ok_B, ok_U, ok_nil, ok_cons, ok_N, ok_aN, ok_call, ok_nl, ok_fl, ok_afl, ok_T, ok_qNot, ok_qAnd, ok_qOr, ok_and, ok_or, ok_not, ok_if, ok_Sl, ok_oNo, ok_oOf, ok_Ch, ok_it, ok_itA, ok_yes, v_addI, v_sub, v_neg, v_eqI, v_eqS, v_eqB, v_eq0, v_eqT0, v_neI, v_neS, v_neB, v_ne0, v_neT0, v_ltI, v_leI, v_gtI, v_geI, v_is, v_isNot, v_nn, v_ns, v_ni, v_nl, v_nt, v_tb, v_tl, v_tt, v_tn, v_ti, v_asB, v_asI, v_asL, v_asT, v_asS, v_lenL, v_lenT, v_tupL, v_tupT, v_listL, v_listT, v_intB, v_tup0, v_tup1, v_tup2, v_tup3, v_tup4, v_tup5, v_lst0, v_lst1, v_lst2, v_lst3, v_lst4, v_lst5, v_ok0, v_ok1, v_ok2, v_ix0L, v_ix0, v_ix1, v_ix2, v_ix3, v_fs, v_fi, v_fb, v_fn, v_ft, v_f0, v_fc, startR, List.map_cons, List.map_nil, List.length_cons, List.length_nil, List.replicate, List.cons_append, List.nil_append, List.set_cons_zero, List.set_cons_succ, Option.some.injEq, exists_eq_left', Nat.reduceAdd, Nat.reduceSub, Nat.sub_zero, Nat.sub_self, Nat.zero_add, Nat.reduceEqDiff, Bool.not_true, Bool.not_false, if_true, if_false, Bool.and_self, Bool.true_and, Bool.and_true, Bool.false_eq_true, ↓reduceIte, true_and, and_true, decide_true, decide_false, wipeR]
end K23
set_option Elab.async false
set_option linter.all false
set_option maxRecDepth 100000
set_option maxHeartbeats 4000000
namespace Dl
open PySem PySem.Spec PyProof.Rows L2
section
variable {P : Program} {w : World} {K : PySem.W.Frag} {mg : Str → Option Value} {base : Heap} {f : Addr} {fd : FuncData}
/-- a def of which nothing is asked -/
theorem fn_no {S : Type} {G : Kx} {Z : Zk S} {n k : Nat} {ps : List Str} : FnOk P w K mg base CX0 k f fd ps (spD G Z n (fun _ _ => none)) :=
  ⟨fun vs H Q E h => (by obtain ⟨B, ds, s, d, s', _, _, _, _, _, h, _⟩ := h; cases h), fun A outer s H args us vs Q E _ _ _ _ h => (by obtain ⟨B, ds, s, d, s', _, _, _, _, _, h, _⟩ := h; cases h)⟩
/-- written texts, as a tuple of the written part -/
theorem rep_written {hd : Nat → Addr → Prop} {a : Addr} {o : Obj} {its : Array Value} {n : Nat} {ws : List Str} (h1 : K.lookup a = some o) (h2 : o.cls = .type "tuple") (h3 : o.data = .seq its n) (h4 : its.size ≤ sizeLine) (h5 : Vals (ws.map V.str) its.toList) (B : Bar) (H : Hp) : Rep ⟨K, hd⟩ B H (.tuple (ws.map .str)) (.ref a) := by
  simp only [Rep]
  exact ⟨a, ws.map V.str, rfl, .inr ⟨o, its, n, h1, h2, h3, h4, h5⟩, reps_strs⟩
def spLaw (K : PySem.W.Frag) : Sp := fun vs H Q _ => ∃ (a : Addr) (ns : List Int), vs = [.ref a] ∧ SqL K H a (ns.map V.int) ∧ ∀ H', Q (.bl true) H'
/-- what the deck's making tells -/
def spDk (K : PySem.W.Frag) : Sp := fun vs H Q _ => ∃ (a : Addr) (ns : List Int), vs = [.ref a] ∧ SqL K H a (ns.map V.int) ∧ ∀ d c H' s, Same H H' → d ≠ c → DkS d c H' s → H d = none → H c = none → Q (.ref d) H'
/-- the rest of a law, whatever the deck is -/
def tRest (K : PySem.W.Frag) (W : List Nat) (F : Sv DS) : TS := fun E σ H => ∃ d c, tSt ⟨K, hdD d⟩ (Zd d c) W F E σ H
theorem pss_rest {X : Cx} {W : List Nat} {F : Sv DS} {st : List Stmt} (h : ∀ d c, PSs X st (tSt ⟨K, hdD d⟩ (Zd d c) W F)) : PSs X st (tRest K W F) := ⟨fun pins s σ H D I ⟨d, c, q⟩ => (h d c).run pins s σ H D I q⟩
/-- slot 0 the script, slot 1 the deck -/
def lawR (n : Nat) : Rho := none :: some (hnd 0) :: List.replicate n none
theorem rest_at {W : List Nat} {F : Sv DS} {n : Nat} {d c a : Addr} {H : Hp} {s : DS} {Q : VK} {nx : L2.St → Hp → Prop} (hd : d ≠ c) (k : DkS d c H s) (hW : ∀ i ∈ W, 2 ≤ i) (ht : Ok (F (lawR n) s) fun r _ => r = .rt (.bool true)) (q : ∀ H', Q (.bl true) H') :
    tRest K W F { nx := nx, rt := Q } (some (.ref a) :: some (.ref d) :: List.replicate n none) H := by
  obtain ⟨r, s', e, rfl⟩ := ht
  refine ⟨d, c, MD d c, H, fun _ => False, lawR n, s, .rt (.bool true), s', ⟨⟨⟨?_, ?_, ?_⟩, ?_, fun _ z => z.elim, fun _ z => z, fun _ z => z.elim⟩, Lc.Fr.refl H, ?_, fun _ z => z.elim, k⟩, e, ?_⟩
  · simp [lawR]
  · intro i x hi hx
    match i, hx with
    | 0, hx => cases hx
    | 1, hx =>
      cases hx
      refine ⟨.ref d, rfl, ?_⟩
      show Rep _ _ H (hnd 0) (.ref d)
      unfold hnd
      simp only [Rep]
      exact ⟨d, 0, rfl, rfl, rfl, rfl⟩
    | i + 2, hx =>
      have hx : (List.replicate n (none : Option D))[i]? = some (some x) := hx
      rw [List.getElem?_replicate] at hx
      split at hx <;> cases hx
  · have no : ∀ i x, i ∈ W → (lawR n)[i]? = some (some x) → False := fun i x hi hx => by
      have h2 := hW i hi
      match i, hx with
      | i + 2, hx =>
        have hx : (List.replicate n (none : Option D))[i]? = some (some x) := hx
        rw [List.getElem?_replicate] at hx
        split at hx <;> cases hx
    exact ⟨fun _ => 0, (fun i j x y hi _ hx => (no i x hi hx).elim), fun i x hi hx => (no i x hi hx).elim⟩
  · exact fun a z => (Zd d c).dom H s a k z
  · exact fun a z => (Zd d c).dom H s a k z
  · intro v H' _ hr _
    simp only [Rep] at hr
    rw [hr]
    exact q H'
end
end Dl
set_option Elab.async false
set_option linter.all false
set_option maxRecDepth 100000
set_option maxHeartbeats 4000000
namespace K23
open PySem PySem.Spec PyProof.Rows L2 Dl Lw23
section
variable {P : Program} {w : World} {K : PySem.W.Frag} {mg : Str → Option Value} {base : Heap} {f : Addr} {fd : FuncData}
theorem R_w_form {hd : Nat → Addr → Prop} {Z : Zk DS} (U : Fun K "_law_form" "_law_form" s_w_form f fd) (g : mg "_law_form" = some (.ref f)) (b : Binds K fd ["_law_deck_here", "_law_stock", "_law_terms", "_law_deep"] []) (C_w_draw : Lc.Dn P w K mg base "_law_draw" ["_law_deck_here", "_law_most"] 1 (spD ⟨K, hd⟩ Z 2 Fdraw)) (C_w_atom : Lc.Dn P w K mg base "_law_atom" ["_law_deck_here", "_law_stock", "_law_terms"] 3 (spD ⟨K, hd⟩ Z 3 (K_w_atom Fdraw (K_w_total Fdraw)))) (m_len : mg "len" = none) : ∀ m, FnOk P w K mg base CX0 (3 + m) f fd ["_law_deck_here", "_law_stock", "_law_terms", "_law_deep"] (spD ⟨K, hd⟩ Z 4 (Fform m))
  | 0 => fn_no
  | m + 1 => by
    have ih := R_w_form U g b C_w_draw C_w_atom m_len m
    exact P_w_form (k := 3 + m) U C_w_draw (by omega) C_w_atom (by omega) ⟨f, fd, U.kp, g, b, ih⟩ (by omega) m_len
theorem ok_law (U : Fun K "law" "law" s_law f fd) (C_deck : Lc.Dn P w K mg base "_law_deck" ["_law_script"] 1 (spDeck K))
    (hrest : ∀ d c (cdv : Value) (A : Around) (outer : List Env) (s : Shared) (H : Hp) (E : XK), Room 7 (A.deeper (envOfC "law" (defScope s_law) s.heap.objs.size f cdv)) → PSs (cxOf CX0 P w K mg base N_law "law" (defScope s_law) f cdv A outer s H E).nox ((defBody s_law).drop 1) (tSt ⟨K, hdD d⟩ (Zd d c) [] (B_law (K_w_lines Fdraw K_w_unlike (K_w_opener Fdraw) (K_w_reason Fdraw (K_w_signs Fdraw)) (Fform 3)) (K_w_vocabulary K_w_own Fdraw (K_w_signs Fdraw) K_w_unlike) K_w_numbers (K_openers_at (K_all_openers (K_ends_box K_is_opener) K_is_opener)) K_w_whole (K_box_of (K_has_opener K_is_opener) (K_ends_box K_is_opener)) (K_w_last K_w_numbers)))) :
    FnOk P w K mg base CX0 8 f fd ["_law_script"] (spLaw K) := by
  refine U.ok sc_law (fun vs H Q E h => ?_) (fun cdv A outer s H vs Q E hr h => ?_)
  · obtain ⟨a, ns, rfl, _⟩ := h
    rfl
  · obtain ⟨a, ns, rfl, hS, q⟩ := h
    refine ⟨_, pss_cons (ps_set (i := 1) sc_law.nd rfl (.inl rfl) (Lc.pe_dn C_deck (hr.mono (by decide)) (by rfl) (pa_cons (pv 0) pa_nil))) (pss_rest fun d c => hrest d c cdv A outer s H E hr), ?_⟩
    refine ⟨.ref a, rfl, a, ns, rfl, hS, fun d c H' s0 sm ndc dk _ _ => ?_⟩
    exact rest_at ndc dk (by decide) (law_true (s := s0)) q
end
theorem all_mk {l : PySem.W.OpenLaw} {w : World} {K : PySem.W.Frag} {h : Heap} {mg : Str → Option Value} {fa : Addr} (X : K.In h) (G : h.Ns mainGlobals mg) (hfa : mg "law" = some (.ref fa))
    {f0 : Addr} {od0 an0 : Option Addr} {sl0 : Array (Option Value)} {oc0 kV0 dc0 pm0 cd0 ct0 : Value}
    {f1 : Addr} {od1 an1 : Option Addr} {sl1 : Array (Option Value)} {oc1 kV1 dc1 pm1 cd1 ct1 : Value}
    {f2 : Addr} {od2 an2 : Option Addr} {sl2 : Array (Option Value)} {oc2 kV2 dc2 pm2 cd2 ct2 : Value}
    {f3 : Addr} {od3 an3 : Option Addr} {sl3 : Array (Option Value)} {oc3 kV3 dc3 pm3 cd3 ct3 : Value}
    {f4 : Addr} {od4 an4 : Option Addr} {sl4 : Array (Option Value)} {oc4 kV4 dc4 pm4 cd4 ct4 : Value}
    {f5 : Addr} {od5 an5 : Option Addr} {sl5 : Array (Option Value)} {oc5 kV5 dc5 pm5 cd5 ct5 : Value}
    {f6 : Addr} {od6 an6 : Option Addr} {sl6 : Array (Option Value)} {oc6 kV6 dc6 pm6 cd6 ct6 : Value}
    {f7 : Addr} {od7 an7 : Option Addr} {sl7 : Array (Option Value)} {oc7 kV7 dc7 pm7 cd7 ct7 : Value}
    {f8 : Addr} {od8 an8 : Option Addr} {sl8 : Array (Option Value)} {oc8 kV8 dc8 pm8 cd8 ct8 : Value}
    {f9 : Addr} {od9 an9 : Option Addr} {sl9 : Array (Option Value)} {oc9 kV9 dc9 pm9 cd9 ct9 : Value}
    {f10 : Addr} {od10 an10 : Option Addr} {sl10 : Array (Option Value)} {oc10 kV10 dc10 pm10 cd10 ct10 : Value}
    {f11 : Addr} {od11 an11 : Option Addr} {sl11 : Array (Option Value)} {oc11 kV11 dc11 pm11 cd11 ct11 : Value}
    {f12 : Addr} {od12 an12 : Option Addr} {sl12 : Array (Option Value)} {oc12 kV12 dc12 pm12 cd12 ct12 : Value}
    {f13 : Addr} {od13 an13 : Option Addr} {sl13 : Array (Option Value)} {oc13 kV13 dc13 pm13 cd13 ct13 : Value}
    {f14 : Addr} {od14 an14 : Option Addr} {sl14 : Array (Option Value)} {oc14 kV14 dc14 pm14 cd14 ct14 : Value}
    {f15 : Addr} {od15 an15 : Option Addr} {sl15 : Array (Option Value)} {oc15 kV15 dc15 pm15 cd15 ct15 : Value}
    {f16 : Addr} {od16 an16 : Option Addr} {sl16 : Array (Option Value)} {oc16 kV16 dc16 pm16 cd16 ct16 : Value}
    {f17 : Addr} {od17 an17 : Option Addr} {sl17 : Array (Option Value)} {oc17 kV17 dc17 pm17 cd17 ct17 : Value}
    {f18 : Addr} {od18 an18 : Option Addr} {sl18 : Array (Option Value)} {oc18 kV18 dc18 pm18 cd18 ct18 : Value}
    {f19 : Addr} {od19 an19 : Option Addr} {sl19 : Array (Option Value)} {oc19 kV19 dc19 pm19 cd19 ct19 : Value}
    {f20 : Addr} {od20 an20 : Option Addr} {sl20 : Array (Option Value)} {oc20 kV20 dc20 pm20 cd20 ct20 : Value}
    {f21 : Addr} {od21 an21 : Option Addr} {sl21 : Array (Option Value)} {oc21 kV21 dc21 pm21 cd21 ct21 : Value}
    (a0 : PySem.W.nsIn K mainGlobals "is_opener" = some (some (.ref f0))) (l0 : K.lookup f0 = some ⟨oc0, od0, .func (PySem.W.fnOf "is_opener" "is_opener" (defArgs s_is_opener) (defBody s_is_opener) (defScope s_is_opener) .none kV0 dc0 pm0 an0 cd0 ct0), sl0⟩) (c0 : PySem.W.codeIn K cd0 "is_opener" = true) (k0 : PySem.W.keepIn K (.ref f0) = true)
    (a1 : PySem.W.nsIn K mainGlobals "has_opener" = some (some (.ref f1))) (l1 : K.lookup f1 = some ⟨oc1, od1, .func (PySem.W.fnOf "has_opener" "has_opener" (defArgs s_has_opener) (defBody s_has_opener) (defScope s_has_opener) .none kV1 dc1 pm1 an1 cd1 ct1), sl1⟩) (c1 : PySem.W.codeIn K cd1 "has_opener" = true) (k1 : PySem.W.keepIn K (.ref f1) = true)
    (a2 : PySem.W.nsIn K mainGlobals "ends_box" = some (some (.ref f2))) (l2 : K.lookup f2 = some ⟨oc2, od2, .func (PySem.W.fnOf "ends_box" "ends_box" (defArgs s_ends_box) (defBody s_ends_box) (defScope s_ends_box) .none kV2 dc2 pm2 an2 cd2 ct2), sl2⟩) (c2 : PySem.W.codeIn K cd2 "ends_box" = true) (k2 : PySem.W.keepIn K (.ref f2) = true)
    (a3 : PySem.W.nsIn K mainGlobals "box_of" = some (some (.ref f3))) (l3 : K.lookup f3 = some ⟨oc3, od3, .func (PySem.W.fnOf "box_of" "box_of" (defArgs s_box_of) (defBody s_box_of) (defScope s_box_of) .none kV3 dc3 pm3 an3 cd3 ct3), sl3⟩) (c3 : PySem.W.codeIn K cd3 "box_of" = true) (k3 : PySem.W.keepIn K (.ref f3) = true)
    (a4 : PySem.W.nsIn K mainGlobals "all_openers" = some (some (.ref f4))) (l4 : K.lookup f4 = some ⟨oc4, od4, .func (PySem.W.fnOf "all_openers" "all_openers" (defArgs s_all_openers) (defBody s_all_openers) (defScope s_all_openers) .none kV4 dc4 pm4 an4 cd4 ct4), sl4⟩) (c4 : PySem.W.codeIn K cd4 "all_openers" = true) (k4 : PySem.W.keepIn K (.ref f4) = true)
    (a5 : PySem.W.nsIn K mainGlobals "openers_at" = some (some (.ref f5))) (l5 : K.lookup f5 = some ⟨oc5, od5, .func (PySem.W.fnOf "openers_at" "openers_at" (defArgs s_openers_at) (defBody s_openers_at) (defScope s_openers_at) .none kV5 dc5 pm5 an5 cd5 ct5), sl5⟩) (c5 : PySem.W.codeIn K cd5 "openers_at" = true) (k5 : PySem.W.keepIn K (.ref f5) = true)
    (a6 : PySem.W.nsIn K mainGlobals "_law_deck" = some (some (.ref f6))) (l6 : K.lookup f6 = some ⟨oc6, od6, .func (PySem.W.fnOf "_law_deck" "_law_deck" (defArgs s_w_deck) (defBody s_w_deck) (defScope s_w_deck) .none kV6 dc6 pm6 an6 cd6 ct6), sl6⟩) (c6 : PySem.W.codeIn K cd6 "_law_deck" = true) (k6 : PySem.W.keepIn K (.ref f6) = true)
    (a7 : PySem.W.nsIn K mainGlobals "_law_draw" = some (some (.ref f7))) (l7 : K.lookup f7 = some ⟨oc7, od7, .func (PySem.W.fnOf "_law_draw" "_law_draw" (defArgs s_w_draw) (defBody s_w_draw) (defScope s_w_draw) .none kV7 dc7 pm7 an7 cd7 ct7), sl7⟩) (c7 : PySem.W.codeIn K cd7 "_law_draw" = true) (k7 : PySem.W.keepIn K (.ref f7) = true)
    (a8 : PySem.W.nsIn K mainGlobals "_law_own" = some (some (.ref f8))) (l8 : K.lookup f8 = some ⟨oc8, od8, .func (PySem.W.fnOf "_law_own" "_law_own" (defArgs s_w_own) (defBody s_w_own) (defScope s_w_own) .none kV8 dc8 pm8 an8 cd8 ct8), sl8⟩) (c8 : PySem.W.codeIn K cd8 "_law_own" = true) (k8 : PySem.W.keepIn K (.ref f8) = true)
    (a9 : PySem.W.nsIn K mainGlobals "_law_signs" = some (some (.ref f9))) (l9 : K.lookup f9 = some ⟨oc9, od9, .func (PySem.W.fnOf "_law_signs" "_law_signs" (defArgs s_w_signs) (defBody s_w_signs) (defScope s_w_signs) .none kV9 dc9 pm9 an9 cd9 ct9), sl9⟩) (c9 : PySem.W.codeIn K cd9 "_law_signs" = true) (k9 : PySem.W.keepIn K (.ref f9) = true)
    (a10 : PySem.W.nsIn K mainGlobals "_law_unlike" = some (some (.ref f10))) (l10 : K.lookup f10 = some ⟨oc10, od10, .func (PySem.W.fnOf "_law_unlike" "_law_unlike" (defArgs s_w_unlike) (defBody s_w_unlike) (defScope s_w_unlike) .none kV10 dc10 pm10 an10 cd10 ct10), sl10⟩) (c10 : PySem.W.codeIn K cd10 "_law_unlike" = true) (k10 : PySem.W.keepIn K (.ref f10) = true)
    (a11 : PySem.W.nsIn K mainGlobals "_law_vocabulary" = some (some (.ref f11))) (l11 : K.lookup f11 = some ⟨oc11, od11, .func (PySem.W.fnOf "_law_vocabulary" "_law_vocabulary" (defArgs s_w_vocabulary) (defBody s_w_vocabulary) (defScope s_w_vocabulary) .none kV11 dc11 pm11 an11 cd11 ct11), sl11⟩) (c11 : PySem.W.codeIn K cd11 "_law_vocabulary" = true) (k11 : PySem.W.keepIn K (.ref f11) = true)
    (a12 : PySem.W.nsIn K mainGlobals "_law_total" = some (some (.ref f12))) (l12 : K.lookup f12 = some ⟨oc12, od12, .func (PySem.W.fnOf "_law_total" "_law_total" (defArgs s_w_total) (defBody s_w_total) (defScope s_w_total) .none kV12 dc12 pm12 an12 cd12 ct12), sl12⟩) (c12 : PySem.W.codeIn K cd12 "_law_total" = true) (k12 : PySem.W.keepIn K (.ref f12) = true)
    (a13 : PySem.W.nsIn K mainGlobals "_law_atom" = some (some (.ref f13))) (l13 : K.lookup f13 = some ⟨oc13, od13, .func (PySem.W.fnOf "_law_atom" "_law_atom" (defArgs s_w_atom) (defBody s_w_atom) (defScope s_w_atom) .none kV13 dc13 pm13 an13 cd13 ct13), sl13⟩) (c13 : PySem.W.codeIn K cd13 "_law_atom" = true) (k13 : PySem.W.keepIn K (.ref f13) = true)
    (a14 : PySem.W.nsIn K mainGlobals "_law_form" = some (some (.ref f14))) (l14 : K.lookup f14 = some ⟨oc14, od14, .func (PySem.W.fnOf "_law_form" "_law_form" (defArgs s_w_form) (defBody s_w_form) (defScope s_w_form) .none kV14 dc14 pm14 an14 cd14 ct14), sl14⟩) (c14 : PySem.W.codeIn K cd14 "_law_form" = true) (k14 : PySem.W.keepIn K (.ref f14) = true)
    (a15 : PySem.W.nsIn K mainGlobals "_law_reason" = some (some (.ref f15))) (l15 : K.lookup f15 = some ⟨oc15, od15, .func (PySem.W.fnOf "_law_reason" "_law_reason" (defArgs s_w_reason) (defBody s_w_reason) (defScope s_w_reason) .none kV15 dc15 pm15 an15 cd15 ct15), sl15⟩) (c15 : PySem.W.codeIn K cd15 "_law_reason" = true) (k15 : PySem.W.keepIn K (.ref f15) = true)
    (a16 : PySem.W.nsIn K mainGlobals "_law_opener" = some (some (.ref f16))) (l16 : K.lookup f16 = some ⟨oc16, od16, .func (PySem.W.fnOf "_law_opener" "_law_opener" (defArgs s_w_opener) (defBody s_w_opener) (defScope s_w_opener) .none kV16 dc16 pm16 an16 cd16 ct16), sl16⟩) (c16 : PySem.W.codeIn K cd16 "_law_opener" = true) (k16 : PySem.W.keepIn K (.ref f16) = true)
    (a17 : PySem.W.nsIn K mainGlobals "_law_lines" = some (some (.ref f17))) (l17 : K.lookup f17 = some ⟨oc17, od17, .func (PySem.W.fnOf "_law_lines" "_law_lines" (defArgs s_w_lines) (defBody s_w_lines) (defScope s_w_lines) .none kV17 dc17 pm17 an17 cd17 ct17), sl17⟩) (c17 : PySem.W.codeIn K cd17 "_law_lines" = true) (k17 : PySem.W.keepIn K (.ref f17) = true)
    (a18 : PySem.W.nsIn K mainGlobals "_law_numbers" = some (some (.ref f18))) (l18 : K.lookup f18 = some ⟨oc18, od18, .func (PySem.W.fnOf "_law_numbers" "_law_numbers" (defArgs s_w_numbers) (defBody s_w_numbers) (defScope s_w_numbers) .none kV18 dc18 pm18 an18 cd18 ct18), sl18⟩) (c18 : PySem.W.codeIn K cd18 "_law_numbers" = true) (k18 : PySem.W.keepIn K (.ref f18) = true)
    (a19 : PySem.W.nsIn K mainGlobals "_law_last" = some (some (.ref f19))) (l19 : K.lookup f19 = some ⟨oc19, od19, .func (PySem.W.fnOf "_law_last" "_law_last" (defArgs s_w_last) (defBody s_w_last) (defScope s_w_last) .none kV19 dc19 pm19 an19 cd19 ct19), sl19⟩) (c19 : PySem.W.codeIn K cd19 "_law_last" = true) (k19 : PySem.W.keepIn K (.ref f19) = true)
    (a20 : PySem.W.nsIn K mainGlobals "_law_whole" = some (some (.ref f20))) (l20 : K.lookup f20 = some ⟨oc20, od20, .func (PySem.W.fnOf "_law_whole" "_law_whole" (defArgs s_w_whole) (defBody s_w_whole) (defScope s_w_whole) .none kV20 dc20 pm20 an20 cd20 ct20), sl20⟩) (c20 : PySem.W.codeIn K cd20 "_law_whole" = true) (k20 : PySem.W.keepIn K (.ref f20) = true)
    (a21 : PySem.W.nsIn K mainGlobals "law" = some (some (.ref f21))) (l21 : K.lookup f21 = some ⟨oc21, od21, .func (PySem.W.fnOf "law" "law" (defArgs s_law) (defBody s_law) (defScope s_law) .none kV21 dc21 pm21 an21 cd21 ct21), sl21⟩) (c21 : PySem.W.codeIn K cd21 "law" = true) (k21 : PySem.W.keepIn K (.ref f21) = true)
    (z_all : PySem.W.nsIn K mainGlobals "all" = some none)
    (z_bool : PySem.W.nsIn K mainGlobals "bool" = some none)
    (z_enumerate : PySem.W.nsIn K mainGlobals "enumerate" = some none)
    (z_int : PySem.W.nsIn K mainGlobals "int" = some none)
    (z_isinstance : PySem.W.nsIn K mainGlobals "isinstance" = some none)
    (z_len : PySem.W.nsIn K mainGlobals "len" = some none)
    (z_list : PySem.W.nsIn K mainGlobals "list" = some none)
    (z_max : PySem.W.nsIn K mainGlobals "max" = some none)
    (z_range : PySem.W.nsIn K mainGlobals "range" = some none)
    (z_sorted : PySem.W.nsIn K mainGlobals "sorted" = some none)
    (z_tuple : PySem.W.nsIn K mainGlobals "tuple" = some none)
    {aa_OPENERS : Addr} {dd_OPENERS : Option Addr} {us_OPENERS : Array Value} {nn_OPENERS : Nat} {ss_OPENERS : Array (Option Value)} (gg_OPENERS : PySem.W.nsIn K mainGlobals "OPENERS" = some (some (.ref aa_OPENERS))) (ll_OPENERS : K.lookup aa_OPENERS = some ⟨.type "tuple", dd_OPENERS, .seq us_OPENERS nn_OPENERS, ss_OPENERS⟩) (sz_OPENERS : us_OPENERS.size ≤ sizeLine) (vv_OPENERS : Vals (opW.map V.str) us_OPENERS.toList) :
    ∃ fd : FuncData, (∀ (s : Shared) (v : Value), BindsTo s fd ⟨[v], []⟩ [("_law_script", v)]) ∧ ∀ base : Heap, K.In base → base.Ns mainGlobals mg → FnOk l.prog w K mg base CX0 8 fa fd ["_law_script"] (spLaw K) := by
  have e := hfa.symm.trans (PySem.W.mg_of X G a21)
  cases e
  have F_is_opener := fun_mk (st := s_is_opener) l0 c0 k0
  have b_is_opener := F_is_opener.binds (ps := ["line"]) fun _ _ _ _ _ _ us hl => match us, hl with | [_], _ => rfl
  have F_has_opener := fun_mk (st := s_has_opener) l1 c1 k1
  have b_has_opener := F_has_opener.binds (ps := ["lines", "i"]) fun _ _ _ _ _ _ us hl => match us, hl with | [_, _], _ => rfl
  have F_ends_box := fun_mk (st := s_ends_box) l2 c2 k2
  have b_ends_box := F_ends_box.binds (ps := ["line", "level"]) fun _ _ _ _ _ _ us hl => match us, hl with | [_, _], _ => rfl
  have F_box_of := fun_mk (st := s_box_of) l3 c3 k3
  have b_box_of := F_box_of.binds (ps := ["lines", "i"]) fun _ _ _ _ _ _ us hl => match us, hl with | [_, _], _ => rfl
  have F_all_openers := fun_mk (st := s_all_openers) l4 c4 k4
  have b_all_openers := F_all_openers.binds (ps := ["lines"]) fun _ _ _ _ _ _ us hl => match us, hl with | [_], _ => rfl
  have F_openers_at := fun_mk (st := s_openers_at) l5 c5 k5
  have b_openers_at := F_openers_at.binds (ps := ["lines", "k"]) fun _ _ _ _ _ _ us hl => match us, hl with | [_, _], _ => rfl
  have F_w_deck := fun_mk (st := s_w_deck) l6 c6 k6
  have b_w_deck := F_w_deck.binds (ps := ["_law_script"]) fun _ _ _ _ _ _ us hl => match us, hl with | [_], _ => rfl
  have F_w_draw := fun_mk (st := s_w_draw) l7 c7 k7
  have b_w_draw := F_w_draw.binds (ps := ["_law_deck_here", "_law_most"]) fun _ _ _ _ _ _ us hl => match us, hl with | [_, _], _ => rfl
  have F_w_own := fun_mk (st := s_w_own) l8 c8 k8
  have b_w_own := F_w_own.binds (ps := []) fun _ _ _ _ _ _ us hl => match us, hl with | [], _ => rfl
  have F_w_signs := fun_mk (st := s_w_signs) l9 c9 k9
  have b_w_signs := F_w_signs.binds (ps := ["_law_deck_here", "_law_many"]) fun _ _ _ _ _ _ us hl => match us, hl with | [_, _], _ => rfl
  have F_w_unlike := fun_mk (st := s_w_unlike) l10 c10 k10
  have b_w_unlike := F_w_unlike.binds (ps := ["_law_word", "_law_there", "_law_ahead"]) fun _ _ _ _ _ _ us hl => match us, hl with | [_, _, _], _ => rfl
  have F_w_vocabulary := fun_mk (st := s_w_vocabulary) l11 c11 k11
  have b_w_vocabulary := F_w_vocabulary.binds (ps := ["_law_deck_here"]) fun _ _ _ _ _ _ us hl => match us, hl with | [_], _ => rfl
  have F_w_total := fun_mk (st := s_w_total) l12 c12 k12
  have b_w_total := F_w_total.binds (ps := ["_law_deck_here", "_law_kinds"]) fun _ _ _ _ _ _ us hl => match us, hl with | [_, _], _ => rfl
  have F_w_atom := fun_mk (st := s_w_atom) l13 c13 k13
  have b_w_atom := F_w_atom.binds (ps := ["_law_deck_here", "_law_stock", "_law_terms"]) fun _ _ _ _ _ _ us hl => match us, hl with | [_, _, _], _ => rfl
  have F_w_form := fun_mk (st := s_w_form) l14 c14 k14
  have b_w_form := F_w_form.binds (ps := ["_law_deck_here", "_law_stock", "_law_terms", "_law_deep"]) fun _ _ _ _ _ _ us hl => match us, hl with | [_, _, _, _], _ => rfl
  have F_w_reason := fun_mk (st := s_w_reason) l15 c15 k15
  have b_w_reason := F_w_reason.binds (ps := ["_law_deck_here", "_law_count"]) fun _ _ _ _ _ _ us hl => match us, hl with | [_, _], _ => rfl
  have F_w_opener := fun_mk (st := s_w_opener) l16 c16 k16
  have b_w_opener := F_w_opener.binds (ps := ["_law_deck_here", "_law_count", "_law_name"]) fun _ _ _ _ _ _ us hl => match us, hl with | [_, _, _], _ => rfl
  have F_w_lines := fun_mk (st := s_w_lines) l17 c17 k17
  have b_w_lines := F_w_lines.binds (ps := ["_law_deck_here", "_law_vocabulary_here", "_law_meanings"]) fun _ _ _ _ _ _ us hl => match us, hl with | [_, _, _], _ => rfl
  have F_w_numbers := fun_mk (st := s_w_numbers) l18 c18 k18
  have b_w_numbers := F_w_numbers.binds (ps := ["_law_inside"]) fun _ _ _ _ _ _ us hl => match us, hl with | [_], _ => rfl
  have F_w_last := fun_mk (st := s_w_last) l19 c19 k19
  have b_w_last := F_w_last.binds (ps := ["_law_boxes", "_law_i"]) fun _ _ _ _ _ _ us hl => match us, hl with | [_, _], _ => rfl
  have F_w_whole := fun_mk (st := s_w_whole) l20 c20 k20
  have b_w_whole := F_w_whole.binds (ps := ["_law_found"]) fun _ _ _ _ _ _ us hl => match us, hl with | [_], _ => rfl
  have F_law := fun_mk (st := s_law) l21 c21 k21
  have m_all := PySem.W.mg_none_of X G z_all
  have m_bool := PySem.W.mg_none_of X G z_bool
  have m_enumerate := PySem.W.mg_none_of X G z_enumerate
  have m_int := PySem.W.mg_none_of X G z_int
  have m_isinstance := PySem.W.mg_none_of X G z_isinstance
  have m_len := PySem.W.mg_none_of X G z_len
  have m_list := PySem.W.mg_none_of X G z_list
  have m_max := PySem.W.mg_none_of X G z_max
  have m_range := PySem.W.mg_none_of X G z_range
  have m_sorted := PySem.W.mg_none_of X G z_sorted
  have m_tuple := PySem.W.mg_none_of X G z_tuple
  have g_OPENERS := PySem.W.mg_of X G gg_OPENERS
  have r_OPENERS : ∀ (hd : Nat → Addr → Prop) B H, Rep ⟨K, hd⟩ B H d_OPENERS (.ref aa_OPENERS) := fun hd B H => rep_written ll_OPENERS rfl rfl sz_OPENERS vv_OPENERS B H
  refine ⟨PySem.W.fnOf "law" "law" (defArgs s_law) (defBody s_law) (defScope s_law) .none kV21 dc21 pm21 an21 cd21 ct21, fun s v => .of_eq rfl, fun base hb hg => ?_⟩
  have C_is_opener : ∀ d c, Lc.Dn l.prog w K mg base "is_opener" ["line"] 1 (spD ⟨K, hdD d⟩ (Zd d c) 1 K_is_opener) := fun d c => ⟨f0, _, F_is_opener.kp, PySem.W.mg_of X G a0, b_is_opener, P_is_opener (k := 0) F_is_opener g_OPENERS (r_OPENERS _)⟩
  have C_has_opener : ∀ d c, Lc.Dn l.prog w K mg base "has_opener" ["lines", "i"] 2 (spD ⟨K, hdD d⟩ (Zd d c) 2 (K_has_opener K_is_opener)) := fun d c => ⟨f1, _, F_has_opener.kp, PySem.W.mg_of X G a1, b_has_opener, P_has_opener (k := 1) F_has_opener (C_is_opener d c) (by decide) m_len⟩
  have C_ends_box : ∀ d c, Lc.Dn l.prog w K mg base "ends_box" ["line", "level"] 2 (spD ⟨K, hdD d⟩ (Zd d c) 2 (K_ends_box K_is_opener)) := fun d c => ⟨f2, _, F_ends_box.kp, PySem.W.mg_of X G a2, b_ends_box, P_ends_box (k := 1) F_ends_box (C_is_opener d c) (by decide)⟩
  have C_box_of : ∀ d c, Lc.Dn l.prog w K mg base "box_of" ["lines", "i"] 3 (spD ⟨K, hdD d⟩ (Zd d c) 2 (K_box_of (K_has_opener K_is_opener) (K_ends_box K_is_opener))) := fun d c => ⟨f3, _, F_box_of.kp, PySem.W.mg_of X G a3, b_box_of, P_box_of (k := 2) F_box_of (C_has_opener d c) (by decide) (C_ends_box d c) (by decide) m_len⟩
  have C_all_openers : ∀ d c, Lc.Dn l.prog w K mg base "all_openers" ["lines"] 3 (spD ⟨K, hdD d⟩ (Zd d c) 1 (K_all_openers (K_ends_box K_is_opener) K_is_opener)) := fun d c => ⟨f4, _, F_all_openers.kp, PySem.W.mg_of X G a4, b_all_openers, P_all_openers (k := 2) F_all_openers (C_ends_box d c) (by decide) (C_is_opener d c) (by decide) m_enumerate m_tuple⟩
  have C_openers_at : ∀ d c, Lc.Dn l.prog w K mg base "openers_at" ["lines", "k"] 4 (spD ⟨K, hdD d⟩ (Zd d c) 2 (K_openers_at (K_all_openers (K_ends_box K_is_opener) K_is_opener))) := fun d c => ⟨f5, _, F_openers_at.kp, PySem.W.mg_of X G a5, b_openers_at, P_openers_at (k := 3) F_openers_at (C_all_openers d c) (by decide)⟩
  have C_deck : Lc.Dn l.prog w K mg base "_law_deck" ["_law_script"] 1 (spDeck K) := ⟨f6, _, F_w_deck.kp, PySem.W.mg_of X G a6, b_w_deck, ok_w_deck F_w_deck m_list⟩
  have C_w_draw : ∀ d c, Lc.Dn l.prog w K mg base "_law_draw" ["_law_deck_here", "_law_most"] 1 (spD ⟨K, hdD d⟩ (Zd d c) 2 Fdraw) := fun d c => ⟨f7, _, F_w_draw.kp, PySem.W.mg_of X G a7, b_w_draw, D_draw F_w_draw⟩
  have C_w_own : ∀ d c, Lc.Dn l.prog w K mg base "_law_own" [] 1 (spD ⟨K, hdD d⟩ (Zd d c) 0 K_w_own) := fun d c => ⟨f8, _, F_w_own.kp, PySem.W.mg_of X G a8, b_w_own, P_w_own (k := 0) F_w_own⟩
  have C_w_signs : ∀ d c, Lc.Dn l.prog w K mg base "_law_signs" ["_law_deck_here", "_law_many"] 2 (spD ⟨K, hdD d⟩ (Zd d c) 2 (K_w_signs Fdraw)) := fun d c => ⟨f9, _, F_w_signs.kp, PySem.W.mg_of X G a9, b_w_signs, P_w_signs (k := 1) F_w_signs (C_w_draw d c) (by decide) m_range⟩
  have C_w_unlike : ∀ d c, Lc.Dn l.prog w K mg base "_law_unlike" ["_law_word", "_law_there", "_law_ahead"] 1 (spD ⟨K, hdD d⟩ (Zd d c) 3 K_w_unlike) := fun d c => ⟨f10, _, F_w_unlike.kp, PySem.W.mg_of X G a10, b_w_unlike, P_w_unlike (k := 0) F_w_unlike⟩
  have C_w_vocabulary : ∀ d c, Lc.Dn l.prog w K mg base "_law_vocabulary" ["_law_deck_here"] 3 (spD ⟨K, hdD d⟩ (Zd d c) 1 (K_w_vocabulary K_w_own Fdraw (K_w_signs Fdraw) K_w_unlike)) := fun d c => ⟨f11, _, F_w_vocabulary.kp, PySem.W.mg_of X G a11, b_w_vocabulary, P_w_vocabulary (k := 2) F_w_vocabulary (C_w_own d c) (by decide) (C_w_draw d c) (by decide) (C_w_signs d c) (by decide) (C_w_unlike d c) (by decide) m_int m_range m_tuple m_sorted⟩
  have C_w_total : ∀ d c, Lc.Dn l.prog w K mg base "_law_total" ["_law_deck_here", "_law_kinds"] 2 (spD ⟨K, hdD d⟩ (Zd d c) 2 (K_w_total Fdraw)) := fun d c => ⟨f12, _, F_w_total.kp, PySem.W.mg_of X G a12, b_w_total, P_w_total (k := 1) F_w_total (C_w_draw d c) (by decide) m_int m_tuple⟩
  have C_w_atom : ∀ d c, Lc.Dn l.prog w K mg base "_law_atom" ["_law_deck_here", "_law_stock", "_law_terms"] 3 (spD ⟨K, hdD d⟩ (Zd d c) 3 (K_w_atom Fdraw (K_w_total Fdraw))) := fun d c => ⟨f13, _, F_w_atom.kp, PySem.W.mg_of X G a13, b_w_atom, P_w_atom (k := 2) F_w_atom (C_w_draw d c) (by decide) (C_w_total d c) (by decide) m_len⟩
  have C_w_form : ∀ d c, Lc.Dn l.prog w K mg base "_law_form" ["_law_deck_here", "_law_stock", "_law_terms", "_law_deep"] 6 (spD ⟨K, hdD d⟩ (Zd d c) 4 (Fform 3)) := fun d c => ⟨f14, _, F_w_form.kp, PySem.W.mg_of X G a14, b_w_form, R_w_form F_w_form (PySem.W.mg_of X G a14) b_w_form (C_w_draw d c) (C_w_atom d c) m_len 3⟩
  have C_w_reason : ∀ d c, Lc.Dn l.prog w K mg base "_law_reason" ["_law_deck_here", "_law_count"] 3 (spD ⟨K, hdD d⟩ (Zd d c) 2 (K_w_reason Fdraw (K_w_signs Fdraw))) := fun d c => ⟨f15, _, F_w_reason.kp, PySem.W.mg_of X G a15, b_w_reason, P_w_reason (k := 2) F_w_reason (C_w_draw d c) (by decide) (C_w_signs d c) (by decide) m_tuple m_range m_len⟩
  have C_w_opener : ∀ d c, Lc.Dn l.prog w K mg base "_law_opener" ["_law_deck_here", "_law_count", "_law_name"] 2 (spD ⟨K, hdD d⟩ (Zd d c) 3 (K_w_opener Fdraw)) := fun d c => ⟨f16, _, F_w_opener.kp, PySem.W.mg_of X G a16, b_w_opener, P_w_opener (k := 1) F_w_opener (C_w_draw d c) (by decide)⟩
  have C_w_lines : ∀ d c, Lc.Dn l.prog w K mg base "_law_lines" ["_law_deck_here", "_law_vocabulary_here", "_law_meanings"] 7 (spD ⟨K, hdD d⟩ (Zd d c) 3 (K_w_lines Fdraw K_w_unlike (K_w_opener Fdraw) (K_w_reason Fdraw (K_w_signs Fdraw)) (Fform 3))) := fun d c => ⟨f17, _, F_w_lines.kp, PySem.W.mg_of X G a17, b_w_lines, P_w_lines (k := 6) F_w_lines (C_w_draw d c) (by decide) (C_w_unlike d c) (by decide) (C_w_opener d c) (by decide) (C_w_reason d c) (by decide) (C_w_form d c) (by decide) m_list m_range m_tuple⟩
  have C_w_numbers : ∀ d c, Lc.Dn l.prog w K mg base "_law_numbers" ["_law_inside"] 1 (spD ⟨K, hdD d⟩ (Zd d c) 1 K_w_numbers) := fun d c => ⟨f18, _, F_w_numbers.kp, PySem.W.mg_of X G a18, b_w_numbers, P_w_numbers (k := 0) F_w_numbers m_tuple⟩
  have C_w_last : ∀ d c, Lc.Dn l.prog w K mg base "_law_last" ["_law_boxes", "_law_i"] 2 (spD ⟨K, hdD d⟩ (Zd d c) 2 (K_w_last K_w_numbers)) := fun d c => ⟨f19, _, F_w_last.kp, PySem.W.mg_of X G a19, b_w_last, P_w_last (k := 1) F_w_last (C_w_numbers d c) (by decide) m_max m_range m_len⟩
  have C_w_whole : ∀ d c, Lc.Dn l.prog w K mg base "_law_whole" ["_law_found"] 1 (spD ⟨K, hdD d⟩ (Zd d c) 1 K_w_whole) := fun d c => ⟨f20, _, F_w_whole.kp, PySem.W.mg_of X G a20, b_w_whole, P_w_whole (k := 0) F_w_whole m_isinstance m_bool m_int⟩
  exact ok_law F_law C_deck fun d c cdv A outer s H E hr => P_law (C_w_lines d c) (by decide) (C_w_vocabulary d c) (by decide) (C_w_numbers d c) (by decide) (C_openers_at d c) (by decide) (C_w_whole d c) (by decide) (C_box_of d c) (by decide) (C_w_last d c) (by decide) m_range m_len m_all m_isinstance m_tuple hr
end K23
open PySem PySem.W PyProof.Rows
set_option maxHeartbeats 0 in
theorem PySem.Challenge.cw_linecourt_k23_boxes_and_openers_holds : PySem.Challenge.rw_linecourt_k23_boxes_and_openers.Holds := by
  w_on; o_law; k_head; (case hw => w_witness2)
  k_fill
  refine L2.walk_of (l := PySem.Challenge.rw_linecourt_k23_boxes_and_openers) (n := 63) (k := 8) (x := "_law_script") (CX := fun _ => L2.CX0) (sp := fun w => Dl.spLaw _) rfl (by decide) rfl ⟨rfl, by decide, by decide⟩ (fun w h Y => PySem.W.kIn_of Y) ?F (fun _ _ a ns hl _ hS => ⟨a, ns, rfl, hS, fun _ => rfl⟩) (fun _ _ _ _ _ h => h)
  case F =>
    intro w mg fa h KX G hmg
    refine' K23.all_mk KX G hmg ?a0 ?l0 ?c0 ?k0 ?a1 ?l1 ?c1 ?k1 ?a2 ?l2 ?c2 ?k2 ?a3 ?l3 ?c3 ?k3 ?a4 ?l4 ?c4 ?k4 ?a5 ?l5 ?c5 ?k5 ?a6 ?l6 ?c6 ?k6 ?a7 ?l7 ?c7 ?k7 ?a8 ?l8 ?c8 ?k8 ?a9 ?l9 ?c9 ?k9 ?a10 ?l10 ?c10 ?k10 ?a11 ?l11 ?c11 ?k11 ?a12 ?l12 ?c12 ?k12 ?a13 ?l13 ?c13 ?k13 ?a14 ?l14 ?c14 ?k14 ?a15 ?l15 ?c15 ?k15 ?a16 ?l16 ?c16 ?k16 ?a17 ?l17 ?c17 ?k17 ?a18 ?l18 ?c18 ?k18 ?a19 ?l19 ?c19 ?k19 ?a20 ?l20 ?c20 ?k20 ?a21 ?l21 ?c21 ?k21 ?z_all ?z_bool ?z_enumerate ?z_int ?z_isinstance ?z_len ?z_list ?z_max ?z_range ?z_sorted ?z_tuple ?gg_OPENERS ?ll_OPENERS ?sz_OPENERS ?vv_OPENERS
    (case a0 => k_is); (case l0 => k_is); (case c0 => k_is); (case k0 => k_is); (case a1 => k_is); (case l1 => k_is); (case c1 => k_is); (case k1 => k_is); (case a2 => k_is); (case l2 => k_is); (case c2 => k_is); (case k2 => k_is); (case a3 => k_is); (case l3 => k_is); (case c3 => k_is); (case k3 => k_is); (case a4 => k_is); (case l4 => k_is); (case c4 => k_is); (case k4 => k_is); (case a5 => k_is); (case l5 => k_is); (case c5 => k_is); (case k5 => k_is); (case a6 => k_is); (case l6 => k_is); (case c6 => k_is); (case k6 => k_is); (case a7 => k_is); (case l7 => k_is); (case c7 => k_is); (case k7 => k_is); (case a8 => k_is); (case l8 => k_is); (case c8 => k_is); (case k8 => k_is); (case a9 => k_is); (case l9 => k_is); (case c9 => k_is); (case k9 => k_is); (case a10 => k_is); (case l10 => k_is); (case c10 => k_is); (case k10 => k_is); (case a11 => k_is); (case l11 => k_is); (case c11 => k_is); (case k11 => k_is); (case a12 => k_is); (case l12 => k_is); (case c12 => k_is); (case k12 => k_is); (case a13 => k_is); (case l13 => k_is); (case c13 => k_is); (case k13 => k_is); (case a14 => k_is); (case l14 => k_is); (case c14 => k_is); (case k14 => k_is); (case a15 => k_is); (case l15 => k_is); (case c15 => k_is); (case k15 => k_is); (case a16 => k_is); (case l16 => k_is); (case c16 => k_is); (case k16 => k_is); (case a17 => k_is); (case l17 => k_is); (case c17 => k_is); (case k17 => k_is); (case a18 => k_is); (case l18 => k_is); (case c18 => k_is); (case k18 => k_is); (case a19 => k_is); (case l19 => k_is); (case c19 => k_is); (case k19 => k_is); (case a20 => k_is); (case l20 => k_is); (case c20 => k_is); (case k20 => k_is); (case a21 => k_is); (case l21 => k_is); (case c21 => k_is); (case k21 => k_is); (case z_all => k_is); (case z_bool => k_is); (case z_enumerate => k_is); (case z_int => k_is); (case z_isinstance => k_is); (case z_len => k_is); (case z_list => k_is); (case z_max => k_is); (case z_range => k_is); (case z_sorted => k_is); (case z_tuple => k_is); (case gg_OPENERS => k_is); (case ll_OPENERS => k_is)
    (case sz_OPENERS => (first | decide | decide +kernel))
    (case vv_OPENERS => exact Lc.vals_strs (by decide +kernel))
