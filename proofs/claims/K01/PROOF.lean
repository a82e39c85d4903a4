import PyProof.Rows.All
import Wide.All
import OpenK.AllK
import Wide.FinOn
import HandS.ForMost
import HandS.More
import HandS.Wide
import HandS.IsInst
import HandS.Flow
import HandS.Replace
import HandS.Evl
import PyProof.NeData
import HandS.TupAny
import HandS.Rev
import KE.KDictList
import HandS.AnyAll
import HandS.Nested
import HandS.EndTab
import HandS.Dict
import HandS.FStr
import HandS.Walk
import HandS.JoinGen
import PySem.Challenge.RW_linecourt_k01_what_is_a_word
set_option Elab.async false
set_option linter.all false
set_option maxRecDepth 100000
set_option maxHeartbeats 4000000
namespace Lc
open PySem PySem.Spec PyProof.Rows L2
/-! ### a def that is called -/
structure Dn (P : Program) (w : World) (K : PySem.W.Frag) (mg : Str → Option Value) (base : Heap) (x : Str) (ps : List Str) (k : Nat) (sp : Sp) where
  f : Addr
  fd : FuncData
  kp : PySem.W.keepIn K (.ref f) = true
  g : mg x = some (.ref f)
  b : Binds K fd ps []
  G : FnOk P w K mg base CX0 k f fd ps sp
section
variable {X : Cx} {x : Str} {ps : List Str} {k : Nat} {sp : Sp} {e : Expr} {es : List Expr} {t : TA} {p pos : Pos}
theorem pe_dn (C : Dn X.prog X.w X.K X.mg X.base x ps k sp) (hr : Room k X.A) (hg : Gl X x) (ha : PA X (e :: es) t) (hdb : (x == ("__debug__" : Str)) = false := by decide)
    (he : starEach (e :: es) X.env = (false, eval e X.env) :: starEach es X.env := by rfl) (hpl : (backTo pos (starEach es X.env)).any (·.1) = false := by rfl) :
    PE X (.Call (.Name x p) (e :: es) [] pos) (tCall sp [] E0 t) := pe_call C.G hr hg C.g C.kp C.b .nil pass0 ha hdb he hpl
theorem pe_dn0 (C : Dn X.prog X.w X.K X.mg X.base x ps k sp) (hr : Room k X.A) (hg : Gl X x) (hdb : (x == ("__debug__" : Str)) = false := by decide) :
    PE X (.Call (.Name x p) [] [] pos) (tCall sp [] E0 tNil) := pe_call0 C.G hr hg C.g C.kp C.b .nil pass0 hdb
end
/-! ### frames: what is not in M stays as it is -/
def Fr (M : Addr → Prop) (H H' : Hp) : Prop := ∀ b o, H b = some o → ∃ o', H' b = some o' ∧ (¬ M b → o' = o)
theorem Fr.refl {M : Addr → Prop} (H : Hp) : Fr M H H := fun _ o h => ⟨o, h, fun _ => rfl⟩
theorem Fr.trans {M : Addr → Prop} {H H1 H2 : Hp} (a : Fr M H H1) (b : Fr M H1 H2) : Fr M H H2 := fun c o h => by
  obtain ⟨o1, h1, e1⟩ := a c o h
  obtain ⟨o2, h2, e2⟩ := b c o1 h1
  exact ⟨o2, h2, fun n => (e2 n).trans (e1 n)⟩
theorem Fr.new {M : Addr → Prop} {H : Hp} {p : Addr} {o : HO} (h : H p = none) : Fr M H (upd H p o) := fun b u e => ⟨u, by rw [upd_ne (ne_of_none e h)]; exact e, fun _ => rfl⟩
theorem Fr.mut {M : Addr → Prop} {H : Hp} {p : Addr} {o : HO} (h : M p) : Fr M H (upd H p o) := fun b u e => by
  by_cases q : b = p
  · subst q
    exact ⟨o, upd_same, fun n => absurd h n⟩
  · exact ⟨u, by rw [upd_ne q]; exact e, fun _ => rfl⟩
/-- what H does not know may change -/
theorem Fr.own {M : Addr → Prop} {H H' : Hp} {p : Addr} {o : HO} (e : Fr M H H') (h : H p = none) : Fr M H (upd H' p o) := fun b u q => by
  obtain ⟨o', h1, h2⟩ := e b u q
  exact ⟨o', by rw [upd_ne (ne_of_none q h)]; exact h1, h2⟩
theorem Fr.free {M : Addr → Prop} {H H' : Hp} {p : Addr} (e : Fr M H H') (h : H' p = none) : H p = none := by
  cases q : H p with
  | none => rfl
  | some o =>
    obtain ⟨o', h1, _⟩ := e p o q
    rw [h1] at h
    cases h
theorem Fr.at {M : Addr → Prop} {H H' : Hp} {b : Addr} {o : HO} (e : Fr M H H') (h : H b = some o) (n : ¬ M b) : H' b = some o := by
  obtain ⟨o', h1, h2⟩ := e b o h
  rw [h2 n] at h1
  exact h1
theorem Fr.of {M : Addr → Prop} {H H' : Hp} (e : Same H H') : Fr M H H' := fun b o h => ⟨o, e b o h, fun _ => rfl⟩
theorem Fr.seq {M : Addr → Prop} {K : PySem.W.Frag} {H H' : Hp} {a : Addr} {xs : List V} (e : Fr M H H') (n : ¬ M a) (h : SqL K H a xs) : SqL K H' a xs := by
  rcases h with (h | ⟨o, h⟩) | h
  · exact .inl (.inl (e.at h n))
  · exact .inl (.inr ⟨o, e.at h n⟩)
  · exact .inr h
theorem same_new {H : Hp} {p : Addr} {o : HO} (h : H p = none) : Same H (upd H p o) := fun b x e => by
  rw [upd_ne (ne_of_none e h)]
  exact e
theorem sz {n : Nat} (h : n ≤ 100000) : n ≤ sizeLine := Nat.le_trans h (by decide)
theorem szl {n : Nat} (h : n < 100000) : n < sizeLine := Nat.lt_of_lt_of_le h (by decide)
/-! ### powers by squares -/
theorem pow_odd (t s : Nat) (l : Nat) (h : l % 2 = 1) : t * s ^ l = (t * s) * (s * s) ^ (l / 2) := by
  have e : l = 2 * (l / 2) + 1 := by omega
  have e2 : (s * s) ^ (l / 2) = s ^ (2 * (l / 2)) := by rw [Nat.pow_mul]; congr 1; exact (Nat.pow_two s).symm
  rw [e2]
  conv => lhs; rw [e]
  rw [Nat.pow_succ, Nat.mul_assoc, Nat.mul_comm s]
theorem pow_even (t s : Nat) (l : Nat) (h : l % 2 = 0) : t * s ^ l = t * (s * s) ^ (l / 2) := by
  have e : l = 2 * (l / 2) := by omega
  have e2 : (s * s) ^ (l / 2) = s ^ (2 * (l / 2)) := by rw [Nat.pow_mul]; congr 1; exact (Nat.pow_two s).symm
  rw [e2, ← e]
/-! ### pigeons -/
theorem nodup_le {α : Type} [DecidableEq α] : ∀ (l m : List α), l.Nodup → (∀ x ∈ l, x ∈ m) → l.length ≤ m.length
  | [], m, _, _ => Nat.zero_le _
  | a :: l, m, hn, hs => by
    have ha : a ∈ m := hs a List.mem_cons_self
    have hn' := List.nodup_cons.mp hn
    have ih := nodup_le l (m.erase a) hn'.2 fun x hx => (List.mem_erase_of_ne (fun e => by subst e; exact hn'.1 hx)).mpr (hs x (List.mem_cons_of_mem _ hx))
    rw [List.length_erase_of_mem ha] at ih
    have : 0 < m.length := List.length_pos_of_mem ha
    simp only [List.length_cons]
    omega
/-- the words with one more sign -/
def alts (p : List Nat) : List (List Nat) := (List.range 26).map fun i => p ++ [97 + i]
theorem alts_nodup (p : List Nat) : (alts p).Nodup := by
  unfold alts
  have h := @List.nodup_range 26
  unfold List.Nodup at h ⊢
  rw [List.pairwise_map]
  refine h.imp fun {i j} ne e => ne ?_
  have := List.append_cancel_left e
  simp at this
  exact this
theorem own_few (own : List (List Nat)) (n : Nat) (h : ∀ o ∈ own, (own.filter fun q => decide (q.dropLast = o.dropLast)).length ≤ n) (p : List Nat) : (own.filter fun q => decide (q.dropLast = p)).length ≤ n := by
  by_cases hp : ∃ o ∈ own, o.dropLast = p
  · obtain ⟨o, ho, e⟩ := hp
    rw [← e]
    exact h o ho
  · have : (own.filter fun q => decide (q.dropLast = p)) = [] := by
      rw [List.filter_eq_nil_iff]
      intro q hq
      simp
      exact fun e => hp ⟨q, hq, e⟩
    rw [this]
    exact Nat.zero_le _
theorem free_sign (known own : List (List Nat)) (n : Nat) (h : ∀ o ∈ own, (own.filter fun q => decide (q.dropLast = o.dropLast)).length ≤ n) (hk : known.length + n < 26) (p : List Nat) :
    ∃ i, i < 26 ∧ (p ++ [97 + i]) ∉ known ∧ (p ++ [97 + i]) ∉ own := by
  apply Classical.byContradiction
  intro hc
  have hs : ∀ x ∈ alts p, x ∈ known ++ own.filter fun q => decide (q.dropLast = p) := by
    intro x hx
    obtain ⟨i, hi, rfl⟩ := List.mem_map.mp hx
    have hi := List.mem_range.mp hi
    by_cases h1 : (p ++ [97 + i]) ∈ known
    · exact List.mem_append_left _ h1
    · by_cases h2 : (p ++ [97 + i]) ∈ own
      · refine List.mem_append_right _ (List.mem_filter.mpr ⟨h2, ?_⟩)
        simp
      · exact absurd ⟨i, hi, h1, h2⟩ hc
  have := nodup_le _ _ (alts_nodup p) hs
  rw [List.length_append] at this
  have h2 := own_few own n h p
  have h3 : (alts p).length = 26 := by simp [alts]
  omega
end Lc
namespace Lc
open PySem PySem.Spec PyProof.Rows L2
/-! ### data -/
theorem dpI {K : PySem.W.Frag} {H : Hp} : ∀ ns : List Int, DpAll K H (ns.map V.int) (ns.map PyData.int)
  | [] => .nil
  | n :: r => .cons (.int n) (dpI r)
theorem dpS {K : PySem.W.Frag} {H : Hp} : ∀ ns : List Str, DpAll K H (ns.map V.str) (ns.map PyData.str)
  | [] => .nil
  | n :: r => .cons (.str n) (dpS r)
theorem lay_ints : ∀ ns : List Int, PyData.canLayAll0 (ns.map PyData.int) = true
  | [] => rfl
  | n :: r => by
    show (PyData.canLay0 (.int n) && PyData.canLayAll0 (r.map PyData.int)) = true
    rw [lay_ints r]
    rfl
theorem dep_ints : ∀ ns : List Int, PyData.depthAll (ns.map PyData.int) = 0
  | [] => rfl
  | n :: r => by
    show max (PyData.depth (.int n)) (PyData.depthAll (r.map PyData.int)) = 0
    rw [dep_ints r]
    rfl
theorem shInts (ns : List Int) : SeqAt.shaped (.list (ns.map PyData.int)) = true := by
  unfold SeqAt.shaped
  rw [show PyData.canLay0 (.list (ns.map PyData.int)) = true from lay_ints ns, show PyData.depth (.list (ns.map PyData.int)) = 1 by show PyData.depthAll _ + 1 = 1; rw [dep_ints]]
  rfl
theorem lay_strs : ∀ ns : List Str, (∀ x ∈ ns, PyData.canLay0 (.str x) = true) → PyData.canLayAll0 (ns.map PyData.str) = true
  | [], _ => rfl
  | n :: r, h => by
    show (PyData.canLay0 (.str n) && PyData.canLayAll0 (r.map PyData.str)) = true
    rw [lay_strs r fun x hx => h x (List.mem_cons_of_mem _ hx), h n List.mem_cons_self]
    rfl
theorem dep_strs : ∀ ns : List Str, PyData.depthAll (ns.map PyData.str) = 0
  | [] => rfl
  | n :: r => by
    show max (PyData.depth (.str n)) (PyData.depthAll (r.map PyData.str)) = 0
    rw [dep_strs r]
    rfl
theorem shStrs (ns : List Str) (h : ∀ x ∈ ns, PyData.canLay0 (.str x) = true) : SeqAt.shaped (.list (ns.map PyData.str)) = true := by
  unfold SeqAt.shaped
  rw [show PyData.canLay0 (.list (ns.map PyData.str)) = true from lay_strs ns h, show PyData.depth (.list (ns.map PyData.str)) = 1 by show PyData.depthAll _ + 1 = 1; rw [dep_strs]]
  rfl
theorem eqv_nil {α : Type} (f : α → PyData) : ∀ ns : List α, PyData.eqv (.list (ns.map f)) (.list []) = ns.isEmpty
  | [] => rfl
  | _ :: _ => rfl
theorem cut_to (xs : List V) (k : Nat) : cutV xs none (some (k : Int)) = xs.take k := by
  unfold cutV
  rw [HT.sIx_none, HT.sIx_nat, List.drop_zero, Nat.sub_zero]
  by_cases h : k ≤ xs.length
  · rw [Nat.min_eq_left h]
  · rw [Nat.min_eq_right (by omega), List.take_length, List.take_of_length_le (by omega)]
theorem cut_from (xs : List V) (k : Nat) : cutV xs (some (k : Int)) none = xs.drop k := by
  unfold cutV
  rw [HT.sIx_none, HT.sIx_nat]
  by_cases h : k ≤ xs.length
  · rw [Nat.min_eq_left h, List.take_of_length_le]
    rw [List.length_drop]
    exact Nat.le_refl _
  · rw [Nat.min_eq_right (by omega), Nat.sub_self, List.take_zero, List.drop_of_length_le (by omega)]
end Lc
namespace Lc
open PySem PySem.Spec PyProof.Rows L2
/-! ### texts by their codes -/
def tx (l : List Nat) : Str := ⟨l.toArray⟩
theorem tx_cps (l : List Nat) : (tx l).cps.toList = l := by simp [tx]
theorem tx_len (l : List Nat) : (tx l).length = l.length := by simp [tx, Str.length]
theorem tx_app (a b : List Nat) : tx a ++ tx b = tx (a ++ b) := by
  have h : (tx a ++ tx b).cps = (tx (a ++ b)).cps := by rw [Str.cps_append]; simp [tx]
  generalize tx a ++ tx b = x at h
  cases x
  cases h
  rfl
theorem tx_of (s : Str) : s = tx s.cps.toList := by
  cases s
  simp [tx]
theorem tx_inj {a b : List Nat} : tx a = tx b ↔ a = b := ⟨fun h => by rw [← tx_cps a, h, tx_cps], fun h => by rw [h]⟩
theorem tx_one (c : Nat) : (⟨#[c]⟩ : Str) = tx [c] := rfl
theorem cutS_to (l : List Nat) (k : Nat) : cutS (tx l) none (some (k : Int)) = tx (l.take k) := by
  unfold cutS
  rw [HT.sIx_none, HT.sIx_nat, tx_cps, tx_len, List.drop_zero, Nat.sub_zero]
  unfold tx
  by_cases h : k ≤ l.length
  · rw [Nat.min_eq_left h]
  · rw [Nat.min_eq_right (by omega), List.take_length, List.take_of_length_le (by omega)]
theorem cutS_from (l : List Nat) (k : Nat) : cutS (tx l) (some (k : Int)) none = tx (l.drop k) := by
  unfold cutS
  rw [HT.sIx_none, HT.sIx_nat, tx_cps, tx_len]
  unfold tx
  by_cases h : k ≤ l.length
  · rw [Nat.min_eq_left h, List.take_of_length_le]
    rw [List.length_drop]
    exact Nat.le_refl _
  · rw [Nat.min_eq_right (by omega), Nat.sub_self, List.take_zero, List.drop_of_length_le (by omega)]
theorem cutS_last (p : List Nat) (x : Nat) : cutS (tx (p ++ [x])) none (some (-1)) = tx p := by
  unfold cutS
  rw [HT.sIx_none, tx_cps, tx_len, List.drop_zero, Nat.sub_zero]
  have e : HT.sIx (p ++ [x]).length (p ++ [x]).length (some (-1)) = p.length := by
    rw [List.length_append]
    show HT.sIx (p.length + 1) (p.length + 1) (some (-1)) = p.length
    unfold HT.sIx
    simp
    omega
  rw [e, List.take_left]
  rfl
theorem in_strs {x : Str} : ∀ {xs : List Str}, inV (.str x) (xs.map V.str) = decide (x ∈ xs)
  | [] => by simp [inV]
  | y :: r => by
    have ih := in_strs (x := x) (xs := r)
    unfold inV at ih ⊢
    rw [List.map_cons, List.any_cons, ih]
    show ((y == x) || decide (x ∈ r)) = decide (x ∈ y :: r)
    by_cases h : y = x
    · subst h
      simp
    · have h2 : ¬ x = y := fun e => h e.symm
      simp [h, h2]
theorem flat_strs : ∀ xs : List Str, (xs.map V.str).all flatV = true
  | [] => rfl
  | y :: r => by
    rw [List.map_cons, List.all_cons, flat_strs r]
    rfl
/-- small signs alone -/
def Low (l : List Nat) : Prop := ∀ c ∈ l, 97 ≤ c ∧ c ≤ 122
theorem Low.app {a b : List Nat} (h : Low a) (g : Low b) : Low (a ++ b) := fun c hc => (List.mem_append.mp hc).elim (h c) (g c)
theorem Low.take {a : List Nat} (h : Low a) (k : Nat) : Low (a.take k) := fun c hc => h c (List.mem_of_mem_take hc)
theorem Low.drop {a : List Nat} (h : Low a) (k : Nat) : Low (a.drop k) := fun c hc => h c (List.mem_of_mem_drop hc)
theorem Low.lay {a : List Nat} (h : Low a) : PyData.canLay0 (.str (tx a)) = true := by
  show PySem.PyData.strOk (tx a) = true
  unfold PyData.strOk tx
  rw [List.all_toArray]
  rw [List.all_eq_true]
  intro c hc
  have := h c hc
  simp
  omega
end Lc
namespace Lc
open PySem PySem.Spec PyProof.Rows L2
/-! ### the rules with the written part told, for use inside a comprehension -/
section
variable {X : Cx} (K : PySem.W.Frag)
theorem ix_listK (h : X.K = K := by rfl) : IxR X (rIxL K) := h ▸ ix_list
theorem ix_tupK (h : X.K = K := by rfl) : IxR X (rIxT K) := h ▸ ix_tup
theorem ix_seqK (h : X.K = K := by rfl) : IxR X (rIx K) := h ▸ ix_seq
theorem sl_listK (h : X.K = K := by rfl) : SlR X (rSlL K) := h ▸ sl_list
theorem sl_tupK (h : X.K = K := by rfl) : SlR X (rSlT K) := h ▸ sl_tup
theorem op_in_seqK (h : X.K = K := by rfl) : OpR X (compareOp .In) (rIn K false) := h ▸ op_in_seq
theorem op_notIn_seqK (h : X.K = K := by rfl) : OpR X (compareOp .NotIn) (rIn K true) := h ▸ op_notIn_seq
theorem op_eqDK (hu : X.A.units + 64 < cLine) (h : X.K = K := by rfl) : OpR X (compareOp .Eq) (rEqD K) := h ▸ op_eqD hu
theorem op_neDK (hu : X.A.units + 64 < cLine) (h : X.K = K := by rfl) : OpR X (compareOp .NotEq) (rNeD K) := h ▸ op_neD hu
theorem op_catTK (h : X.K = K := by rfl) : OpR X (binaryOp .Add) (rCatT K) := h ▸ op_catT
def rLenQ (K : PySem.W.Frag) : List V → Hp → VK → Prop := fun xs H Q => ∃ p ys, xs = [.ref p] ∧ (SqL K H p ys ∨ SqT K H p ys) ∧ Q (.int ys.length) H
theorem call_len_seqK (h : X.K = K := by rfl) : CallR X (.builtin "len") (rLenQ K) := h ▸ call_len_seq
theorem call_isiK' (h : X.K = K := by rfl) : CallR X (.builtin "isinstance") (rIsi K) := h ▸ call_isi
variable {o e : Expr} {es : List Expr} {to : TE} {t : TA} {name : Str} {apos cpos : Pos} {T id : String} {r : V → List V → Hp → VK → Prop}
theorem pe_bmK (pa : PlainAttrs T) (slot : Slot T name id) (hty : typeOf (.builtin id) = pure (.type "method_descriptor")) (hm : MtR X id r) (ho : PE X o to) (ha : PA X (e :: es) t) (h : X.K = K := by rfl)
    (hbase : attributeBase o name X.env (eval o X.env) = eval o X.env := by rfl)
    (hfew : ((backTo cpos (starEach (e :: es) X.env)).all (fun x => !x.1) && (backToKw cpos (keywordEach [] X.env)).all (fun x => x.1.isSome)
      && decide ((e :: es).length + ([] : List Keyword).length + (if ([] : List Keyword).isEmpty then 0 else 1) < 30)) = true := by rfl)
    (hline : (apos.endLine == cpos.line) = true := by rfl) (hs : starEach (e :: es) X.env = (false, eval e X.env) :: starEach es X.env := by rfl) (hplain : (backTo cpos (starEach es X.env)).any (·.1) = false := by rfl) :
    PE X (.Call (.Attribute o name apos) (e :: es) [] cpos) (tBM K T r to t) := h ▸ pe_bm pa slot hty hm ho ha hbase hfew hline hs hplain
theorem pe_bm0K (pa : PlainAttrs T) (slot : Slot T name id) (hty : typeOf (.builtin id) = pure (.type "method_descriptor")) (hm : MtR X id r) (ho : PE X o to) (h : X.K = K := by rfl)
    (hbase : attributeBase o name X.env (eval o X.env) = eval o X.env := by rfl) (hline : (apos.endLine == cpos.line) = true := by rfl) : PE X (.Call (.Attribute o name apos) [] [] cpos) (tBM0 K T r to) := h ▸ pe_bm0 pa slot hty hm ho hbase hline
theorem pg_tupK {es : List Expr} {k : Nat} {t : TGs} {n : Nat} {pos : Pos} (hc : X.calm = true) (hg : PGs X es t) (h : X.K = K := by rfl)
    (hn : (assignEach es X.env).length = n := by rfl) (hst : (assignEach es X.env).findIdx? (·.1) = none := by rfl) : PG X (.Tuple es k pos) (gTup K n t) := h ▸ pg_tup hc hg hn hst
theorem pi_listK {tg l : Expr} {tl : TE} (hl : PE X l tl) (h : X.K = K := by rfl) : PI X tg l (iList K tl) := h ▸ pi_list hl
theorem pi_tupK {tg l : Expr} {tl : TE} (hl : PE X l tl) (h : X.K = K := by rfl) : PI X tg l (iTup K tl) := h ▸ pi_tup hl
end
end Lc
namespace Lc
open PySem PySem.Spec PyProof.Rows L2
theorem yes_if {σ : L2.St} {H : Hp} {A B : Hp → Prop} (h : A H) : tYes σ H (fun b H3 => if b = true then A H3 else B H3) := by
  show if true = true then A H else B H
  rw [if_pos rfl]
  exact h
end Lc
set_option Elab.async false
set_option linter.all false
set_option maxRecDepth 100000
set_option maxHeartbeats 4000000
namespace Lc
open PySem PySem.Spec PyProof.Rows L2
/-! ### x == [], x != [], t == (), t != (), whatever the items are -/
section
variable {X : Cx}
theorem size_ne {xs : List V} {its : List Value} (r : Vals xs its) (h : xs ≠ []) : (its.toArray.size != (#[] : Array Value).size) = true := by
  have e := r.length
  have : xs.length ≠ 0 := fun z => h (List.length_eq_zero_iff.mp z)
  simp
  intro z
  rw [z] at e
  simp at e
  exact h e
def rEqNil (K : PySem.W.Frag) (neg : Bool) : R2 := fun x y H Q => ∃ a b xs, x = .ref a ∧ y = .ref b ∧ SqL K H a xs ∧ SqL K H b [] ∧ Q (.bl (xs.isEmpty != neg)) H
def rEqNilT (K : PySem.W.Frag) (neg : Bool) : R2 := fun x y H Q => ∃ a b xs, x = .ref a ∧ y = .ref b ∧ SqT K H a xs ∧ SqT K H b [] ∧ Q (.bl (xs.isEmpty != neg)) H
theorem op_eqNil (hu : X.A.units < cLine) : OpR X (compareOp .Eq) (rEqNil X.K false) := by
  intro pins s σ H x y v u Q I rx ry h
  obtain ⟨a, b, xs, rfl, rfl, ha, hb, q⟩ := h
  cases rx
  cases ry
  obtain ⟨its, r1, p1, _⟩ := I.list ha
  obtain ⟨its2, r2, p2, _⟩ := I.list hb
  cases r2
  by_cases hx : xs = []
  · subst hx
    cases r1
    exact SeqAt.eq_listAt (e := fun _ => true) p1.isList p2.isList rfl hu (fun j h1 _ => absurd h1 (by simp)) ⟨.bl true, H, I, rfl, q⟩
  · refine SeqAt.eq_list_lengthsAt p1.isList p2.isList (size_ne r1 hx) hu ⟨.bl false, H, I, rfl, ?_⟩
    cases xs with
    | nil => exact absurd rfl hx
    | cons _ _ => exact q
theorem op_neNil (hu : X.A.units < cLine) : OpR X (compareOp .NotEq) (rEqNil X.K true) := by
  intro pins s σ H x y v u Q I rx ry h
  obtain ⟨a, b, xs, rfl, rfl, ha, hb, q⟩ := h
  cases rx
  cases ry
  obtain ⟨its, r1, p1, _⟩ := I.list ha
  obtain ⟨its2, r2, p2, _⟩ := I.list hb
  cases r2
  by_cases hx : xs = []
  · subst hx
    cases r1
    exact SeqAt.RcNeAt.lists (e := fun _ => true) p1.isList p2.isList rfl hu (fun j h1 _ => absurd h1 (by simp)) _ _ _ _ ⟨.bl false, H, I, rfl, q⟩
  · refine SeqAt.RcNeAt.lists_lengths p1.isList p2.isList (size_ne r1 hx) hu _ _ _ _ ⟨.bl true, H, I, rfl, ?_⟩
    cases xs with
    | nil => exact absurd rfl hx
    | cons _ _ => exact q
theorem tup_empty {xs : List V} {its : List Value} (r : Vals xs its) : ((List.range (min its.toArray.size (#[] : Array Value).size)).all (fun _ => true) && its.toArray.size == (#[] : Array Value).size) = xs.isEmpty := by
  have e := r.length
  cases xs with
  | nil =>
    cases r
    rfl
  | cons a l =>
    cases r
    simp
theorem op_eqNilT (hu : X.A.units < cLine) : OpR X (compareOp .Eq) (rEqNilT X.K false) := by
  intro pins s σ H x y v u Q I rx ry h
  obtain ⟨a, b, xs, rfl, rfl, ha, hb, q⟩ := h
  cases rx
  cases ry
  obtain ⟨its, r1, p1, _⟩ := I.tuple ha
  obtain ⟨its2, r2, p2, _⟩ := I.tuple hb
  cases r2
  refine SeqAt.eq_tupleAt (e := fun _ => true) p1 p2 hu (fun j _ h2 => absurd h2 (by simp)) ?_
  rw [tup_empty r1]
  refine ⟨.bl xs.isEmpty, H, I, rfl, ?_⟩
  cases xs <;> exact q
theorem op_neNilT (hu : X.A.units < cLine) : OpR X (compareOp .NotEq) (rEqNilT X.K true) := by
  intro pins s σ H x y v u Q I rx ry h
  obtain ⟨a, b, xs, rfl, rfl, ha, hb, q⟩ := h
  cases rx
  cases ry
  obtain ⟨its, r1, p1, _⟩ := I.tuple ha
  obtain ⟨its2, r2, p2, _⟩ := I.tuple hb
  cases r2
  refine SeqAt.RcNeAt.tuples (e := fun _ => true) p1 p2 hu (fun j _ h2 => absurd h2 (by simp)) _ _ _ _ ?_
  rw [tup_empty r1]
  refine ⟨.bl (!xs.isEmpty), H, I, rfl, ?_⟩
  cases xs <;> exact q
end
end Lc
set_option Elab.async false
set_option linter.all false
set_option maxRecDepth 100000
set_option maxHeartbeats 4000000
namespace Lc
open PySem PySem.W PySem.Calls PyProof.Rows PyProof.V PySem.Spec L2 RT
/-! ### list(reversed(x)), x a list: a new list -/
section
variable {prog : Program} {w : World} {A : Around} {E : Value → Shared → Prop} {s : Shared}
/-- the items of the reversed list -/
abbrev RevItems (items : Array Value) : Nat → Value → Prop := fun i v => items[items.size - 1 - i]? = some v
theorem ext_rev {S it l : Addr} {items : Array Value} {res : Value} {k : Nat} {R : Result → Shared → Prop} (hh : A.handled = none) (hit : s.heap.IsRevIter it l ((items.size : Int) - 1))
    (hl : s.heap.IsList l items) (hne : l ≠ it) (hn : items.size ≤ sizeLine) (hSi : S ≠ it) (hSl : S ≠ l) (hS : s.heap.get? S = some { cls := .type "list", data := .seq #[] k })
    (hR : ∀ (h' : Heap) (tk : Nat) (acc : Array Value) (c : Nat), (∀ b o, b ≠ S → b ≠ it → s.heap.get? b = some o → h'.get? b = some o) →
      h'.get? S = some { cls := .type "list", dict := none, data := .seq acc c, slots := #[] } → ItemsOf (RevItems items) acc items.size → R (.ok (.ret res)) { s with heap := h', toks := tk }) :
    wpAny (model prog w) A.in1 (Builtin.List.listExtendWith (.ref S) (.ref it) res)
      (fun fin s' => match fin with
        | .done f => R (.ok f) s'
        | .again c' => c'.quiet = true ∧ codeAny (model prog w) A c' R s')
      (fun e s' => R (.error e) s') s := by
  have W := (Walks.listRev (prog := prog) (w := w) (A := A.in1) hh it l hne items).toS
  have hSf : S ∉ [it, l] := by
    intro h
    rcases List.mem_cons.mp h with e | h
    · exact hSi e
    · exact hSl (List.mem_singleton.mp h)
  have hT : s.TypeIs (.ref it) "list_reverseiterator" := Heap.IsRevIter.typeIs hit
  have same : Builtin.List.listSameRef (.ref S) (.ref it) = false := by
    unfold Builtin.List.listSameRef
    simp [hSi]
  unfold Builtin.List.listExtendWith
  refine wpAny_bind (wpAny_typeOf hT ?_)
  rw [if_neg (by rw [same]; decide)]
  refine wpAny_bind (wpAny_pyIter_revIter hit ?_)
  refine wpAny_bind (wpAny_holding ?_)
  unfold Builtin.List.listLengthHint
  refine wpAny_bind (wpAny_specialOf hT nolen_lri ?_)
  show wpAny _ _ (specialOf (Value.ref it) (Str.ofString "__length_hint__") >>= _) _ _ _
  refine wpAny_bind (wpAny_specialOf hT hint_lri ?_)
  generalize hq : ("list_reverseiterator.__length_hint__" : String) = q0
  wp_delta
  rw [show splitId q0 = some ("list_reverseiterator", "__length_hint__") by subst hq; decide +kernel]
  subst hq
  refine wpAny_bind (wpAny_isInstance (b := true) hT (by rw [isSubtype_type]; kernel_rfl) ?_)
  refine wpAny_pure ?_
  rw [if_neg (by decide)]
  refine wpAny_pure ⟨plainId_quiet F.plain_extend_loop _, ?_⟩
  have start : s.heap.IsRevIter it l (((items.size : Nat) : Int) - 1 - ((0 : Nat) : Int)) := by
    rw [show ((items.size : Nat) : Int) - 1 - ((0 : Nat) : Int) = (items.size : Int) - 1 by omega]
    exact hit
  refine codeAny_extend_loopS W hn _ hSf _ items.size 0 _ _ _ rfl (Nat.zero_le _) ⟨Nat.zero_le _, start, hl⟩ hS (ItemsOf.nil _) fun s' acc' c' hm hS' hacc => ?_
  rw [Moved.eq_with hm]
  refine hR s'.heap s'.toks acc' c' (fun b o b1 b2 e => hm.heap b o (fun z => ?_) e) hS' hacc
  rcases List.mem_cons.mp z with z | z
  · exact b1 z
  · exact b2 (List.mem_singleton.mp z)
theorem call_list_rev {it l : Addr} {items : Array Value} {Q : Value → Shared → Prop} (hh : A.handled = none) (hit : s.heap.IsRevIter it l ((items.size : Int) - 1)) (hl : s.heap.IsList l items)
    (hne : l ≠ it) (hn : items.size ≤ sizeLine)
    (hQ : ∀ (h' : Heap) (tk : Nat) (acc : Array Value) (c : Nat), (∀ b o, b ≠ it → s.heap.get? b = some o → h'.get? b = some o) →
      h'.get? s.heap.objs.size = some { cls := .type "list", dict := none, data := .seq acc c, slots := #[] } → ItemsOf (RevItems items) acc items.size → Q (.ref s.heap.objs.size) { s with heap := h', toks := tk }) :
    wpAny (model prog w) A (call (.type "list") [.ref it]) Q E s := by
  obtain ⟨oi, hoi, _⟩ := id hit
  obtain ⟨ol, hol, _⟩ := id hl
  have gi : s.heap.objs.size ≠ it := Nat.ne_of_gt (Heap.lt_size hoi)
  have gl : s.heap.objs.size ≠ l := Nat.ne_of_gt (Heap.lt_size hol)
  refine callType_codes (Q₁ := fun obj s₁ => obj = .ref s.heap.objs.size ∧ s₁ = { s with heap := s.heap.push { cls := .type "list", data := .seq #[] } })
    PySem.F.called_list (PySem.F.typeCall_list_1 _) PySem.F.entry_list_init (code_list_new _ ⟨rfl, rfl⟩) fun obj s₁ h₁ => ?_
  obtain ⟨rfl, rfl⟩ := h₁
  have hS : (s.heap.push { cls := .type "list", data := .seq #[] }).get? s.heap.objs.size = some { cls := .type "list", data := .seq #[] } := Heap.get?_push_size _ rfl
  refine ⟨⟨_, hS, rfl⟩, PySem.F.args_list_init_2 _ _, ?_⟩
  show wpAny _ _ (do
    let old ← Builtin.List.listItems (.ref s.heap.objs.size)
    Builtin.List.listUpdate (.ref s.heap.objs.size) (fun _ => #[])
    letGo old.toList.reverse
    Builtin.List.listExtendWith (.ref s.heap.objs.size) (.ref it) .none) _ _ _
  refine wpAny_bind ?_
  unfold Builtin.List.listItems
  refine wpAny_bind (wpAny_seqItems hS rfl (wpAny_pure ?_))
  show wpAny _ _ (updateSeq s.heap.objs.size (fun _ => #[]) >>= fun _ => letGo (#[] : Array Value).toList.reverse >>= fun _ =>
    Builtin.List.listExtendWith (.ref s.heap.objs.size) (.ref it) .none) _ _ _
  refine wpAny_bind (wpAny_updateSeq hS rfl ?_)
  have hS₂ := Heap.get?_update_self (Obj.mapSeq (fun _ => (#[] : Array Value))) hS rfl
  have oth : ∀ b o, b ≠ s.heap.objs.size → s.heap.get? b = some o →
      ((s.heap.push { cls := .type "list", data := .seq #[] }).update s.heap.objs.size (Obj.mapSeq (fun _ => (#[] : Array Value)))).get? b = some o := fun b o hb e => by
    rw [Heap.get?_update_other _ _ (Ne.symm hb)]
    exact Heap.get?_push_of_some _ e
  refine wpAny_bind (wpAny_letGo ?_)
  refine ext_rev (l := l) (items := items) hh ?_ ?_ hne hn gi gl hS₂ (fun h' tk acc c hk hS' hacc => ?_)
  · exact hit.at fun o e => oth it o gi.symm e
  · obtain ⟨o, ho, hr⟩ := hl
    exact ⟨o, oth l o gl.symm ho, hr⟩
  · refine ⟨rfl, hQ h' tk acc c (fun b o hb e => ?_) hS' hacc⟩
    have bs : b ≠ s.heap.objs.size := Nat.ne_of_lt (Heap.lt_size e)
    exact hk b o bs hb (oth b o bs e)
end
section
variable {X : Cx}
/-- a new list of the items, the last one first -/
def tListRev (K : PySem.W.Frag) (te : TE) : TE := fun σ H Q => te σ H fun v H1 => ∃ (a : Addr) (xs : List V), v = .ref a ∧ SqL K H1 a xs ∧ ∀ q, H1 q = none → Q (.ref q) (upd H1 q (.lst xs.reverse))
theorem pe_listRev {e : Expr} {te : TE} {p p2 pos pos2 : Pos} (hc : X.calm = true) (hg : Gl X "list") (hm : X.mg "list" = none) (hg2 : Gl X "reversed") (hm2 : X.mg "reversed" = none) (he : PE X e te)
    (hs : starEach [e] X.env = (false, eval e X.env) :: starEach [] X.env := by rfl)
    (hs2 : starEach [.Call (.Name "reversed" p2) [e] [] pos2] X.env = (false, eval (.Call (.Name "reversed" p2) [e] [] pos2) X.env) :: starEach [] X.env := by rfl) :
    PE X (.Call (.Name "list" p) [.Call (.Name "reversed" p2) [e] [] pos2] [] pos) (tListRev X.K te) := by
  refine ⟨fun pins s σ H Q I h => ?_⟩
  refine Call_ (ld_blt I hg hm (u := .type "list") (by decide +kernel) (PyProof.Rows.callWith_type1 (args_cons (Call_ (ld_blt I hg2 hm2 PyProof.Rows.boot_reversed
    (PyProof.Rows.callWith_type1 (args_cons (thn (he.run pins s σ H _ I h) fun u s1 ⟨v, H1, I1, r1, q1⟩ => args_nil ?_) hs) hs rfl))) hs2) hs2 rfl))
  obtain ⟨a, xs, ev, hq, q⟩ := q1
  subst ev
  obtain rfl : u = Value.ref a := r1
  obtain ⟨its, rv, p', hz⟩ := I1.list hq
  refine call_reversed_list p'.isList (args_nil ?_)
  have hl := p'.isList
  obtain ⟨ol, hol, _⟩ := id hl
  have hn : its.toArray.size ≤ sizeLine := by
    rw [List.size_toArray, ← rv.length]
    exact hz
  refine call_list_rev (s := { s1 with heap := s1.heap.push (revObj a ((its.toArray.size : Int) - 1)) }) (I1.ok.hd hc) ⟨_, Heap.get?_push_size _ rfl, rfl, rfl⟩ (hl.push _)
    (Nat.ne_of_lt (Heap.lt_size hol)) hn fun h' tk acc c hk hS hi => ?_
  have big : s1.heap.objs.size ≤ (s1.heap.push (revObj a ((its.toArray.size : Int) - 1))).objs.size := by
    rw [Heap.size_push]
    omega
  refine ⟨.ref _, upd H1 _ (.lst xs.reverse), I1.laid (h' := h') (t' := tk) (fun b o e => hk b o (Nat.ne_of_lt (Heap.lt_size e)) (Heap.get?_push_of_some _ e)) big ?_, rfl, q _ (I1.hok.fresh big)⟩
  refine ⟨by rw [List.length_reverse]; exact hz, acc.toList, c, vals_rev rv hi, ?_⟩
  rw [Array.toArray_toList]
  exact hS
end
end Lc
set_option Elab.async false
set_option linter.all false
set_option maxRecDepth 100000
set_option maxHeartbeats 4000000
/-! all(x in y for x in e): e a text, y a captured name that holds a text -/
namespace Lc
open PySem PySem.Spec PyProof.Rows L2 GxR
/-- a test of the sign d by the text z, which the cell of y holds -/
def EltC (P : Program) (w : World) (sc : Scope) (x y : Str) (e : Expr) (pb : Str → Nat → Bool) : Prop :=
  ∀ (en : Env) (B : Around) (Ex : Value → Shared → Prop) (d : Nat) (t tz : Tok) (z : Str) (q : Addr) (r : Shared) (m : Str → Option Value),
    en.scope = sc → en.cells.lookup y = some q → r.heap.IsCell q (some (.str z tz)) → r.heap.Ns en.locals m → m x = some (.str ⟨#[d]⟩ t) →
      wpAny (model P w) B (eval e en) (fun b r' => b = .bool (pb z d) ∧ Keeps r r') Ex r
theorem eltC_in {P : Program} {w : World} {sc : Scope} {x y : Str} {p1 p2 p3 : Pos} (hk : sc.kind = .function) (hx : sc.names.lookup x = some .local) (hy : sc.names.lookup y = some .free)
    (dx : (x == ("__debug__" : Str)) = false := by decide) (dy : (y == ("__debug__" : Str)) = false := by decide) (cy : (y == ("__classdict__" : Str)) = false := by decide) :
    EltC P w sc x y (.Compare (.Name x p1) [.In] [.Name y p2] p3) (fun z d => decide (d ∈ z.cps.toList)) := by
  intro en B Ex d t tz z q r m es ec hc hn hm
  refine wpAny_Compare1 (wpAny_Name (wpAny_loadName_local (by rw [es]; exact hk) (show en.scope.names.lookup x = some .local by rw [es]; exact hx) hn hm ?_) dx)
  refine wpAny_Name (wpAny_loadName_free (by rw [es]; exact hk) (show en.scope.names.lookup y = some .free by rw [es]; exact hy) ec hc ?_ cy) dy
  exact PyProof.Rows.in_str ⟨congrArg Value.bool (PySem.StrLaws.found_one z d), keeps_refl _⟩
section
variable {X : Cx} {pins : List (Addr × Obj)} {σ : L2.St} {H : Hp} {s : Shared}
/-- the cell of a captured name -/
theorem cell_of {i : Nat} {y z : Str} (I : Inv X pins σ H s) (hN : X.N[i]? = some y) (hs : σ[i]? = some (some (.str z))) (hv : Vis X.env.scope y) (hy : X.env.kindOf y = some .cell) :
    ∃ q tz, X.env.cells.lookup y = some q ∧ s.heap.IsCell q (some (.str z tz)) := by
  obtain ⟨m, _, hl⟩ := I.loc
  obtain ⟨u, ru, lk⟩ := hl i y _ hN hs hv
  obtain ⟨tz, rfl⟩ := ru
  rcases lk with ⟨lk, _⟩ | ⟨_, q, e1, e2⟩
  · rw [hy] at lk
    cases lk
  · exact ⟨q, tz, e1, e2⟩
theorem gen_strC {c P : Addr} {e it : Expr} {x y : Str} {px gp : Pos} {sc : Scope} {pb : Str → Nat → Bool} {te : TE} {k i : Nat} {Q' : Value → Shared → Prop} {R : Str → Str → Hp → Prop}
    (hr : Room k X.A) (TB : TabB X.base X.mg c P) (hcode : X.env.code = .ref c) (S : GenS X.env sc x) (hN : X.N[i]? = some y) (hV : Vis X.env.scope y) (hy : X.env.kindOf y = some .cell) (hm : (y, NameKind.free) ∈ sc.names)
    (hi : PE X it te) (hel : EltC X.prog X.w sc x y e pb) (hs : ∀ v, genFold it X.env v = pure v) (I : Inv X pins σ H s)
    (h : te σ H fun v H1 => ∃ a z : Str, v = .str a ∧ σ[i]? = some (some (.str z)) ∧ TabG H1 P ∧ R a z H1) (hQ : ∀ a z H1 g s5, R a z H1 → Ready X pins σ H1 P a (pb z) g s5 → Q' (.ref g) s5) :
    wpAny (model X.prog X.w) X.A (eval (.GeneratorExp e [⟨.Name x px, it, [], 0⟩] sc gp) X.env) Q' X.xe s := by
  refine wpAny_GeneratorExp_walksQ hr.hd S.co (closure_ok S.free) S.cell S.dot S.loc S.kind (by have := hr.dp; omega) (thn (hi.run pins s σ H _ I h) fun xv sa ⟨v, H1, Ia, rv, qv⟩ => ?_) hs
  obtain ⟨a, z, rfl, hz, ⟨tb, hP, ht⟩, qv⟩ := qv
  obtain ⟨q, tz, hq, hcq⟩ := cell_of Ia hN hz hV hy
  obtain ⟨t, rfl⟩ := _root_.id rv
  refine wpAny_pyIter_str fun o St W hst => ⟨Ia.nolimit.push o, ?_⟩
  have atP : sa.heap.get? P = some { cls := .none, data := .fields tb } := Ia.hok P _ hP
  have ltP : P < sa.heap.objs.size := Heap.lt_size atP
  have atP2 : (sa.heap.push o).get? P = some { cls := .none, data := .fields tb } := Heap.get?_push_of_some _ atP
  have cd : PySem.W.CodeHd (sa.heap.push o) c P := TB.code.keeps fun b u eb => Heap.get?_push_of_some _ (Ia.bk b u eb)
  have go : ∀ (cv : Value) (h3 : Heap) (tk : Nat) (tb' : Array Value), Heap.ExtBut P (sa.heap.push o) h3 → (sa.heap.push o).objs.size ≤ h3.objs.size → h3.get? P = some { cls := .none, data := .fields tb' } → (∃ more, tb' = tb ++ more) → TriplesOk tb'.toList →
      wpAny (model X.prog X.w) X.A (builtinsFor X.env.globals X.env.builtins) (fun bi sd => ∃ Ia fp wr n₀ Pf St₀ pz F, Value.ref sa.heap.objs.size = .ref Ia ∧ (∀ A' : Around, A'.handled = none → Walks X.prog X.w A' Ia fp wr n₀ Pf St₀) ∧ St₀ 0 sd.heap ∧
          (∀ b ∈ fp, b < sd.heap.objs.size) ∧ sd.heap.NoLimit ∧ cStatics ∉ wr ∧
          (∀ hf : Heap, (∀ b ob, sd.heap.get? b = some ob → hf.get? b = some ob) → QuietGen X.prog X.w (genEnv sc (cloFrom X.env.cells sc.names []) sd.heap.objs.size cv bi X.env) x [] e (List.range sd.heap.objs.size) wr Pf pz F hf) ∧
          (∀ g h₅ tk gs, gs.bare = true → sd.heap.objs.size < g → h₅.objs.size = g + 1 → (∀ b ob, sd.heap.get? b = some ob → h₅.get? b = some ob) →
            WalksS X.prog X.w X.A.in4 g (g :: sd.heap.objs.size :: List.range sd.heap.objs.size) (sd.heap.objs.size :: wr) (GenOnlyQ sd.gens.size) (passing pz n₀ 0).length (fun j u => ∃ i, (passing pz n₀ 0)[j]? = some i ∧ F i u)
              (GenAt X.prog X.w X.A.in4 g sd.gens.size sd.heap.objs.size (List.range sd.heap.objs.size) wr pz n₀ F) →
            GenAt X.prog X.w X.A.in4 g sd.gens.size sd.heap.objs.size (List.range sd.heap.objs.size) wr pz n₀ F 0 { sd with gens := sd.gens.push gs, toks := tk, heap := h₅ } → Q' (.ref g) { sd with gens := sd.gens.push gs, toks := tk, heap := h₅ })) X.xe { sa with heap := h3, toks := tk } := by
    intro cv h3 tk tb' hx hsz hP3 hmore ht3
    obtain ⟨bm, ob, e1, e2, e3, e4, e5, e6, e7, e8⟩ := TB.bm
    have nSP : cStatics ≠ P := fun z9 => by
      obtain ⟨_, ⟨o', es, ep, ho, hd, _⟩, _⟩ := Ia.nolimit
      rw [z9, atP] at ho
      cases ho
      cases hd
    have ltS : cStatics < sa.heap.objs.size := let ⟨_, hns, _⟩ := Ia.nolimit; hns.lt
    have szp : (sa.heap.push o).objs.size = sa.heap.objs.size + 1 := Heap.size_push ..
    have kp : ∀ b u, b ≠ P → sa.heap.get? b = some u → h3.get? b = some u := fun b u nb eb => hx b u nb (Heap.get?_push_of_some _ eb)
    have nqP : q ≠ P := fun z9 => by
      have := Ia.freeC y q hq
      rw [z9, hP] at this
      cases this
    refine wpAny_builtinsFor (m := X.mg) (by rw [Ia.ok.glob]; exact ((Ia.mod.glob.keeps Ia.bk).push o).extBut hx TB.gP) e1 e2 (kp _ _ e4 (Ia.bk _ _ e5)) e6 e7 e8 ?_
    refine ⟨_, [sa.heap.objs.size], [sa.heap.objs.size], a.cps.size, SignAt a, St, fun _ => true, fun i u => ∃ d, a.cps[i]? = some d ∧ u = .bool (pb z d), rfl, W, ?_, fun b hb => ?_, (Ia.nolimit.push o).extBut hx nSP, fun z9 => ?_, ?_, ?_⟩
    · refine (W X.A hr.hd).frame _ _ _ hst fun b hb u eb => hx b u (fun z9 => ?_) eb
      rcases List.mem_cons.mp hb with z8 | z8
      · exact Nat.ne_of_lt ltP (z9.symm.trans z8)
      · cases z8
    · rcases List.mem_cons.mp hb with z9 | z9
      · rw [z9]
        show sa.heap.objs.size < h3.objs.size
        omega
      · cases z9
    · rcases List.mem_cons.mp z9 with z8 | z8
      · exact Nat.ne_of_lt ltS z8
      · cases z8
    · intro hf hhf
      refine ⟨fun B Ex j v r m hB hv hn hmx hk => ?_, fun B Ex j v r m hB hv hp hn hmx hk => ?_⟩
      · simp only [List.forIn_nil]
        exact wpAny_pure ⟨rfl, keeps_refl _⟩
      · obtain ⟨d, u, hd, rfl⟩ := hv
        obtain ⟨oq, hoq, hdq⟩ := hcq
        have h3q := kp q oq nqP hoq
        have ltq : q < sa.heap.objs.size := Heap.lt_size hoq
        have hr2 : r.heap.IsCell q (some (.str z tz)) := ⟨oq, hk q (List.mem_range.mpr (Heap.lt_size h3q)) (fun z9 => by
          rcases List.mem_cons.mp z9 with z8 | z8
          · exact Nat.ne_of_lt ltq z8
          · cases z8) oq (hhf q oq h3q), hdq⟩
        exact wpAny_mono (hel _ B Ex d u tz z q r m rfl (NdefX.clo_has S.free hm hq) hr2 hn hmx) (fun b r' w9 => ⟨⟨d, hd, w9.1⟩, w9.2⟩) fun _ _ e9 => e9
    · intro g h5 tk5 gs hgb hag hsz5 hk5 W5 hat
      simp only [GxR.passing_true, List.length_range] at W5
      refine hQ a z H1 g _ qv ⟨_, _, _, _, _, W5.in4_1, hat, fun j u sj Qj Ej hu hQj => ?_, fun s' hmv => ?_⟩
      · obtain ⟨i9, hi9, d, hd, rfl⟩ := hu
        obtain ⟨hj, ej⟩ := List.getElem?_eq_some_iff.mp hi9
        rw [List.getElem_range] at ej
        subst ej
        have hd9 : a.cps.toList[j]? = some d := by rw [Array.getElem?_toList]; exact hd
        have hQ9 : Qj (trF (pb z) a.cps.toList j) sj := hQj
        rw [trF_some hd9] at hQ9
        exact wpAny_truthy_bool hQ9
      · obtain ⟨more, em⟩ := hmore
        have out : ∀ b u, sa.heap.get? b = some u → b ∉ h3.objs.size :: [sa.heap.objs.size] := fun b u eb hb => by
          have lb : b < sa.heap.objs.size := Heap.lt_size eb
          simp only [List.mem_cons, List.not_mem_nil, or_false] at hb
          rcases hb with rfl | rfl
          · have lb : h3.objs.size < sa.heap.objs.size := lb
            omega
          · exact Nat.lt_irrefl _ lb
        have J := inv_tab (more := more) (h' := s'.heap) (g' := s'.gens) (d' := s'.drawn) (t' := s'.toks) Ia hP (fun b u nb eb => hmv.heap b u (out b u eb) (hk5 b u (kp b u nb eb)))
          (by rw [← em]; exact hmv.heap P _ (out P _ atP) (hk5 P _ hP3)) (AllBare.movedS (Ia.bare.push hgb) hmv)
        rw [sh_eta sa s' hmv.os] at J
        exact ⟨_, ⟨⟨tb ++ more, upd_same, by rw [← em]; exact ht3⟩, fun b hb => upd_ne hb⟩, J⟩
  cases hf : codeAmong gp tb.toList with
  | none =>
    refine wpAny_genexprCodeX hcode (cd.code atP2 ht) (cd.tab atP2) hf fun c9 h9 tk hx hge hlt hco _ htab _ => ?_
    obtain ⟨o1, vs, f1, tf, fl, tg, inF, tx, tt, op, _, _, _, _, _, _, _, _, _, htr, _⟩ := hco
    exact go _ h9 tk _ hx (Nat.le_trans hge (Nat.le_of_lt hlt)) htab.2 ⟨_, rfl⟩ htr
  | some cv => exact wpAny_genexprCode_hit hcode (cd.code atP2 ht) hf (go cv (sa.heap.push o) sa.toks tb (Heap.ExtBut.refl _ _) (Nat.le_refl _) atP2 ⟨#[], by simp⟩ ht)
/-- what it asks: the walked text, the captured one, the table -/
def tAllC (P : Addr) (i : Nat) (pb : Str → Nat → Bool) (te : TE) : TE := fun σ H Q => te σ H fun v H1 => ∃ a z : Str, v = .str a ∧ σ[i]? = some (some (.str z)) ∧ TabG H1 P ∧ ∀ H2, Tabbed P H1 H2 → Q (.bl (a.cps.toList.all (pb z))) H2
theorem pe_allC {c P : Addr} {e it : Expr} {x y : Str} {px p pos gp : Pos} {sc : Scope} {pb : Str → Nat → Bool} {te : TE} {k i : Nat} (hr : Room k X.A) (hg : Gl X "all") (hm : X.mg "all" = none) (hb : bootBuiltins "all" = some (.builtin "all"))
    (TB : TabB X.base X.mg c P) (hcode : X.env.code = .ref c) (S : GenS X.env sc x) (hN : X.N[i]? = some y) (hV : Vis X.env.scope y) (hy : X.env.kindOf y = some .cell) (hm' : (y, NameKind.free) ∈ sc.names)
    (hi : PE X it te) (hel : EltC X.prog X.w sc x y e pb) (hs : ∀ v, genFold it X.env v = pure v)
    (he : starEach [.GeneratorExp e [⟨.Name x px, it, [], 0⟩] sc gp] X.env = (false, eval (.GeneratorExp e [⟨.Name x px, it, [], 0⟩] sc gp) X.env) :: starEach [] X.env := by rfl) :
    PE X (.Call (.Name "all" p) [.GeneratorExp e [⟨.Name x px, it, [], 0⟩] sc gp] [] pos) (tAllC P i pb te) := by
  refine ⟨fun pins s σ H Q I h => wpAny_Call_Name_kw (ld_blt I hg hm hb (PyProof.Rows.callWith_builtin1 ?_ he (by rfl)))⟩
  rw [he]
  show wpAny _ _ (spliced ((false, eval (.GeneratorExp e [⟨.Name x px, it, [], 0⟩] sc gp) X.env) :: backTo pos (starEach [] X.env))) _ _ s
  refine Calls.spliced_cons (gen_strC (R := fun a z H1 => ∀ H2, Tabbed P H1 H2 → Q (.bl (a.cps.toList.all (pb z))) H2) hr TB hcode S hN hV hy hm' hi hel hs I h fun a z H1 g s5 hR hG => Calls.spliced_nil ?_)
  obtain ⟨fp, wr, G, F, St, W, hst, htr, hI⟩ := hG
  refine call_all_walkS (W.self 0 _ _ _ hst ⟨g, fp, wr, G, _, F, St, _, rfl, W, hst, htr, fun s' hmv => ?_⟩)
  obtain ⟨H2, hT, J⟩ := hI s' hmv
  refine ⟨.bl _, H2, J, rfl, ?_⟩
  rw [all_signs a (pb z)]
  exact hR H2 hT
end
end Lc
set_option Elab.async false
set_option linter.all false
set_option maxRecDepth 100000
set_option maxHeartbeats 4000000
namespace K01
open PySem PySem.Spec PyProof.Rows L2 Lc GxR
def topS (i : Nat) : Stmt := PySem.Challenge.pw_linecourt_k01_what_is_a_word.main.body.getD i (.Pass ⟨0, 0, 0, 0⟩)
/-! ### what is told -/
abbrev smallS : Str := "abcdefghijklmnopqrstuvwxyz"
abbrev greatS : Str := "ABCDEFGHIJKLMNOPQRSTUVWXYZ"
abbrev figS : Str := "0123456789"
abbrev letS : Str := "uvwxyz"
abbrev barred : List Str := ["absurd", "all", "an", "and", "any", "are", "as", "at", "be", "by", "false", "if", "is", "least", "many", "more", "no", "not", "only", "or", "same", "some", "than", "the", "then", "there", "every", "either", "unless"]
def inS (l : List Nat) (z : Str) : Bool := l.all fun d => decide (d ∈ z.cps.toList)
def smallO (o : Option (List Nat)) (lo hi : Int) : Bool := match o with
  | none => false
  | some l => decide (lo ≤ (l.length : Int)) && (decide ((l.length : Int) ≤ hi) && inS l smallS)
def nameO (o : Option (List Nat)) : Bool := match o with
  | some (x :: r) => decide (x ∈ greatS.cps.toList) && smallO (some r) 0 7
  | _ => false
def kindO (o : Option (List Nat)) : Bool := match o with
  | some l => smallO (some l) 2 8 && !decide (tx l ∈ barred)
  | none => false
def letterO (o : Option (List Nat)) : Bool := match o with
  | some (x :: r) => decide (((x :: r).length : Int) ≤ 2) && (decide (x ∈ letS.cps.toList) && inS r figS)
  | _ => false
/-- a thing: a text, or none -/
inductive Th (K : PySem.W.Frag) (H : Hp) : V → Option (List Nat) → Prop where
  | str (l : List Nat) (h : l.length ≤ 1000) : Th K H (.str (tx l)) (some l)
  | no {v : V} {t : Value} (h : TyX K H v t) (n : PySem.W.kitOne K t (.type "str") = some false) : Th K H v none
theorem Tabbed.rfl' {P : Addr} {H : Hp} (h : TabG H P) : Tabbed P H H := ⟨h, fun _ _ => rfl⟩
theorem Tabbed.tr {P : Addr} {H H1 H2 : Hp} (a : Tabbed P H H1) (b : Tabbed P H1 H2) : Tabbed P H H2 := ⟨b.1, fun c hc => (b.2 c hc).trans (a.2 c hc)⟩
section
variable {P : Program} {w : World} {K : PySem.W.Frag} {mg : Str → Option Value} {base : Heap} {f : Addr} {fd : FuncData}
/-! ### is_all_of -/
abbrev s_is_all_of : Stmt := topS 6
abbrev N_is_all_of : List Str := ["text", "signs"]
theorem sc_is_all_of : FnScope N_is_all_of ["text", "signs"] (defScope s_is_all_of) := ⟨rfl, rfl, rfl, by decide +kernel, rfl, by decide +kernel, by decide +kernel⟩
def spAllOf (T : Addr) : Sp := fun vs H Q _ => ∃ (l : List Nat) (z : Str), vs = [.str (tx l), .str z] ∧ TabG H T ∧ ∀ H', Tabbed T H H' → Q (.bl (inS l z)) H'
theorem ok_is_all_of {k : Nat} {c T : Addr} {oc : Value} {od an : Option Addr} {osl : Array (Option Value)} {kV doc pm ct : Value}
    (lk : K.lookup f = some ⟨oc, od, .func (PySem.W.fnOf "is_all_of" "is_all_of" (defArgs s_is_all_of) (defBody s_is_all_of) (defScope s_is_all_of) .none kV doc pm an (.ref c) ct), osl⟩)
    (hcd : PySem.W.codeIn K (.ref c) "is_all_of" = true) (TB : TabB base mg c T) (m_all : mg "all" = none) :
    FnOk P w K mg base CX0 (k + 1) f (PySem.W.fnOf "is_all_of" "is_all_of" (defArgs s_is_all_of) (defBody s_is_all_of) (defScope s_is_all_of) .none kV doc pm an (.ref c) ct) ["text", "signs"] (spAllOf T) := by
  refine fn_of lk hcd sc_is_all_of (fun vs H Q E h => ?_) (fun A outer s H vs Q E hr h => ?_)
  · obtain ⟨l, z, rfl, _⟩ := h
    rfl
  · obtain ⟨l, z, rfl, hT, q⟩ := h
    have hb : ∃ t, PSs (cxOf CX0 P w K mg base N_is_all_of "is_all_of" (defScope s_is_all_of) f (.ref c) A outer s H E).nox (defBody s_is_all_of) t ∧ t { nx := fun _ H' => Q .non H', rt := Q } (L2.start N_is_all_of [.str (tx l), .str z]) H := by
      refine ⟨_, (pss_one (ps_ret (Lc.pe_allC (i := 1) hr (by rfl) m_all (by decide +kernel) TB rfl ⟨rfl, rfl, by decide +kernel, rfl, rfl, ?_⟩ rfl (.inr (.inl rfl)) rfl (by decide +kernel) (pv 0) (Lc.eltC_in rfl rfl rfl) (fun _ => rfl)))), ?_⟩
      · intro y hy hf
        simp only [List.mem_cons, List.not_mem_nil, or_false] at hy
        rcases hy with rfl | rfl | rfl
        · cases hf
        · cases hf
        · exact ⟨_, rfl⟩
      · refine ⟨.str (tx l), rfl, tx l, z, rfl, rfl, hT, fun H2 hH => ?_⟩
        rw [tx_cps]
        exact q H2 hH
    obtain ⟨t, h1, h2⟩ := hb
    exact ⟨t, h1.nox, h2⟩
/-! ### is_small -/
abbrev s_is_small : Stmt := topS 7
abbrev N_is_small : List Str := ["thing", "least", "most"]
theorem sc_is_small : FnScope N_is_small ["thing", "least", "most"] (defScope s_is_small) := ⟨rfl, rfl, rfl, by decide +kernel, rfl, by decide +kernel, by decide +kernel⟩
def spSmall (K : PySem.W.Frag) (T : Addr) : Sp := fun vs H Q _ => ∃ (v : V) (o : Option (List Nat)) (lo hi : Int), vs = [v, .int lo, .int hi] ∧ Th K H v o ∧ TabG H T ∧ ∀ H', Tabbed T H H' → Q (.bl (smallO o lo hi)) H'
theorem ok_is_small {k : Nat} {T : Addr} {t0 : Tok} (F : Fun K "is_small" "is_small" s_is_small f fd) (m_isinstance : mg "isinstance" = none) (m_str : mg "str" = none) (m_len : mg "len" = none) (g_SMALL : mg "SMALL" = some (.str smallS t0))
    (C_is_all_of : Dn P w K mg base "is_all_of" ["text", "signs"] 1 (spAllOf T)) : FnOk P w K mg base CX0 (k + 2) f fd ["thing", "least", "most"] (spSmall K T) := by
  refine F.ok sc_is_small (fun vs H Q E h => ?_) (fun cdv A outer s H vs Q E hr h => ?_)
  · obtain ⟨v, o, lo, hi, rfl, _⟩ := h
    rfl
  · obtain ⟨v, o, lo, hi, rfl, th, hT, q⟩ := h
    refine ⟨_, (pss_one (ps_ret (pe_and (pe_callB call_isi (by rfl) m_isinstance (by decide +kernel) (pa_cons (pv 0) (pa_cons (pe_bltn (v := .ty "str") (by rfl) m_str (by decide +kernel) rfl) pa_nil))) (pe_and (pe_chain op_le op_le (pv 1) (pe_callB call_len_str (by rfl) m_len (by decide +kernel) (pa_cons (pv 0) pa_nil)) (pv 2)) (pe_one (Lc.pe_dn C_is_all_of (hr.mono (by omega)) (by rfl) (pa_cons (pv 0) (pa_cons (pe_glob (v := .str smallS) rfl g_SMALL ⟨_, rfl⟩) pa_nil)))))))), ?_⟩
    cases th with
    | str l hl =>
      refine ⟨_, rfl, _, _, .type "str", .type "str", true, rfl, .ty "str", .base (.str _), kit_ty (by decide +kernel), _, rfl, iteT ?_⟩
      refine ⟨.int lo, rfl, .str (tx l), rfl, tx l, rfl, sz (by rw [tx_len]; omega), lo, _, rfl, rfl, _, rfl, ?_⟩
      rw [tx_len]
      refine ite2 (fun e => ?_) (fun e => ?_)
      · refine ⟨.int hi, rfl, _, hi, rfl, rfl, _, rfl, ite2 (fun e2 => ?_) (fun e2 => ?_)⟩
        · refine ⟨_, rfl, l, smallS, rfl, hT, fun H' hH => ?_⟩
          have := q H' hH
          simp only [smallO, e, e2, Bool.true_and] at this
          exact this
        · have := q H (Tabbed.rfl' hT)
          simp only [smallO, Bool.not_eq_true _ ▸ e2, Bool.false_and, Bool.and_false] at this
          exact this
      · have e : decide (lo ≤ (l.length : Int)) = false := Bool.not_eq_true _ ▸ e
        refine ⟨_, rfl, iteF ?_⟩
        have := q H (Tabbed.rfl' hT)
        simp only [smallO, e, Bool.false_and] at this
        exact this
    | @no _ t ty n => exact ⟨_, rfl, _, _, t, .type "str", false, rfl, .ty "str", ty, n, _, rfl, iteF (q H (Tabbed.rfl' hT))⟩
/-! ### is_name -/
abbrev s_is_name : Stmt := topS 8
abbrev N_is_name : List Str := ["thing"]
theorem sc_is_name : FnScope N_is_name ["thing"] (defScope s_is_name) := ⟨rfl, rfl, rfl, by decide +kernel, rfl, by decide +kernel, by decide +kernel⟩
def spOf (K : PySem.W.Frag) (T : Addr) (g : Option (List Nat) → Bool) : Sp := fun vs H Q _ => ∃ (v : V) (o : Option (List Nat)), vs = [v] ∧ Th K H v o ∧ TabG H T ∧ ∀ H', Tabbed T H H' → Q (.bl (g o)) H'
theorem ok_is_name {k : Nat} {T : Addr} {t0 : Tok} (F : Fun K "is_name" "is_name" s_is_name f fd) (m_isinstance : mg "isinstance" = none) (m_str : mg "str" = none) (g_GREAT : mg "GREAT" = some (.str greatS t0))
    (C_is_small : Dn P w K mg base "is_small" ["thing", "least", "most"] 2 (spSmall K T)) : FnOk P w K mg base CX0 (k + 3) f fd ["thing"] (spOf K T nameO) := by
  refine F.ok sc_is_name (fun vs H Q E h => ?_) (fun cdv A outer s H vs Q E hr h => ?_)
  · obtain ⟨v, o, rfl, _⟩ := h
    rfl
  · obtain ⟨v, o, rfl, th, hT, q⟩ := h
    refine ⟨_, (pss_cons (ps_if (PW.pt (pw_or (pt_not (pt_val (pe_callB call_isi (by rfl) m_isinstance (by decide +kernel) (pa_cons (pv 0) (pa_cons (pe_bltn (v := .ty "str") (by rfl) m_str (by decide +kernel) rfl) pa_nil))))) (pw_or1 (pt_not (pt_truth (pv 0) (by intro _; rfl))))))
      (pss_one (ps_ret pe_bl))
      pss_nil)
      (pss_one (ps_ret (pe_and (pe_cmpR op_in_sign (pe_ix ix_str (pv 0) pe_int (fun _ _ => rfl)) (pe_glob (v := .str greatS) rfl g_GREAT ⟨_, rfl⟩) (by rfl)) (pe_one (Lc.pe_dn C_is_small (hr.mono (by omega)) (by rfl) (pa_cons (pe_slice sl_str (pv 0) (po_some pe_int) po_none) (pa_cons pe_int (pa_cons pe_int pa_nil))))))))), ?_⟩
    cases th with
    | str l hl =>
      refine ⟨_, rfl, _, _, .type "str", .type "str", true, rfl, .ty "str", .base (.str _), kit_ty (by decide +kernel), _, rfl, iteF ?_⟩
      refine ⟨_, rfl, _, ⟨sz (by rw [tx_len]; omega), rfl⟩, ?_⟩
      rw [tx_len]
      cases l with
      | nil => exact iteT (q H (Tabbed.rfl' hT))
      | cons x r =>
        have e0 : (!(((x :: r).length : Int) != 0)) = false := by
          rw [List.length_cons]
          simp
          omega
        rw [e0]
        refine iteF ?_
        have hl' : r.length + 1 ≤ 1000 := hl
        refine ⟨_, rfl, tx (x :: r), 0, x, rfl, rfl, sz (by rw [tx_len]; exact Nat.le_trans hl (by decide)), ?_, x, greatS, rfl, rfl, _, rfl, ?_⟩
        · rw [tx_cps]
          exact atI_nat (j := 0) rfl
        · refine ite2 (fun e => ?_) (fun e => ?_)
          · refine ⟨_, rfl, 1, rfl, tx (x :: r), rfl, sz (by rw [tx_len]; exact Nat.le_trans hl (by decide)), ?_⟩
            rw [show (1 : Int) = ((1 : Nat) : Int) from rfl, cutS_from]
            refine ⟨.str (tx r), some r, 0, 7, rfl, .str r (by omega), hT, fun H' hH => ?_⟩
            have := q H' hH
            simp only [nameO, e, Bool.true_and] at this
            exact this
          · have e : decide (x ∈ greatS.cps.toList) = false := Bool.not_eq_true _ ▸ e
            have := q H (Tabbed.rfl' hT)
            simp only [nameO, e, Bool.false_and] at this
            exact this
    | @no _ t ty n => exact ⟨_, rfl, _, _, t, .type "str", false, rfl, .ty "str", ty, n, _, rfl, iteT (q H (Tabbed.rfl' hT))⟩
/-! ### is_kind -/
abbrev s_is_kind : Stmt := topS 9
abbrev N_is_kind : List Str := ["thing"]
theorem sc_is_kind : FnScope N_is_kind ["thing"] (defScope s_is_kind) := ⟨rfl, rfl, rfl, by decide +kernel, rfl, by decide +kernel, by decide +kernel⟩
theorem ok_is_kind {k : Nat} {T ab : Addr} (F : Fun K "is_kind" "is_kind" s_is_kind f fd) (g_BARRED : mg "BARRED" = some (.ref ab)) (hb : ∀ H, SqT K H ab (barred.map V.str))
    (C_is_small : Dn P w K mg base "is_small" ["thing", "least", "most"] 2 (spSmall K T)) : FnOk P w K mg base CX0 (k + 3) f fd ["thing"] (spOf K T kindO) := by
  refine F.ok sc_is_kind (fun vs H Q E h => ?_) (fun cdv A outer s H vs Q E hr h => ?_)
  · obtain ⟨v, o, rfl, _⟩ := h
    rfl
  · obtain ⟨v, o, rfl, th, hT, q⟩ := h
    refine ⟨_, (pss_one (ps_ret (pe_and (Lc.pe_dn C_is_small (hr.mono (by omega)) (by rfl) (pa_cons (pv 0) (pa_cons pe_int (pa_cons pe_int pa_nil)))) (pe_one (pe_cmpR op_notIn_seq (pv 0) (pe_glob (v := .ref ab) rfl g_BARRED rfl) (by rfl)))))), ?_⟩
    refine ⟨v, rfl, v, o, 2, 8, rfl, th, hT, fun H' hH => ?_⟩
    cases th with
    | str l hl =>
      refine ⟨_, rfl, ite2 (fun e => ?_) (fun e => ?_)⟩
      · refine ⟨_, rfl, ab, _, rfl, .inr (hb H'), rfl, flat_strs barred, ?_⟩
        rw [in_strs]
        have := q H' hH
        simp only [kindO, e, Bool.true_and] at this
        exact this
      · have e : smallO (some l) 2 8 = false := Bool.not_eq_true _ ▸ e
        have := q H' hH
        simp only [kindO, e, Bool.false_and] at this
        exact this
    | @no _ t ty n => exact ⟨_, rfl, iteF (q H' hH)⟩
/-! ### is_letter -/
abbrev s_is_letter : Stmt := topS 10
abbrev N_is_letter : List Str := ["thing"]
theorem sc_is_letter : FnScope N_is_letter ["thing"] (defScope s_is_letter) := ⟨rfl, rfl, rfl, by decide +kernel, rfl, by decide +kernel, by decide +kernel⟩
theorem ok_is_letter {k : Nat} {T : Addr} {t0 t1 : Tok} (F : Fun K "is_letter" "is_letter" s_is_letter f fd) (m_isinstance : mg "isinstance" = none) (m_str : mg "str" = none) (m_len : mg "len" = none) (g_LETTERS : mg "LETTERS" = some (.str letS t0)) (g_FIGURES : mg "FIGURES" = some (.str figS t1))
    (C_is_all_of : Dn P w K mg base "is_all_of" ["text", "signs"] 1 (spAllOf T)) : FnOk P w K mg base CX0 (k + 2) f fd ["thing"] (spOf K T letterO) := by
  refine F.ok sc_is_letter (fun vs H Q E h => ?_) (fun cdv A outer s H vs Q E hr h => ?_)
  · obtain ⟨v, o, rfl, _⟩ := h
    rfl
  · obtain ⟨v, o, rfl, th, hT, q⟩ := h
    refine ⟨_, (pss_cons (ps_if (PW.pt (pw_or (pt_not (pt_val (pe_callB call_isi (by rfl) m_isinstance (by decide +kernel) (pa_cons (pv 0) (pa_cons (pe_bltn (v := .ty "str") (by rfl) m_str (by decide +kernel) rfl) pa_nil))))) (pw_or1 (pt_not (pt_chain op_le op_le pe_int (pe_callB call_len_str (by rfl) m_len (by decide +kernel) (pa_cons (pv 0) pa_nil)) pe_int)))))
      (pss_one (ps_ret pe_bl))
      pss_nil)
      (pss_one (ps_ret (pe_and (pe_cmpR op_in_sign (pe_ix ix_str (pv 0) pe_int (fun _ _ => rfl)) (pe_glob (v := .str letS) rfl g_LETTERS ⟨_, rfl⟩) (by rfl)) (pe_one (Lc.pe_dn C_is_all_of (hr.mono (by omega)) (by rfl) (pa_cons (pe_slice sl_str (pv 0) (po_some pe_int) po_none) (pa_cons (pe_glob (v := .str figS) rfl g_FIGURES ⟨_, rfl⟩) pa_nil)))))))), ?_⟩
    cases th with
    | str l hl =>
      refine ⟨_, rfl, _, _, .type "str", .type "str", true, rfl, .ty "str", .base (.str _), kit_ty (by decide +kernel), _, rfl, iteF ?_⟩
      refine ⟨_, rfl, tx l, rfl, sz (by rw [tx_len]; omega), 1, _, rfl, rfl, _, rfl, ?_⟩
      rw [tx_len]
      cases l with
      | nil => exact iteF ⟨_, rfl, iteT (q H (Tabbed.rfl' hT))⟩
      | cons x r =>
        have e0 : decide ((1 : Int) ≤ ((x :: r).length : Int)) = true := decide_eq_true (by rw [List.length_cons]; omega)
        rw [e0]
        refine iteT ⟨_, 2, rfl, rfl, _, rfl, ?_⟩
        by_cases e : ((x :: r).length : Int) ≤ 2
        · rw [decide_eq_true e]
          refine iteF ?_
          refine ⟨_, rfl, tx (x :: r), 0, x, rfl, rfl, sz (by rw [tx_len]; exact Nat.le_trans hl (by decide)), ?_, x, letS, rfl, rfl, _, rfl, ?_⟩
          · rw [tx_cps]
            exact atI_nat (j := 0) rfl
          · refine ite2 (fun e2 => ?_) (fun e2 => ?_)
            · refine ⟨_, rfl, 1, rfl, tx (x :: r), rfl, sz (by rw [tx_len]; exact Nat.le_trans hl (by decide)), ?_⟩
              rw [show (1 : Int) = ((1 : Nat) : Int) from rfl, cutS_from]
              refine ⟨r, figS, rfl, hT, fun H' hH => ?_⟩
              have := q H' hH
              simp only [letterO, e2, decide_eq_true e, Bool.true_and] at this
              exact this
            · have e2 : decide (x ∈ letS.cps.toList) = false := Bool.not_eq_true _ ▸ e2
              have := q H (Tabbed.rfl' hT)
              simp only [letterO, e2, Bool.false_and, Bool.and_false] at this
              exact this
        · rw [decide_eq_false e]
          refine iteT ?_
          have := q H (Tabbed.rfl' hT)
          simp only [letterO, decide_eq_false e, Bool.false_and] at this
          exact this
    | @no _ t ty n => exact ⟨_, rfl, _, _, t, .type "str", false, rfl, .ty "str", ty, n, _, rfl, iteT (q H (Tabbed.rfl' hT))⟩
end
end K01
set_option Elab.async false
set_option linter.all false
set_option maxRecDepth 100000
set_option maxHeartbeats 4000000
namespace K01
open PySem PySem.Spec PyProof.Rows L2 Lc GxR
/-! ### the deck -/
def Dk (d c : Addr) (H : Hp) : Prop := ∃ (cells : List Int) (n s : Int), H d = some (.lst [.ref c, .int n, .int s]) ∧ H c = some (.lst (cells.map V.int)) ∧ cells.length ≤ 63
abbrev MD (d c : Addr) : Addr → Prop := fun b => b = d ∨ b = c
theorem lst_ne {c : Addr} {n s : Int} (cells : List Int) : HO.lst [.ref c, .int n, .int s] ≠ HO.lst (cells.map V.int) := by
  intro z
  have z := HO.lst.inj z
  cases cells with
  | nil => cases z
  | cons x r => cases z
theorem Dk.keep {d c : Addr} {H : Hp} {p : Addr} {o : HO} (h : Dk d c H) (hp : ¬ MD d c p) : Dk d c (upd H p o) := by
  obtain ⟨cells, n, s, h1, h2, h3⟩ := h
  exact ⟨cells, n, s, by rw [upd_ne (fun e => hp (.inl e.symm))]; exact h1, by rw [upd_ne (fun e => hp (.inr e.symm))]; exact h2, h3⟩
theorem Dk.out {d c : Addr} {H : Hp} {p : Addr} (h : Dk d c H) (hp : H p = none) : ¬ MD d c p := by
  obtain ⟨cells, n, s, h1, h2, h3⟩ := h
  rintro (rfl | rfl)
  · rw [hp] at h1; cases h1
  · rw [hp] at h2; cases h2
theorem Dk.new {d c : Addr} {H : Hp} {p : Addr} {o : HO} (h : Dk d c H) (hp : H p = none) : Dk d c (upd H p o) := h.keep (h.out hp)
theorem Dk.same {d c : Addr} {H H' : Hp} (h : Dk d c H) (s : Same H H') : Dk d c H' := by
  obtain ⟨cells, n, m, h1, h2, h3⟩ := h
  exact ⟨cells, n, m, s _ _ h1, s _ _ h2, h3⟩
theorem Dk.tbl {d c T : Addr} {H : Hp} (h : Dk d c H) (t : TabG H T) : ¬ MD d c T := by
  obtain ⟨cells, n, s, h1, h2, h3⟩ := h
  obtain ⟨ps, hp, _⟩ := t
  rintro (rfl | rfl)
  · rw [hp] at h1; cases h1
  · rw [hp] at h2; cases h2
section
variable {P : Program} {w : World} {K : PySem.W.Frag} {mg : Str → Option Value} {base : Heap} {f : Addr} {fd : FuncData}
abbrev s_w_mixed : Stmt := topS 12
abbrev N_w_mixed : List Str := ["_law_cell", "_law_k", "_law_number"]
theorem sc_w_mixed : FnScope N_w_mixed ["_law_cell", "_law_k"] (defScope s_w_mixed) := ⟨rfl, rfl, rfl, by decide +kernel, rfl, by decide +kernel, by decide +kernel⟩
def spMixed : Sp := fun vs H Q _ => ∃ a b : Int, vs = [.int a, .int b] ∧ ∀ r : Int, Q (.int r) H
theorem ok_w_mixed {k : Nat} (F : Fun K "_law_mixed" "_law_mixed" s_w_mixed f fd) : FnOk P w K mg base CX0 (k + 1) f fd ["_law_cell", "_law_k"] spMixed := by
  refine F.ok sc_w_mixed (fun vs H Q E h => ?_) (fun cdv A outer s H vs Q E hr h => ?_)
  · obtain ⟨a, b, rfl, _⟩ := h
    rfl
  · obtain ⟨a, b, rfl, q⟩ := h
    refine ⟨_, (pss_cons (ps_set (i := 2) sc_w_mixed.nd rfl (.inl rfl) (pe_op op_mod (pe_op op_mul (pe_op op_add (pe_op op_add (pe_op op_mod (pv 0) pe_int) (pe_op op_mul pe_int (pv 1))) pe_int) pe_int) pe_int))
      (pss_cons (ps_set (i := 2) sc_w_mixed.nd rfl (.inl rfl) (pe_op op_mod (pe_op op_add (pe_op op_add (pe_op op_mul (pv 2) (pv 2)) (pe_op op_mul pe_int (pv 1))) pe_int) pe_int))
      (pss_one (ps_ret (pe_op op_add (pe_op op_mul (pv 2) pe_int) (pe_op op_mod (pe_op op_add (pe_op op_add (pe_op op_mul (pv 2) (pv 2)) (pe_op op_mul pe_int (pv 2))) (pv 1)) pe_int)))))), ?_⟩
    refine ⟨.int a, rfl, a, _, rfl, rfl, (show (0 : Int) < 2147483629 by decide), .int b, rfl, 7919, b, rfl, rfl, .inl ⟨by decide, by decide⟩, _, _, rfl, rfl, _, _, rfl, rfl, _, _, rfl, rfl, .inr ⟨by decide, by decide⟩, _, _, rfl, rfl, (show (0 : Int) < 2147483647 by decide), ?_⟩
    generalize hz : ((a % 2147483629 + 7919 * b + 1) * 48271) % 2147483647 = z
    have z0 : 0 ≤ z := by rw [← hz]; exact Int.emod_nonneg _ (by decide)
    have z1 : z < 2147483647 := by rw [← hz]; exact Int.emod_lt_of_pos _ (by decide)
    show tSeq _ _ _ [some (.int a), some (.int b), some (.int (((a % 2147483629 + 7919 * b + 1) * 48271) % 2147483647))] H
    rw [hz]
    refine ⟨.int z, rfl, .int z, rfl, z, z, rfl, rfl, .inl ⟨by omega, by omega⟩, .int b, rfl, 69621, b, rfl, rfl, .inl ⟨by decide, by decide⟩, _, _, rfl, rfl, _, _, rfl, rfl, _, _, rfl, rfl, (show (0 : Int) < 2147483587 by decide), ?_⟩
    have y0 : 0 ≤ (z * z + 69621 * b + 7) % 2147483587 := Int.emod_nonneg _ (by decide)
    have y1 : (z * z + 69621 * b + 7) % 2147483587 < 2147483587 := Int.emod_lt_of_pos _ (by decide)
    have yl : -(2 ^ 64) < (z * z + 69621 * b + 7) % 2147483587 := Int.lt_of_lt_of_le (by decide) y0
    have yh : (z * z + 69621 * b + 7) % 2147483587 < 2 ^ 64 := Int.lt_trans y1 (by decide)
    exact ⟨_, rfl, _, _, rfl, rfl, .inl ⟨yl, yh⟩, _, rfl, _, rfl, _, _, rfl, rfl, .inl ⟨yl, yh⟩, _, rfl, 16807, _, rfl, rfl, .inl ⟨by decide, by decide⟩, _, _, rfl, rfl, .int b, rfl, _, _, rfl, rfl, _, _, rfl, rfl, (show (0 : Int) < 2147483563 by decide), _, _, rfl, rfl, q _⟩
abbrev s_w_deck : Stmt := topS 13
abbrev N_w_deck : List Str := ["_law_script"]
theorem sc_w_deck : FnScope N_w_deck ["_law_script"] (defScope s_w_deck) := ⟨rfl, rfl, rfl, by decide +kernel, rfl, by decide +kernel, by decide +kernel⟩
def spDeck (K : PySem.W.Frag) : Sp := fun vs H Q _ => ∃ (a : Addr) (ns : List Int), vs = [.ref a] ∧ SqL K H a (ns.map V.int) ∧ ∀ d c H', Same H H' → Dk d c H' → Q (.ref d) H'
theorem ok_w_deck {k : Nat} (F : Fun K "_law_deck" "_law_deck" s_w_deck f fd) (m_list : mg "list" = none) (m_sum : mg "sum" = none) (m_len : mg "len" = none) (m_reversed : mg "reversed" = none) : FnOk P w K mg base CX0 (k + 1) f fd ["_law_script"] (spDeck K) := by
  refine F.ok sc_w_deck (fun vs H Q E h => ?_) (fun cdv A outer s H vs Q E hr h => ?_)
  · obtain ⟨a, ns, rfl, _⟩ := h
    rfl
  · obtain ⟨a, ns, rfl, hS, q⟩ := h
    refine ⟨_, (pss_one (ps_ret (pe_lst (pa_cons (Lc.pe_listRev rfl (by rfl) m_list (by rfl) m_reversed (pe_slice sl_list (pv 0) po_none (po_some pe_int))) (pa_cons (pe_op op_add (pe_callB (cr_sum rfl) (by rfl) m_sum (by decide +kernel) (pa_cons (pe_slice sl_list (pv 0) po_none (po_some pe_int)) pa_nil)) (pe_callB call_len_seq (by rfl) m_len (by decide +kernel) (pa_cons (pe_slice sl_list (pv 0) po_none (po_some pe_int)) pa_nil))) (pa_cons pe_int pa_nil)))))), ?_⟩
    have ec : cutV (ns.map V.int) none (some 63) = (ns.take 63).map V.int := by
      rw [show (63 : Int) = ((63 : Nat) : Int) from rfl, cut_to, List.map_take]
    have l63 : (ns.take 63).length ≤ 63 := by
      rw [List.length_take]
      omega
    generalize ns.take 63 = nt at ec l63
    refine ⟨.ref a, rfl, _, rfl, a, _, rfl, hS, fun p np => ?_⟩
    rw [ec]
    refine ⟨p, _, rfl, SqL.of upd_same, fun c nc => ?_⟩
    rw [← List.map_reverse]
    have s2 : Same H (upd (upd H p (.lst (nt.map V.int))) c (.lst (nt.reverse.map V.int))) := (same_new np).trans (same_new nc)
    have hc : (upd (upd H p (.lst (nt.map V.int))) c (.lst (nt.reverse.map V.int))) c = some (.lst (nt.reverse.map V.int)) := upd_same
    generalize (upd (upd H p (.lst (nt.map V.int))) c (.lst (nt.reverse.map V.int))) = H2 at s2 hc ⊢
    refine ⟨.ref a, rfl, _, rfl, a, _, rfl, s2.seq hS, fun p2 np2 => ?_⟩
    rw [ec]
    have s3 := s2.trans (same_new (o := .lst (nt.map V.int)) np2)
    have hc3 := same_new (o := .lst (nt.map V.int)) np2 _ _ hc
    have h3 : (upd H2 p2 (.lst (nt.map V.int))) p2 = some (.lst (nt.map V.int)) := upd_same
    generalize upd H2 p2 (.lst (nt.map V.int)) = H3 at s3 hc3 h3 ⊢
    refine ⟨p2, nt, rfl, SqL.of h3, .ref a, rfl, _, rfl, a, _, rfl, s3.seq hS, fun p3 np3 => ?_⟩
    rw [ec]
    have s4 := s3.trans (same_new (o := .lst (nt.map V.int)) np3)
    have hc4 := same_new (o := .lst (nt.map V.int)) np3 _ _ hc3
    have h4 : (upd H3 p3 (.lst (nt.map V.int))) p3 = some (.lst (nt.map V.int)) := upd_same
    generalize upd H3 p3 (.lst (nt.map V.int)) = H4 at s4 hc4 h4 ⊢
    refine ⟨p3, _, rfl, .inl (SqL.of h4), _, _, rfl, rfl, sz (by show 3 ≤ 100000; decide), fun d nd => ?_⟩
    exact q d c _ (s4.trans (same_new nd)) ⟨nt.reverse, _, 0, upd_same, same_new nd _ _ hc4, by rw [List.length_reverse]; exact l63⟩
abbrev s_w_take : Stmt := topS 14
abbrev N_w_take : List Str := ["_law_deck_here", "_law_most", "_law_cells", "_law_cell"]
theorem sc_w_take : FnScope N_w_take ["_law_deck_here", "_law_most"] (defScope s_w_take) := ⟨rfl, rfl, rfl, by decide +kernel, rfl, by decide +kernel, by decide +kernel⟩
def spTake : Sp := fun vs H Q _ => ∃ (d c : Addr) (m : Int), vs = [.ref d, .int m] ∧ Dk d c H ∧ 0 < m ∧ m < 1073741824 ∧ ∀ r H', 0 ≤ r → r < m → Fr (MD d c) H H' → Dk d c H' → Q (.int r) H'
theorem ok_w_take {k : Nat} (F : Fun K "_law_take" "_law_take" s_w_take f fd) (C_w_mixed : Dn P w K mg base "_law_mixed" ["_law_cell", "_law_k"] 1 spMixed) : FnOk P w K mg base CX0 (k + 2) f fd ["_law_deck_here", "_law_most"] spTake := by
  refine F.ok sc_w_take (fun vs H Q E h => ?_) (fun cdv A outer s H vs Q E hr h => ?_)
  · obtain ⟨d, c, m, rfl, _⟩ := h
    rfl
  · obtain ⟨d, c, m, rfl, ⟨cells, n, sm, hd, hc, hl⟩, hm, hm2, q⟩ := h
    refine ⟨_, (pss_cons (ps_set (i := 2) sc_w_take.nd rfl (.inl rfl) (pe_ix ix_list (pv 0) pe_int (fun _ _ => rfl)))
      (pss_cons (ps_asg (pe_op op_add (pe_ix ix_list (pv 0) pe_int (fun _ _ => rfl)) pe_int) (pg_sub (pv 0) pe_int set_list))
      (pss_cons (ps_if (pt_cmpR (op_eqNil hr.units0) (pv 2) (pe_lst pa_nil) (nomark _))
      (pss_one (ps_ret (pe_op op_mod (Lc.pe_dn C_w_mixed (hr.mono (by omega)) (by rfl) (pa_cons (pe_ix ix_list (pv 0) pe_int (fun _ _ => rfl)) (pa_cons (pe_ix ix_list (pv 0) pe_int (fun _ _ => rfl)) pa_nil))) (pv 1))))
      pss_nil)
      (pss_cons (ps_set (i := 3) sc_w_take.nd rfl (.inl rfl) (pe_bm0 PySem.F.plainAttrs_list PySem.F.slot_list_pop PySem.F.type_list_pop mt_pop (pv 2)))
      (pss_cons (ps_if (pt_cmpR op_lt (pv 3) (pe_op op_pow pe_int pe_int) (nomark _))
      (pss_one (ps_ret (pe_op op_mod (Lc.pe_dn C_w_mixed (hr.mono (by omega)) (by rfl) (pa_cons (pv 3) (pa_cons (pe_ix ix_list (pv 0) pe_int (fun _ _ => rfl)) pa_nil))) (pv 1))))
      pss_nil)
      (pss_cons (ps_if (pt_cmpR op_gt (pe_op op_fdiv (pv 3) (pv 1)) pe_int (nomark _))
      (pss_one (ps_expr (pe_bm PySem.F.plainAttrs_list PySem.F.slot_list_append PySem.F.type_list_append mt_append (pv 2) (pa_cons (pe_op op_fdiv (pv 3) (pv 1)) pa_nil))))
      pss_nil)
      (pss_one (ps_ret (pe_op op_mod (pv 3) (pv 1)))))))))), ?_⟩
    have ndc : d ≠ c := ne_of hd hc (lst_ne cells)
    refine ⟨.ref d, rfl, d, _, 0, .ref c, rfl, rfl, SqL.of hd, rfl, ?_⟩
    refine ⟨.ref d, rfl, d, _, 2, .int sm, rfl, rfl, SqL.of hd, rfl, sm, 1, rfl, rfl, .ref d, rfl, d, _, 2, 2, rfl, rfl, hd, rfl, ?_⟩
    have hd1 : (upd H d (.lst [.ref c, .int n, .int (sm + 1)])) d = some (.lst [.ref c, .int n, .int (sm + 1)]) := upd_same
    have hc1 : (upd H d (.lst [.ref c, .int n, .int (sm + 1)])) c = some (.lst (cells.map V.int)) := by rw [upd_ne ndc.symm]; exact hc
    have f1 : Fr (MD d c) H (upd H d (.lst [.ref c, .int n, .int (sm + 1)])) := Fr.mut (.inl rfl)
    show tSeq _ _ _ _ (upd H d (.lst [.ref c, .int n, .int (sm + 1)]))
    generalize (upd H d (.lst [.ref c, .int n, .int (sm + 1)])) = H1 at hd1 hc1 f1 ⊢
    refine ⟨.ref c, rfl, Nat.zero_le _, fun o no => ?_⟩
    have hd2 := same_new (o := .lst []) no _ _ hd1
    have hc2 := same_new (o := .lst []) no _ _ hc1
    have f2 := f1.trans (Fr.new (o := .lst []) no)
    have ho2 : (upd H1 o (.lst [])) o = some (.lst []) := upd_same
    generalize upd H1 o (.lst []) = H2 at hd2 hc2 f2 ho2 ⊢
    refine ⟨c, o, _, rfl, rfl, SqL.of hc2, SqL.of ho2, _, rfl, ?_⟩
    have fin : ∀ r : Int, 0 ≤ r % m ∧ r % m < m := fun r => ⟨Int.emod_nonneg _ (by omega), Int.emod_lt_of_pos _ hm⟩
    rcases List.eq_nil_or_concat cells with e | ⟨ini, x, e⟩
    · subst e
      refine iteT ?_
      refine ⟨.ref d, rfl, d, _, 1, .int n, rfl, rfl, SqL.of hd2, rfl, .ref d, rfl, d, _, 2, .int (sm + 1), rfl, rfl, SqL.of hd2, rfl, n, sm + 1, rfl, fun r => ?_⟩
      exact ⟨.int m, rfl, r, m, rfl, rfl, hm, q _ H2 (fin r).1 (fin r).2 f2 ⟨[], n, sm + 1, hd2, hc2, by simp⟩⟩
    · have e : cells = ini ++ [x] := by rw [e, List.concat_eq_append]
      subst e
      have hl' : ini.length + 1 ≤ 63 := by simpa using hl
      have e0 : (((ini ++ [x]).map V.int).isEmpty != false) = false := by cases ini <;> rfl
      rw [e0]
      refine iteF ?_
      refine ⟨.ref c, rfl, .inl ⟨rfl, _, SqL.of hc2⟩, c, _, .int x, rfl, rfl, hc2, ?_, ?_⟩
      · rw [List.map_append, List.length_append]
        simp
      have ed : ((ini ++ [x]).map V.int).dropLast = ini.map V.int := by
        rw [List.map_append]
        exact List.dropLast_concat
      rw [ed]
      have hd3 : (upd H2 c (.lst (ini.map V.int))) d = some (.lst [.ref c, .int n, .int (sm + 1)]) := by rw [upd_ne ndc]; exact hd2
      have hc3 : (upd H2 c (.lst (ini.map V.int))) c = some (.lst (ini.map V.int)) := upd_same
      have f3 : Fr (MD d c) H (upd H2 c (.lst (ini.map V.int))) := f2.trans (Fr.mut (.inr rfl))
      show tSeq _ _ _ _ (upd H2 c (.lst (ini.map V.int)))
      generalize upd H2 c (.lst (ini.map V.int)) = H3 at hd3 hc3 f3 ⊢
      refine ⟨.int x, rfl, 10, 18, rfl, rfl, ⟨by decide, by decide, by decide⟩, _, _, rfl, rfl, _, rfl, ite2 (fun e => ?_) (fun e => ?_)⟩
      · refine ⟨.int x, rfl, .ref d, rfl, d, _, 2, .int (sm + 1), rfl, rfl, SqL.of hd3, rfl, x, sm + 1, rfl, fun r => ?_⟩
        exact ⟨.int m, rfl, r, m, rfl, rfl, hm, q _ H3 (fin r).1 (fin r).2 f3 ⟨ini, n, sm + 1, hd3, hc3, by omega⟩⟩
      · refine ⟨.int x, rfl, .int m, rfl, x, m, rfl, rfl, ⟨hm, hm2⟩, _, 0, rfl, rfl, _, rfl, ite2 (fun e2 => ?_) (fun e2 => ?_)⟩
        · refine ⟨.ref c, rfl, .inl ⟨rfl, _, SqL.of hc3⟩, .int x, rfl, .int m, rfl, x, m, rfl, rfl, ⟨hm, hm2⟩, c, _, _, rfl, rfl, hc3, ?_, ?_⟩
          · rw [List.length_map]
            exact szl (by omega)
          · have hd4 : (upd H3 c (.lst (ini.map V.int ++ [.int (x / m)]))) d = some (.lst [.ref c, .int n, .int (sm + 1)]) := by rw [upd_ne ndc]; exact hd3
            refine ⟨.int x, rfl, .int m, rfl, x, m, rfl, rfl, hm, ?_⟩
            refine q _ (upd H3 c (.lst (ini.map V.int ++ [.int (x / m)]))) (fin x).1 (fin x).2 (f3.trans (Fr.mut (.inr rfl))) ⟨ini ++ [x / m], n, sm + 1, hd4, ?_, by simpa using hl'⟩
            rw [upd_same, List.map_append]
            rfl
        · exact ⟨.int x, rfl, .int m, rfl, x, m, rfl, rfl, hm, q _ H3 (fin x).1 (fin x).2 f3 ⟨ini, n, sm + 1, hd3, hc3, by omega⟩⟩
end
end K01
set_option Elab.async false
set_option linter.all false
set_option maxRecDepth 100000
set_option maxHeartbeats 4000000
namespace K01
open PySem PySem.Spec PyProof.Rows L2 Lc GxR
section
variable {P : Program} {w : World} {K : PySem.W.Frag} {mg : Str → Option Value} {base : Heap} {f : Addr} {fd : FuncData}
abbrev s_w_all_in : Stmt := topS 15
abbrev N_w_all_in : List Str := ["_law_text", "_law_signs", "_law_sign"]
theorem sc_w_all_in : FnScope N_w_all_in ["_law_text", "_law_signs"] (defScope s_w_all_in) := ⟨rfl, rfl, rfl, by decide +kernel, rfl, by decide +kernel, by decide +kernel⟩
/-- the signs that are not there -/
def offs (l : List Nat) (z : Str) : List Nat := l.filter fun d => !decide (d ∈ z.cps.toList)
theorem offs_nil (l : List Nat) (z : Str) : (offs l z).isEmpty = inS l z := by
  unfold offs inS
  induction l with
  | nil => rfl
  | cons x r ih =>
    rw [List.filter_cons, List.all_cons]
    cases decide (x ∈ z.cps.toList)
    · rfl
    · exact ih
abbrev sg (d : Nat) : V := .str ⟨#[d]⟩
def spAllIn : Sp := fun vs H Q _ => ∃ (l : List Nat) (z : Str), vs = [.str (tx l), .str z] ∧ l.length ≤ 1000 ∧ ∀ H', Same H H' → Q (.bl (inS l z)) H'
theorem ok_w_all_in {k : Nat} (F : Fun K "_law_all_in" "_law_all_in" s_w_all_in f fd) : FnOk P w K mg base CX0 (k + 1) f fd ["_law_text", "_law_signs"] spAllIn := by
  refine F.ok sc_w_all_in (fun vs H Q E h => ?_) (fun cdv A outer s H vs Q E hr h => ?_)
  · obtain ⟨l, z, rfl, _⟩ := h
    rfl
  · obtain ⟨l, z, rfl, hl, q⟩ := h
    refine ⟨_, (pss_one (ps_ret (pe_cmpR (op_eqNil hr.units0) (pe_lc (own := [("_law_sign", 2)]) (g := gName 2) rfl sc_w_all_in.nd (pi_str (pv 0)) (blkOk_by (N := N_w_all_in) (sc := defScope s_w_all_in) (by decide +kernel)) (fun _ _ _ _ _ => pg_name (i := 2) sc_w_all_in.nd rfl (Or.inl rfl)) (fun _ _ _ _ _ => pts_one (pt_cmpR op_notIn_sign (pv 2) (pv 1) (by rfl))) (fun _ _ _ _ _ => (pv 2))) (pe_lst pa_nil) (nomark _)))), ?_⟩
    refine ⟨.str (tx l), rfl, tx l, rfl, fun D nD => ?_⟩
    refine lc_it (walk_str (z := tx l)) (fun i H' => H' = upd H D (.lst ((offs (l.take i) z).map sg))) rfl (fun _ _ _ _ => trivial) (fun i x H1 H' hi e y => ?_) (fun H' e => ?_)
    · obtain ⟨rfl, cc, hcc, rfl⟩ := y
      subst e
      have hcl : l[i]? = some cc := by
        rw [← Array.getElem?_toList, tx_cps] at hcc
        exact hcc
      have hil : i < l.length := (List.getElem?_eq_some_iff.mp hcl).1
      have et : offs (l.take (i + 1)) z = offs (l.take i) z ++ offs [cc] z := by
        unfold offs
        rw [List.take_add_one, hcl, List.filter_append]
        rfl
      refine ⟨rfl, _, rfl, _, rfl, cc, z, rfl, rfl, _, rfl, ?_⟩
      cases hd : decide (cc ∈ z.cps.toList)
      · refine iteT ⟨_, rfl, _, upd_same, ?_, ?_⟩
        · rw [List.length_map]
          have : (offs (l.take i) z).length ≤ (l.take i).length := List.length_filter_le _ _
          rw [List.length_take] at this
          exact szl (by omega)
        · rw [upd_upd, et]
          unfold offs
          rw [List.filter_cons, hd, List.map_append]
          rfl
      · refine iteF ?_
        rw [et]
        unfold offs
        rw [List.filter_cons, hd]
        simp
    · subst e
      rw [show l.take (tx l).cps.size = l by rw [show (tx l).cps.size = l.length by simp [tx], List.take_length]]
      refine ⟨Nat.zero_le _, fun o no => ?_⟩
      have hD : (upd H D (.lst ((offs l z).map sg))) D = some (.lst ((offs l z).map sg)) := upd_same
      refine ⟨D, o, _, rfl, rfl, SqL.of (same_new no _ _ hD), SqL.of upd_same, ?_⟩
      have := q _ ((same_new nD).trans (same_new (o := .lst []) no))
      rw [← offs_nil] at this
      have e : (((offs l z).map sg).isEmpty != false) = (offs l z).isEmpty := by cases offs l z <;> rfl
      rw [e]
      exact this
abbrev s_w_own : Stmt := topS 16
abbrev N_w_own : List Str := ["_law_own_here"]
theorem sc_w_own : FnScope N_w_own [] (defScope s_w_own) := ⟨rfl, rfl, rfl, by decide +kernel, rfl, by decide +kernel, by decide +kernel⟩
def spOwn : Sp := fun vs H Q _ => vs = [] ∧ ∀ p, H p = none → Q (.ref p) (upd H p (.lst (barred.map V.str)))
theorem ok_w_own {k : Nat} (F : Fun K "_law_own" "_law_own" s_w_own f fd) : FnOk P w K mg base CX0 (k + 1) f fd [] spOwn := by
  refine F.ok sc_w_own (fun vs H Q E h => ?_) (fun cdv A outer s H vs Q E hr h => ?_)
  · obtain ⟨rfl, _⟩ := h
    rfl
  · obtain ⟨rfl, q⟩ := h
    refine ⟨_, (pss_cons (ps_set (i := 0) sc_w_own.nd rfl (.inl rfl) pe_str)
      (pss_cons (ps_set (i := 0) sc_w_own.nd rfl (.inl rfl) (pe_op op_add_str (pv 0) pe_str))
      (pss_one (ps_ret (pe_split (pe_op op_add_str (pv 0) pe_str) pe_str))))), ?_⟩
    refine ⟨_, rfl, _, _, rfl, rfl, sz (by decide +kernel), _, rfl, _, _, rfl, rfl, sz (by decide +kernel), ⟨_, rfl⟩, _, " ", rfl, rfl, rfl, (show _ + 2 ≤ sizeLine from sz (by decide +kernel)), fun p np => ?_⟩
    have e : Txt.split ("absurd all an and any are as at be by false if is least many more no not only" ++ " or same some than the then" ++ " there every either unless") " " = barred := by decide +kernel
    have := q p np
    rw [← e] at this
    exact this
end
end K01
set_option Elab.async false
set_option linter.all false
set_option maxRecDepth 100000
set_option maxHeartbeats 4000000
namespace K01
open PySem PySem.Spec PyProof.Rows L2 Lc GxR
theorem atI_lt {α : Type} {xs : List α} {r : Int} (h0 : 0 ≤ r) (h : r < xs.length) : ∃ v, v ∈ xs ∧ atI xs r = some v := by
  have hn : r.toNat < xs.length := by omega
  refine ⟨xs[r.toNat], List.getElem_mem hn, ?_⟩
  have := atI_nat (xs := xs) (j := r.toNat) (List.getElem?_eq_getElem hn)
  rw [show ((r.toNat : Nat) : Int) = r by omega] at this
  exact this
/-- a sign of a text, drawn -/
theorem sign_at {z : Str} {r : Int} (h0 : 0 ≤ r) (h : r < z.length) : ∃ d, atI z.cps.toList r = some d := by
  obtain ⟨d, _, e⟩ := atI_lt (xs := z.cps.toList) h0 (by
    rw [Array.length_toList]
    exact h)
  exact ⟨d, e⟩
/-- a text as a thing -/
theorem Th.text {K : PySem.W.Frag} {H : Hp} {s : Str} (h : s.length ≤ 1000) : Th K H (.str s) (some s.cps.toList) := by
  have e := tx_of s
  have hl : s.cps.toList.length ≤ 1000 := by
    rw [Array.length_toList]
    exact h
  generalize s.cps.toList = l at e hl
  rw [e]
  exact .str l hl
theorem sum_of (b : Nat) : ∀ ns : List Nat, (∀ n ∈ ns, n ≤ b) → ns.sum ≤ ns.length * b
  | [], _ => by simp
  | n :: r, h => by
    have h1 := h n (by simp)
    have h2 := sum_of b r fun m hm => h m (List.mem_cons_of_mem _ hm)
    rw [List.sum_cons, List.length_cons, Nat.succ_mul]
    omega
theorem glue_len : ∀ ys : List Str, (∀ x ∈ ys, x.length = 1) → (Str.join "" ys).length ≤ ys.length
  | [], _ => by simp [Str.join, Str.empty, Str.length]
  | [x], h => by
    have := h x (by simp)
    show x.length ≤ 1
    omega
  | x :: z :: r, h => by
    have ih := glue_len (z :: r) fun w hw => h w (List.mem_cons_of_mem _ hw)
    have hx := h x (by simp)
    show (x ++ "" ++ Str.join "" (z :: r)).length ≤ _
    rw [Str.length_append, Str.length_append, List.length_cons, show ("" : Str).length = 0 from rfl]
    omega
theorem cut_le (a : Str) (lo hi : Option Int) : (cutS a lo hi).length ≤ a.length := J1.cutS_len_le a lo hi
theorem kitF {K : PySem.W.Frag} {t : String} (h : PySem.W.kitOne K (.type t) (.type "str") = some false) : PySem.W.kitOne K (.type t) (.type "str") = some false := h
theorem barred_len : ∀ x ∈ barred, x.length ≤ 8 := by decide +kernel
section
variable {P : Program} {w : World} {K : PySem.W.Frag} {mg : Str → Option Value} {base : Heap} {f : Addr} {fd : FuncData}
abbrev s_w_thing : Stmt := topS 17
abbrev N_w_thing : List Str := ["_law_deck_here", "_law_way", "_law_own_here", "_law_word", "_law_some", "_law_signs", "_law_text", "_law_at", "_law_k"]
theorem sc_w_thing : FnScope N_w_thing ["_law_deck_here"] (defScope s_w_thing) := ⟨rfl, rfl, rfl, by decide +kernel, rfl, by decide +kernel, by decide +kernel⟩
def spThing (K : PySem.W.Frag) : Sp := fun vs H Q _ => ∃ (d c : Addr), vs = [.ref d] ∧ Dk d c H ∧ ∀ (v : V) (o : Option (List Nat)) H', Th K H' v o → Fr (MD d c) H H' → Dk d c H' → Q v H'
theorem ok_w_thing {k : Nat} (F : Fun K "_law_thing" "_law_thing" s_w_thing f fd) (m_len : mg "len" = none) (m_range : mg "range" = none) (C_w_take : Dn P w K mg base "_law_take" ["_law_deck_here", "_law_most"] 2 spTake) (C_w_own : Dn P w K mg base "_law_own" [] 1 spOwn) :
    FnOk P w K mg base CX0 (k + 3) f fd ["_law_deck_here"] (spThing K) := by
  refine F.ok sc_w_thing (fun vs H Q E h => ?_) (fun cdv A outer s H vs Q E hr h => ?_)
  · obtain ⟨d, c, rfl, _⟩ := h
    rfl
  · obtain ⟨d, c, rfl, hD, q⟩ := h
    refine ⟨_, (pss_cons (ps_set (i := 1) sc_w_thing.nd rfl (.inl rfl) (Lc.pe_dn C_w_take (hr.mono (by omega)) (by rfl) (pa_cons (pv 0) (pa_cons pe_int pa_nil))))
      (pss_cons (ps_if (pt_cmpR op_eq (pv 1) pe_int (nomark _))
      (pss_one (ps_ret (pe_ix ix_list (pe_lst (pa_cons pe_non (pa_cons pe_bl (pa_cons pe_int (pa_cons (pe_tup (pa_cons pe_str pa_nil)) (pa_cons (pe_lst (pa_cons pe_str pa_nil)) (pa_cons pe_dnewK (pa_cons (pe_tup pa_nil) (pa_cons pe_int (pa_cons pe_str pa_nil)))))))))) (Lc.pe_dn C_w_take (hr.mono (by omega)) (by rfl) (pa_cons (pv 0) (pa_cons pe_int pa_nil))) (fun _ _ => rfl))))
      pss_nil)
      (pss_cons (ps_if (pt_cmpR op_lt (pv 1) pe_int (nomark _))
      (pss_cons (ps_set (i := 2) sc_w_thing.nd rfl (.inl rfl) (Lc.pe_dn0 C_w_own (hr.mono (by omega)) (by rfl)))
        (pss_cons (ps_set (i := 3) sc_w_thing.nd rfl (.inl rfl) (pe_ix ix_list (pv 2) (Lc.pe_dn C_w_take (hr.mono (by omega)) (by rfl) (pa_cons (pv 0) (pa_cons (pe_callB call_len_seq (by rfl) m_len (by decide +kernel) (pa_cons (pv 2) pa_nil)) pa_nil))) (fun _ _ => rfl)))
        (pss_cons (ps_set (i := 4) sc_w_thing.nd rfl (.inl rfl) (pe_lst (pa_cons (pv 3) (pa_cons (pe_op op_add_str (pv 3) pe_str) (pa_cons (pe_slice sl_str (pv 3) po_none (po_some (pe_un un_neg pe_int))) (pa_cons (pe_op op_add_str pe_str (pe_slice sl_str (pv 3) (po_some pe_int) po_none)) (pa_cons (pe_op op_add_str (pv 3) pe_str) pa_nil)))))))
        (pss_one (ps_ret (pe_ix ix_list (pv 4) (Lc.pe_dn C_w_take (hr.mono (by omega)) (by rfl) (pa_cons (pv 0) (pa_cons pe_int pa_nil))) (fun _ _ => rfl)))))))
      pss_nil)
      (pss_cons (ps_if (pt_cmpR op_eq (pv 1) pe_int (nomark _))
      (pss_one (ps_ret (pe_op op_add_str (pe_ix ix_str pe_str (Lc.pe_dn C_w_take (hr.mono (by omega)) (by rfl) (pa_cons (pv 0) (pa_cons pe_int pa_nil))) (fun _ _ => rfl)) (pe_ix ix_list (pe_lst (pa_cons pe_str (pa_cons pe_str (pa_cons pe_str (pa_cons pe_str (pa_cons pe_str (pa_cons pe_str (pa_cons pe_str pa_nil)))))))) (Lc.pe_dn C_w_take (hr.mono (by omega)) (by rfl) (pa_cons (pv 0) (pa_cons pe_int pa_nil))) (fun _ _ => rfl)))))
      pss_nil)
      (pss_cons (ps_set (i := 5) sc_w_thing.nd rfl (.inr rfl) pe_str)
      (pss_cons (ps_set (i := 6) sc_w_thing.nd rfl (.inl rfl) (pe_join pe_str (pe_lc (own := [("_law_k", 8)]) (g := gName 8) (tt := tYes) rfl sc_w_thing.nd (pi_range1 (by rfl) m_range (pa_cons (Lc.pe_dn C_w_take (hr.mono (by omega)) (by rfl) (pa_cons (pv 0) (pa_cons pe_int pa_nil))) pa_nil)) (blkOk_by (N := N_w_thing) (sc := defScope s_w_thing) (by decide +kernel)) (fun _ _ _ _ _ => pg_name (i := 8) sc_w_thing.nd rfl (Or.inl rfl)) (fun _ _ _ _ _ => pts_nil) (fun _ _ _ _ _ => (pe_ix ix_str (pv 5) (Lc.pe_dn C_w_take (hr.mono (by omega)) (by rfl) (pa_cons (pv 0) (pa_cons pe_int pa_nil))) (fun _ _ => rfl))))))
      (Evl.pss_cut (ps_if (PW.pt (pw_and (pt_cmpR op_eq (pv 1) pe_int (nomark _)) (pw_and1 (pt_cmpR op_ne (pv 6) pe_str (nomark _)))))
      (pss_cons (ps_set (i := 7) sc_w_thing.nd rfl (.inl rfl) (Lc.pe_dn C_w_take (hr.mono (by omega)) (by rfl) (pa_cons (pv 0) (pa_cons (pe_callB call_len_str (by rfl) m_len (by decide +kernel) (pa_cons (pv 6) pa_nil)) pa_nil))))
        (pss_cons (ps_set (i := 6) sc_w_thing.nd rfl (.inl rfl) (pe_op op_add_str (pe_op op_add_str (pe_slice sl_str (pv 6) po_none (po_some (pv 7))) (pe_ix ix_str pe_str (Lc.pe_dn C_w_take (hr.mono (by omega)) (by rfl) (pa_cons (pv 0) (pa_cons pe_int pa_nil))) (fun _ _ => rfl))) (pe_slice sl_str (pv 6) (po_some (pe_op op_add (pv 7) pe_int)) po_none)))
        (pss_one (ps_ret (pe_op op_add_str (pe_ix ix_list (pe_lst (pa_cons pe_str (pa_cons (pe_ix ix_str pe_str (Lc.pe_dn C_w_take (hr.mono (by omega)) (by rfl) (pa_cons (pv 0) (pa_cons pe_int pa_nil))) (fun _ _ => rfl)) pa_nil))) (Lc.pe_dn C_w_take (hr.mono (by omega)) (by rfl) (pa_cons (pv 0) (pa_cons pe_int pa_nil))) (fun _ _ => rfl)) (pv 6))))))
      pss_nil)
      (pss_cons (ps_if (pt_cmpR op_lt (pv 1) pe_int (nomark _))
      (pss_one (ps_ret (pe_op op_add_str (pe_ix ix_str pe_str (Lc.pe_dn C_w_take (hr.mono (by omega)) (by rfl) (pa_cons (pv 0) (pa_cons pe_int pa_nil))) (fun _ _ => rfl)) (pv 6))))
      pss_nil)
      (pss_one (ps_ret (pv 6))))))))))), ?_⟩
    refine ⟨.ref d, rfl, d, c, 8, rfl, hD, by decide, by decide, fun r0 H0 _ _ f0 D0 => ?_⟩
    refine ⟨.int r0, rfl, rfl, _, rfl, ite2 (fun e => ?_) (fun e => ?_)⟩
    · -- no texts, and one
      refine ⟨sz (by show 1 ≤ 100000; decide), fun t1 n1 => ?_⟩
      have D1 := D0.new (o := .tup [.str "Ann"]) n1
      have f1 := f0.trans (Fr.new (o := .tup [.str "Ann"]) n1)
      have h1 : (upd H0 t1 (.tup [.str "Ann"])) t1 = some (.tup [.str "Ann"]) := upd_same
      have m1 := D0.out n1
      generalize upd H0 t1 (.tup [.str "Ann"]) = H1 at D1 f1 h1 ⊢
      refine ⟨sz (by show 1 ≤ 100000; decide), fun l1 n2 => ?_⟩
      have D2 := D1.new (o := .lst [.str "Ann"]) n2
      have f2 := f1.trans (Fr.new (o := .lst [.str "Ann"]) n2)
      have h1 := same_new (o := .lst [.str "Ann"]) n2 _ _ h1
      have h2 : (upd H1 l1 (.lst [.str "Ann"])) l1 = some (.lst [.str "Ann"]) := upd_same
      have m2 := D1.out n2
      generalize upd H1 l1 (.lst [.str "Ann"]) = H2 at D2 f2 h1 h2 ⊢
      refine fun e1 n3 => ?_
      have D3 := D2.new (o := .dK []) n3
      have f3 := f2.trans (Fr.new (o := .dK []) n3)
      have h1 := same_new (o := .dK []) n3 _ _ h1
      have h2 := same_new (o := .dK []) n3 _ _ h2
      have h3 : (upd H2 e1 (.dK [])) e1 = some (.dK []) := upd_same
      have m3 := D2.out n3
      generalize upd H2 e1 (.dK []) = H3 at D3 f3 h1 h2 h3 ⊢
      refine ⟨Nat.zero_le _, fun t2 n4 => ?_⟩
      have D4 := D3.new (o := .tup []) n4
      have f4 := f3.trans (Fr.new (o := .tup []) n4)
      have h1 := same_new (o := .tup []) n4 _ _ h1
      have h2 := same_new (o := .tup []) n4 _ _ h2
      have h3 := same_new (o := .tup []) n4 _ _ h3
      have h4 : (upd H3 t2 (.tup [])) t2 = some (.tup []) := upd_same
      have m4 := D3.out n4
      generalize upd H3 t2 (.tup []) = H4 at D4 f4 h1 h2 h3 h4 ⊢
      obtain ⟨L, hL⟩ : ∃ L : List V, L = [.non, .bl true, .int 7, .ref t1, .ref l1, .ref e1, .ref t2, .int 0, .str ""] := ⟨_, rfl⟩
      refine ⟨sz (by show 9 ≤ 100000; decide), fun l n5 => ?_⟩
      rw [← hL]
      have D5 := D4.new (o := .lst L) n5
      have f5 := f4.trans (Fr.new (o := .lst L) n5)
      have h1 := same_new (o := .lst L) n5 _ _ h1
      have h2 := same_new (o := .lst L) n5 _ _ h2
      have h3 := same_new (o := .lst L) n5 _ _ h3
      have h4 := same_new (o := .lst L) n5 _ _ h4
      have h5 : (upd H4 l (.lst L)) l = some (.lst L) := upd_same
      have m5 := D4.out n5
      generalize upd H4 l (.lst L) = H5 at D5 f5 h1 h2 h3 h4 h5 ⊢
      refine ⟨.ref d, rfl, d, c, 9, rfl, D5, by decide, by decide, fun r H6 ra rb f6 D6 => ?_⟩
      have h1 := f6.at h1 m1
      have h2 := f6.at h2 m2
      have h3 := f6.at h3 m3
      have h4 := f6.at h4 m4
      have h5 := f6.at h5 m5
      have f6 := f5.trans f6
      obtain ⟨v, hv, ev⟩ := atI_lt (xs := L) ra (by rw [hL]; exact rb)
      refine ⟨l, _, r, v, rfl, rfl, SqL.of h5, ev, ?_⟩
      rw [hL] at hv
      simp only [List.mem_cons, List.not_mem_nil, or_false] at hv
      rcases hv with rfl | rfl | rfl | rfl | rfl | rfl | rfl | rfl | rfl
      · exact q _ none H6 (.no (.base .non) (kit_ty (by decide +kernel))) f6 D6
      · exact q _ none H6 (.no (.base (.bl _)) (kit_ty (by decide +kernel))) f6 D6
      · exact q _ none H6 (.no (.base (.int _)) (kit_ty (by decide +kernel))) f6 D6
      · exact q _ none H6 (.no (.base (.tup h1)) (kit_ty (by decide +kernel))) f6 D6
      · exact q _ none H6 (.no (.base (.lst h2)) (kit_ty (by decide +kernel))) f6 D6
      · exact q _ none H6 (.no (.base (.dK h3)) (kit_ty (by decide +kernel))) f6 D6
      · exact q _ none H6 (.no (.base (.tup h4)) (kit_ty (by decide +kernel))) f6 D6
      · exact q _ none H6 (.no (.base (.int _)) (kit_ty (by decide +kernel))) f6 D6
      · exact q _ _ H6 (.text (by decide +kernel)) f6 D6
    clear e
    refine ⟨.int r0, rfl, _, 3, rfl, rfl, _, rfl, ite2 (fun e => ?_) (fun e => ?_)⟩
    · -- own words
      refine ⟨rfl, fun p np => ?_⟩
      have D1 := D0.new (o := .lst (barred.map V.str)) np
      have f1 := f0.trans (Fr.new (o := .lst (barred.map V.str)) np)
      have h1 : (upd H0 p (.lst (barred.map V.str))) p = some (.lst (barred.map V.str)) := upd_same
      have m1 := D0.out np
      show tSeq _ _ _ _ (upd H0 p (.lst (barred.map V.str)))
      generalize upd H0 p (.lst (barred.map V.str)) = H1 at D1 f1 h1 ⊢
      refine ⟨.ref p, rfl, .ref d, rfl, .ref p, rfl, p, _, rfl, .inl (SqL.of h1), d, c, _, rfl, D1, (by decide +kernel), (by decide +kernel), fun r H2 ra rb f2 D2 => ?_⟩
      have h2 := f2.at h1 m1
      have f2 := f1.trans f2
      obtain ⟨wd, wd8, ewd⟩ : ∃ wd : Str, wd.length ≤ 8 ∧ atI (barred.map V.str) r = some (.str wd) := by
        obtain ⟨v, hv, e⟩ := atI_lt (xs := barred.map V.str) ra rb
        obtain ⟨t, ht, rfl⟩ := List.mem_map.mp hv
        exact ⟨t, barred_len t ht, e⟩
      refine ⟨p, _, r, .str wd, rfl, rfl, SqL.of h2, ewd, ?_⟩
      have k1 := cut_le wd none (some (-1))
      have k2 := cut_le wd (some 1) none
      refine ⟨.str wd, rfl, .str wd, rfl, wd, "q", rfl, rfl, (show _ + 1 ≤ sizeLine from sz (by omega)), .str wd, rfl, 1, rfl, -1, rfl, wd, rfl, sz (by omega), .str wd, rfl, 1, rfl, wd, rfl, sz (by omega), "A", _, rfl, rfl, (show 1 + _ ≤ sizeLine from sz (by omega)), .str wd, rfl, wd, "s", rfl, rfl, (show _ + 1 ≤ sizeLine from sz (by omega)), sz (by show 5 ≤ 100000; decide), fun l nl => ?_⟩
      obtain ⟨L, hL⟩ : ∃ L : List Str, L = [wd, wd ++ "q", cutS wd none (some (-1)), "A" ++ cutS wd (some 1) none, wd ++ "s"] := ⟨_, rfl⟩
      rw [show ([V.str wd, V.str (wd ++ "q"), V.str (cutS wd none (some (-1))), V.str ("A" ++ cutS wd (some 1) none), V.str (wd ++ "s")] : List V) = L.map V.str by rw [hL]; rfl]
      have D3 := D2.new (o := .lst (L.map V.str)) nl
      have f3 := f2.trans (Fr.new (o := .lst (L.map V.str)) nl)
      have h3 : (upd H2 l (.lst (L.map V.str))) l = some (.lst (L.map V.str)) := upd_same
      have m3 := D2.out nl
      generalize upd H2 l (.lst (L.map V.str)) = H3 at D3 f3 h3 ⊢
      refine ⟨.ref l, rfl, .ref d, rfl, d, c, 5, rfl, D3, by decide, by decide, fun r4 H4 r4a r4b f4 D4 => ?_⟩
      have h4 := f4.at h3 m3
      obtain ⟨v, hv, ev⟩ := atI_lt (xs := L.map V.str) r4a (by rw [hL]; exact r4b)
      obtain ⟨t, ht, rfl⟩ := List.mem_map.mp hv
      refine ⟨l, _, r4, .str t, rfl, rfl, SqL.of h4, ev, q _ _ H4 (.text ?_) (f3.trans f4) D4⟩
      rw [hL] at ht
      simp only [List.mem_cons, List.not_mem_nil, or_false] at ht
      rcases ht with rfl | rfl | rfl | rfl | rfl
      · omega
      · rw [Str.length_append]
        show _ + 1 ≤ 1000
        omega
      · omega
      · rw [Str.length_append]
        show 1 + _ ≤ 1000
        omega
      · rw [Str.length_append]
        show _ + 1 ≤ 1000
        omega
    clear e
    refine ⟨.int r0, rfl, rfl, _, rfl, ite2 (fun e => ?_) (fun e => ?_)⟩
    · -- letters
      refine ⟨.ref d, rfl, d, c, 8, rfl, D0, by decide, by decide, fun r H1 ra rb f1 D1 => ?_⟩
      have f1 := f0.trans f1
      obtain ⟨dd, hdd⟩ := sign_at (z := "tuvwxyza") ra (by rw [show ("tuvwxyza" : Str).length = 8 from by decide +kernel]; exact rb)
      refine ⟨_, r, dd, rfl, rfl, sz (by decide +kernel), hdd, sz (by show 7 ≤ 100000; decide), fun l nl => ?_⟩
      obtain ⟨L, hL⟩ : ∃ L : List Str, L = (["", "0", "9", "10", "x", "-", "5"] : List Str) := ⟨_, rfl⟩
      show tCall _ _ _ _ _ (upd H1 l (.lst ((["", "0", "9", "10", "x", "-", "5"] : List Str).map V.str))) _
      rw [← hL]
      have D2 := D1.new (o := .lst (L.map V.str)) nl
      have f2 := f1.trans (Fr.new (o := .lst (L.map V.str)) nl)
      have h2 : (upd H1 l (.lst (L.map V.str))) l = some (.lst (L.map V.str)) := upd_same
      have m2 := D1.out nl
      generalize upd H1 l (.lst (L.map V.str)) = H2 at D2 f2 h2 ⊢
      refine ⟨.ref d, rfl, d, c, 7, rfl, D2, by decide, by decide, fun r3 H3 r3a r3b f3 D3 => ?_⟩
      have h3 := f3.at h2 m2
      obtain ⟨v, hv, ev⟩ := atI_lt (xs := L.map V.str) r3a (by rw [hL]; exact r3b)
      obtain ⟨t, ht, rfl⟩ := List.mem_map.mp hv
      have t2 : t.length ≤ 2 := by
        rw [hL] at ht
        have all2 : ∀ t ∈ (["", "0", "9", "10", "x", "-", "5"] : List Str), t.length ≤ 2 := by decide +kernel
        exact all2 t ht
      refine ⟨l, _, r3, .str t, rfl, rfl, SqL.of h3, ev, ⟨#[dd]⟩, t, rfl, rfl, (show 1 + _ ≤ sizeLine from sz (by omega)), q _ _ H3 (.text ?_) (f2.trans f3) D3⟩
      rw [Str.length_append]
      show 1 + _ ≤ 1000
      omega
    clear e
    -- a text of small signs
    refine ⟨⟨_, rfl⟩, .ref d, rfl, d, c, 10, rfl, D0, by decide, by decide, fun r1 H1 a1 b1 f1 D1 => ?_⟩
    have f1 := f0.trans f1
    refine ⟨r1, rfl, by omega, by omega, fun D nD => ?_⟩
    have nMD := D1.out nD
    have nDH : H D = none := f1.free nD
    refine lc_range (lo := 0) (n := r1.toNat) (fun i H' => ∃ ws : List Str, H' D = some (.lst (ws.map V.str)) ∧ Fr (MD d c) H H' ∧ Dk d c H' ∧ ws.length = i ∧ ∀ x ∈ ws, x.length = 1)
      ⟨[], upd_same, f1.trans (Fr.new nD), D1.new nD, rfl, (fun _ z => nomatch z)⟩ (fun i H' hi ⟨ws, hw, g1, G1, wl, w1⟩ => ?_) (fun H' ⟨ws, hw, g1, G1, wl, w1⟩ => ?_)
    · refine ⟨rfl, yes_if ⟨_, rfl, .ref d, rfl, d, c, 26, rfl, G1, by decide, by decide, fun r2 H2 a2 b2 g2 G2 => ?_⟩⟩
      obtain ⟨dd, hdd⟩ := sign_at (z := smallS) a2 (by rw [show smallS.length = 26 from by decide +kernel]; exact b2)
      have hw2 := g2.at hw nMD
      refine ⟨_, r2, dd, rfl, rfl, sz (by decide +kernel), hdd, _, hw2, ?_, ws ++ [⟨#[dd]⟩], ?_, (g1.trans g2).own nDH, G2.keep nMD, ?_, ?_⟩
      · rw [List.length_map]
        exact szl (by omega)
      · rw [upd_same, List.map_append]
        rfl
      · rw [List.length_append, wl]
        rfl
      · intro x hx
        rcases List.mem_append.mp hx with hx | hx
        · exact w1 x hx
        · have ex : x = ⟨#[dd]⟩ := by simpa using hx
          rw [ex]
          rfl
    · have wr : ws.length ≤ 9 := by omega
      have tl : (Txt.join "" ws).length ≤ 9 := by
        rw [TL.join_eq]
        exact Nat.le_trans (glue_len ws w1) wr
      refine ⟨"", D, ws, rfl, rfl, .inl (SqL.of hw), ?_, ?_⟩
      · have := sum_of 1 (ws.map (·.length)) fun n hn => by
          obtain ⟨z, hz, rfl⟩ := List.mem_map.mp hn
          exact Nat.le_of_eq (w1 z hz)
        rw [List.length_map] at this
        show _ + ws.length * 0 ≤ _
        omega
      generalize Txt.join "" ws = tt at tl ⊢
      refine ⟨fun σ H2 => σ = [some (.ref d), some (.int r0), none, none, none, some (.str smallS), some (.str tt), none, none] ∧ H2 = H', ?_, ?_⟩
      · refine ⟨.int r0, rfl, rfl, _, rfl, ite2 (fun e => ?_) (fun e => ⟨rfl, rfl⟩)⟩
        refine ⟨.str tt, rfl, rfl, _, rfl, ?_⟩
        by_cases ht : tt = ""
        · subst ht
          exact iteF ⟨rfl, rfl⟩
        · have e0 : (!decide (V.str tt = V.str "")) = true := by
            rw [decide_eq_false (fun z => ht (V.str.inj z))]
            rfl
          have hp : 0 < tt.length := by
            rcases Nat.eq_zero_or_pos tt.length with z | z
            · exfalso
              refine ht ?_
              rw [tx_of tt]
              have : tt.cps.toList = [] := by
                rw [← List.length_eq_zero_iff, Array.length_toList]
                exact z
              rw [this]
              rfl
            · exact z
          show if (!decide (V.str tt = V.str "")) = true then _ else _
          rw [e0]
          refine iteT ?_
          refine ⟨.ref d, rfl, .str tt, rfl, tt, rfl, sz (by omega), d, c, _, rfl, G1, by omega, by omega, fun ra H2 ra0 ra1 g2 G2 => ?_⟩
          have g2 := g1.trans g2
          refine ⟨.str tt, rfl, .int ra, rfl, _, rfl, tt, rfl, sz (by omega), .ref d, rfl, d, c, 9, rfl, G2, by decide, by decide, fun rb H3 rb0 rb1 g3 G3 => ?_⟩
          have g3 := g2.trans g3
          obtain ⟨dd, hdd⟩ := sign_at (z := "AZ09 -_.\n") rb0 (by rw [show ("AZ09 -_.\n" : Str).length = 9 from by decide +kernel]; exact rb1)
          have k1 := cut_le tt none (some ra)
          have k2 := cut_le tt (some (ra + 1)) none
          refine ⟨_, rb, dd, rfl, rfl, sz (by decide +kernel), hdd, _, _, rfl, rfl, (show _ + 1 ≤ sizeLine from sz (by omega)), .str tt, rfl, .int ra, rfl, ra, 1, rfl, rfl, _, rfl, tt, rfl, sz (by omega), _, _, rfl, rfl, ?_, ?_⟩
          · rw [Str.length_append]
            show _ + 1 + _ ≤ sizeLine
            exact sz (by omega)
          have yl : (cutS tt none (some ra) ++ (⟨#[dd]⟩ : Str) ++ cutS tt (some (ra + 1)) none).length ≤ 19 := by
            rw [Str.length_append, Str.length_append]
            show _ + 1 + _ ≤ 19
            omega
          generalize cutS tt none (some ra) ++ (⟨#[dd]⟩ : Str) ++ cutS tt (some (ra + 1)) none = yy at yl ⊢
          refine ⟨.ref d, rfl, d, c, 26, rfl, G3, by decide, by decide, fun rc H4 rc0 rc1 g4 G4 => ?_⟩
          have g4 := g3.trans g4
          obtain ⟨ee, hee⟩ := sign_at (z := greatS) rc0 (by rw [show greatS.length = 26 from by decide +kernel]; exact rc1)
          refine ⟨_, rc, ee, rfl, rfl, sz (by decide +kernel), hee, sz (by show 2 ≤ 100000; decide), fun l nl => ?_⟩
          have h5 : (upd H4 l (.lst [.str "", .str ⟨#[ee]⟩])) l = some (.lst [.str "", .str ⟨#[ee]⟩]) := upd_same
          have G5 := G4.new (o := .lst [.str "", .str ⟨#[ee]⟩]) nl
          have g5 := g4.trans (Fr.new (o := .lst [.str "", .str ⟨#[ee]⟩]) nl)
          have m5 := G4.out nl
          generalize upd H4 l (.lst [.str "", .str ⟨#[ee]⟩]) = H5 at h5 G5 g5 ⊢
          refine ⟨.ref d, rfl, d, c, 2, rfl, G5, by decide, by decide, fun rd H6 rd0 rd1 g6 G6 => ?_⟩
          have h6 := g6.at h5 m5
          obtain ⟨ll, hll, el⟩ : ∃ ll : Str, ll.length ≤ 1 ∧ atI ([.str "", .str ⟨#[ee]⟩] : List V) rd = some (.str ll) := by
            rcases (show rd = 0 ∨ rd = 1 by omega) with rfl | rfl
            · exact ⟨"", by decide, rfl⟩
            · exact ⟨⟨#[ee]⟩, Nat.le_refl 1, rfl⟩
          refine ⟨l, _, rd, .str ll, rfl, rfl, SqL.of h6, el, .str yy, rfl, ll, yy, rfl, rfl, sz (by omega), q _ _ H6 (.text ?_) (g5.trans g6) G6⟩
          rw [Str.length_append]
          omega
      · rintro σ H2 ⟨rfl, rfl⟩
        refine ⟨.int r0, rfl, _, 7, rfl, rfl, _, rfl, ite2 (fun e => ?_) (fun e => ?_)⟩
        · refine ⟨.ref d, rfl, d, c, 26, rfl, G1, by decide, by decide, fun rc H4 rc0 rc1 g4 G4 => ?_⟩
          obtain ⟨ee, hee⟩ := sign_at (z := greatS) rc0 (by rw [show greatS.length = 26 from by decide +kernel]; exact rc1)
          refine ⟨_, rc, ee, rfl, rfl, sz (by decide +kernel), hee, .str tt, rfl, ⟨#[ee]⟩, tt, rfl, rfl, (show 1 + _ ≤ sizeLine from sz (by omega)), q _ _ H4 (.text ?_) (g1.trans g4) G4⟩
          rw [Str.length_append]
          show 1 + _ ≤ 1000
          omega
        · exact ⟨.str tt, rfl, q _ _ _ (.text (by omega)) g1 G1⟩
end
end K01
set_option Elab.async false
set_option linter.all false
set_option maxRecDepth 100000
set_option maxHeartbeats 4000000
namespace K01
open PySem PySem.Spec PyProof.Rows L2 Lc GxR
/-- all stays but tables -/
def Mv (H H' : Hp) : Prop := ∀ a o, H a = some o → (∀ ps, o ≠ .tbl ps) → H' a = some o
theorem Mv.of {H H' : Hp} (s : Same H H') : Mv H H' := fun a o e _ => s a o e
theorem Mv.trans {H H1 H2 : Hp} (a : Mv H H1) (b : Mv H1 H2) : Mv H H2 := fun p o e n => b p o (a p o e n) n
theorem Mv.tab {T : Addr} {H H' : Hp} (t : TabG H T) (b : Tabbed T H H') : Mv H H' := fun a o e n => by
  obtain ⟨ps, hp, _⟩ := t
  have : a ≠ T := fun z => by
    rw [z, hp] at e
    exact n ps (Option.some.inj e).symm
  rw [b.2 a this]
  exact e
theorem TabG.same {T : Addr} {H H' : Hp} (t : TabG H T) (s : Same H H') : TabG H' T := by
  obtain ⟨ps, hp, h⟩ := t
  exact ⟨ps, s _ _ hp, h⟩
theorem Dk.mv {d c : Addr} {H H' : Hp} (h : Dk d c H) (m : Mv H H') : Dk d c H' := by
  obtain ⟨cells, n, s, h1, h2, h3⟩ := h
  exact ⟨cells, n, s, m _ _ h1 (fun _ z => nomatch z), m _ _ h2 (fun _ z => nomatch z), h3⟩
theorem Th.mv {K : PySem.W.Frag} {H H' : Hp} {v : V} {o : Option (List Nat)} (h : Th K H v o) (m : Mv H H') : Th K H' v o := by
  cases h with
  | str l hl => exact .str l hl
  | @no _ t ty n =>
    refine .no ?_ n
    cases ty with
    | base b =>
      refine .base ?_
      cases b with
      | non => exact .non
      | bl x => exact .bl x
      | int i => exact .int i
      | str x => exact .str x
      | flt x => exact .flt x
      | lst e => exact .lst (m _ _ e (fun _ z => nomatch z))
      | frz e => exact .frz (m _ _ e (fun _ z => nomatch z))
      | tup e => exact .tup (m _ _ e (fun _ z => nomatch z))
      | dK e => exact .dK (m _ _ e (fun _ z => nomatch z))
      | dT e => exact .dT (m _ _ e (fun _ z => nomatch z))
      | ins e c1 c2 c3 c4 c5 => exact .ins (m _ _ e (fun _ z => nomatch z)) c1 c2 c3 c4 c5
    | byt b => exact .byt b
    | set e => exact .set (m _ _ e (fun _ z => nomatch z))
    | kList e c => exact .kList e c
    | kTuple e c => exact .kTuple e c
    | kDict e c => exact .kDict e c
    | fTuple e => exact .fTuple (m _ _ e (fun _ z => nomatch z))
    | fDict e => exact .fDict (m _ _ e (fun _ z => nomatch z))
/-- the text that the law looks at -/
def txOf (o : Option (List Nat)) : List Nat := o.getD []
theorem name_tx (o : Option (List Nat)) : nameO o = nameO (some (txOf o)) := by cases o <;> rfl
theorem kind_tx (o : Option (List Nat)) : kindO o = kindO (some (txOf o)) := by
  cases o
  · decide +kernel
  · rfl
theorem letter_tx (o : Option (List Nat)) : letterO o = letterO (some (txOf o)) := by cases o <;> rfl
theorem notT {b : Bool} (h : ¬ b = true) : b = false := by cases b with
  | false => rfl
  | true => exact absurd rfl h
section
variable {P : Program} {w : World} {K : PySem.W.Frag} {mg : Str → Option Value} {base : Heap} {f : Addr} {fd : FuncData}
abbrev s_law : Stmt := topS 18
abbrev N_law : List Str := ["_law_script", "_law_deck_here", "_law_small", "_law_k", "_law_thing_here", "_law_text", "_law_name", "_law_kind", "_law_letter", "_law_found", "_law_due"]
theorem sc_law : FnScope N_law ["_law_script"] (defScope s_law) := ⟨rfl, rfl, rfl, by decide +kernel, rfl, by decide +kernel, by decide +kernel⟩
def spLaw (K : PySem.W.Frag) (T : Addr) : Sp := fun vs H Q _ => ∃ (a : Addr) (ns : List Int), vs = [.ref a] ∧ SqL K H a (ns.map V.int) ∧ TabG H T ∧ ∀ H', Q (.bl true) H'
theorem ok_law {T : Addr} (F : Fun K "law" "law" s_law f fd) (m_range : mg "range" = none) (m_str : mg "str" = none) (m_bool : mg "bool" = none) (m_len : mg "len" = none) (m_isinstance : mg "isinstance" = none)
    (C_w_deck : Dn P w K mg base "_law_deck" ["_law_script"] 1 (spDeck K)) (C_w_all_in : Dn P w K mg base "_law_all_in" ["_law_text", "_law_signs"] 1 spAllIn) (C_w_own : Dn P w K mg base "_law_own" [] 1 spOwn)
    (C_w_thing : Dn P w K mg base "_law_thing" ["_law_deck_here"] 3 (spThing K)) (C_is_name : Dn P w K mg base "is_name" ["thing"] 3 (spOf K T nameO)) (C_is_kind : Dn P w K mg base "is_kind" ["thing"] 3 (spOf K T kindO)) (C_is_letter : Dn P w K mg base "is_letter" ["thing"] 2 (spOf K T letterO)) :
    FnOk P w K mg base CX0 4 f fd ["_law_script"] (spLaw K T) := by
  refine F.ok sc_law (fun vs H Q E h => ?_) (fun cdv A outer s H vs Q E hr h => ?_)
  · obtain ⟨a, ns, rfl, _⟩ := h
    rfl
  · obtain ⟨a, ns, rfl, hS, hT, q⟩ := h
    refine ⟨_, (pss_cons (ps_set (i := 1) sc_law.nd rfl (.inl rfl) (Lc.pe_dn C_w_deck (hr.mono (by omega)) (by rfl) (pa_cons (pv 0) pa_nil)))
      (pss_cons (ps_set (i := 2) sc_law.nd rfl (.inl rfl) pe_str)
      (pss_cons (ps_for PassesOwn.never rfl (pi_range1 (by rfl) m_range (pa_cons pe_int pa_nil)) (pg_name (i := 3) sc_law.nd rfl (.inl rfl))
      (pss_cons (ps_set (i := 4) sc_law.nd rfl (.inl rfl) (Lc.pe_dn C_w_thing (hr.mono (by omega)) (by rfl) (pa_cons (pv 1) pa_nil)))
        (pss_cons (ps_set (i := 5) sc_law.nd rfl (.inl rfl) pe_str)
        (Evl.pss_cut (ps_if (pt_val (pe_callB call_isi (by rfl) m_isinstance (by decide +kernel) (pa_cons (pv 4) (pa_cons (pe_bltn (v := .ty "str") (by rfl) m_str (by decide +kernel) rfl) pa_nil))))
        (pss_one (ps_set (i := 5) sc_law.nd rfl (.inl rfl) (pv 4)))
        pss_nil)
        (Evl.pss_cut (ps_set (i := 6) sc_law.nd rfl (.inl rfl) (pe_and (pe_chain op_lt op_lt pe_int (pe_callB call_len_str (by rfl) m_len (by decide +kernel) (pa_cons (pv 5) pa_nil)) pe_int) (pe_and (pe_cmpR op_in_sign (pe_ix ix_str (pv 5) pe_int (fun _ _ => rfl)) pe_str (by rfl)) (pe_one (Lc.pe_dn C_w_all_in (hr.mono (by omega)) (by rfl) (pa_cons (pe_slice sl_str (pv 5) (po_some pe_int) po_none) (pa_cons (pv 2) pa_nil)))))))
        (Evl.pss_cut (ps_set (i := 7) sc_law.nd rfl (.inl rfl) (pe_and (pe_chain op_lt op_lt pe_int (pe_callB call_len_str (by rfl) m_len (by decide +kernel) (pa_cons (pv 5) pa_nil)) pe_int) (pe_and (Lc.pe_dn C_w_all_in (hr.mono (by omega)) (by rfl) (pa_cons (pv 5) (pa_cons (pv 2) pa_nil))) (pe_one (pe_cmpR op_notIn_seq (pv 5) (Lc.pe_dn0 C_w_own (hr.mono (by omega)) (by rfl)) (by rfl))))))
        (Evl.pss_cut (ps_set (i := 8) sc_law.nd rfl (.inl rfl) (pe_and (pe_chain op_lt op_lt pe_int (pe_callB call_len_str (by rfl) m_len (by decide +kernel) (pa_cons (pv 5) pa_nil)) pe_int) (pe_and (pe_cmpR op_in_sign (pe_ix ix_str (pv 5) pe_int (fun _ _ => rfl)) pe_str (by rfl)) (pe_one (Lc.pe_dn C_w_all_in (hr.mono (by omega)) (by rfl) (pa_cons (pe_slice sl_str (pv 5) (po_some pe_int) po_none) (pa_cons pe_str pa_nil)))))))
        (pss_one (ps_for PassesOwn.never rfl (pi_list (pe_lst (pa_cons (pe_tup (pa_cons (Lc.pe_dn C_is_name (hr.mono (by omega)) (by rfl) (pa_cons (pv 4) pa_nil)) (pa_cons (pv 6) pa_nil))) (pa_cons (pe_tup (pa_cons (Lc.pe_dn C_is_kind (hr.mono (by omega)) (by rfl) (pa_cons (pv 4) pa_nil)) (pa_cons (pv 7) pa_nil))) (pa_cons (pe_tup (pa_cons (Lc.pe_dn C_is_letter (hr.mono (by omega)) (by rfl) (pa_cons (pv 4) pa_nil)) (pa_cons (pv 8) pa_nil))) pa_nil))))) (pg_tup rfl (pgs_cons (pg_name (i := 9) sc_law.nd rfl (.inl rfl)) (pgs_cons (pg_name (i := 10) sc_law.nd rfl (.inl rfl)) pgs_nil)))
        (pss_one (ps_if (PW.pt (pw_or (pt_not (pt_val (pe_callB call_isi (by rfl) m_isinstance (by decide +kernel) (pa_cons (pv 9) (pa_cons (pe_bltn (v := .ty "bool") (by rfl) m_bool (by decide +kernel) rfl) pa_nil))))) (pw_or1 (pt_cmpR op_ne (pv 9) (pv 10) (nomark _)))))
          (pss_one (ps_ret pe_bl))
          pss_nil)))))))))))
      (pss_one (ps_ret pe_bl))))), ?_⟩
    refine ⟨.ref a, rfl, a, ns, rfl, hS, fun d c H1 s1 D1 => ?_⟩
    have T1 := TabG.same hT s1
    refine ⟨60, rfl, by decide, by decide, ?_⟩
    refine for_range (lo := 0) (n := (60 : Int).toNat) (fun i σ H' => ∃ y3 y4 y5 y6 y7 y8 y9 y10 : Option V, σ = [some (.ref a), some (.ref d), some (.str smallS), y3, y4, y5, y6, y7, y8, y9, y10] ∧ Dk d c H' ∧ TabG H' T)
      ⟨none, none, none, none, none, none, none, none, rfl, D1, T1⟩ (fun i σ H' hi ⟨y3, y4, y5, y6, y7, y8, y9, y10, e1, D2, T2⟩ => ?_) (fun σ H' ⟨y3, y4, y5, y6, y7, y8, y9, y10, e1, D2, T2⟩ => ?_)
    · subst e1
      refine ⟨.ref d, rfl, d, c, rfl, D2, fun v o H3 th f3 D3 => ?_⟩
      have T3 : TabG H3 T := by
        obtain ⟨ps, hp, h⟩ := T2
        exact ⟨ps, f3.at hp (D2.tbl ⟨ps, hp, h⟩), h⟩
      clear f3 D2 T2
      have l1000 : (txOf o).length ≤ 1000 := by
        cases th with
        | str l hl => exact hl
        | no _ _ => exact Nat.zero_le _
      refine ⟨fun σ H4 => σ = [some (.ref a), some (.ref d), some (.str smallS), some (.int (0 + (i : Int))), some v, some (.str (tx (txOf o))), y6, y7, y8, y9, y10] ∧ H4 = H3, ?_, ?_⟩
      · cases th with
        | str l hl => exact ⟨_, rfl, _, _, .type "str", .type "str", true, rfl, .ty "str", .base (.str _), kit_ty (by decide +kernel), _, rfl, iteT ⟨_, rfl, rfl, rfl⟩⟩
        | @no _ t ty n => exact ⟨_, rfl, _, _, t, .type "str", false, rfl, .ty "str", ty, n, _, rfl, iteF ⟨rfl, rfl⟩⟩
      rintro σ H4 ⟨rfl, rfl⟩
      have en := name_tx o
      have ek := kind_tx o
      have el := letter_tx o
      generalize txOf o = l at en ek el l1000 ⊢
      have lz : (tx l).length ≤ sizeLine := sz (by rw [tx_len]; omega)
      -- by the law: a name
      refine ⟨fun σ H5 => σ = [some (.ref a), some (.ref d), some (.str smallS), some (.int (0 + (i : Int))), some v, some (.str (tx l)), some (.bl (nameO (some l))), y7, y8, y9, y10] ∧ Same H4 H5, ?_, ?_⟩
      · refine ⟨.str (tx l), rfl, tx l, rfl, lz, 0, _, rfl, rfl, _, rfl, ?_⟩
        rw [tx_len]
        cases l with
        | nil => exact iteF ⟨_, rfl, iteF ⟨rfl, Same.refl _⟩⟩
        | cons x r =>
          have e0 : decide ((0 : Int) < ((x :: r).length : Int)) = true := decide_eq_true (by rw [List.length_cons]; omega)
          rw [e0]
          refine iteT ⟨_, 9, rfl, rfl, _, rfl, ?_⟩
          by_cases h9 : ((x :: r).length : Int) < 9
          · rw [decide_eq_true h9]
            refine iteT ⟨.str (tx (x :: r)), rfl, tx (x :: r), 0, x, rfl, rfl, lz, ?_, x, greatS, rfl, rfl, _, rfl, ?_⟩
            · rw [tx_cps]
              exact atI_nat (j := 0) rfl
            have h7 : (r.length : Int) ≤ 7 := by
              rw [List.length_cons] at h9
              omega
            by_cases hx : x ∈ greatS.cps.toList
            · rw [decide_eq_true hx]
              refine iteT ⟨.str (tx (x :: r)), rfl, 1, rfl, tx (x :: r), rfl, lz, ?_⟩
              rw [show (1 : Int) = ((1 : Nat) : Int) from rfl, cutS_from]
              have l2 : r.length ≤ 1000 := Nat.le_trans (Nat.le_succ _) l1000
              refine ⟨_, rfl, r, smallS, rfl, l2, fun H5 s5 => ⟨?_, s5⟩⟩
              have ev : nameO (some (x :: r)) = inS r smallS := by
                show (decide (x ∈ greatS.cps.toList) && (decide ((0 : Int) ≤ (r.length : Int)) && (decide ((r.length : Int) ≤ 7) && inS r smallS))) = _
                rw [decide_eq_true hx, decide_eq_true h7, decide_eq_true (show (0 : Int) ≤ (r.length : Int) by omega), Bool.true_and, Bool.true_and, Bool.true_and]
              rw [ev]
              rfl
            · rw [decide_eq_false hx]
              refine iteF ⟨?_, Same.refl _⟩
              have ev : nameO (some (x :: r)) = false := by
                show (decide (x ∈ greatS.cps.toList) && _) = false
                rw [decide_eq_false hx, Bool.false_and]
              rw [ev]
              rfl
          · rw [decide_eq_false h9]
            refine iteF ⟨?_, Same.refl _⟩
            have h7 : ¬ (r.length : Int) ≤ 7 := fun z => h9 (by rw [List.length_cons]; omega)
            have ev : nameO (some (x :: r)) = false := by
              show (decide (x ∈ greatS.cps.toList) && (decide ((0 : Int) ≤ (r.length : Int)) && (decide ((r.length : Int) ≤ 7) && inS r smallS))) = false
              rw [decide_eq_false h7, Bool.false_and, Bool.and_false, Bool.and_false]
            rw [ev]
            rfl
      rintro σ H5 ⟨rfl, s5⟩
      -- a kind
      refine ⟨fun σ H6 => σ = [some (.ref a), some (.ref d), some (.str smallS), some (.int (0 + (i : Int))), some v, some (.str (tx l)), some (.bl (nameO (some l))), some (.bl (kindO (some l))), y8, y9, y10] ∧ Same H4 H6, ?_, ?_⟩
      · refine ⟨.str (tx l), rfl, tx l, rfl, lz, 1, _, rfl, rfl, _, rfl, ?_⟩
        rw [tx_len]
        by_cases h1 : (1 : Int) < (l.length : Int)
        · rw [decide_eq_true h1]
          refine iteT ⟨_, 9, rfl, rfl, _, rfl, ?_⟩
          have h2 : (2 : Int) ≤ (l.length : Int) := by omega
          by_cases h9 : (l.length : Int) < 9
          · rw [decide_eq_true h9]
            have h8 : (l.length : Int) ≤ 8 := by omega
            refine iteT ⟨.str (tx l), rfl, _, rfl, l, smallS, rfl, l1000, fun H6 s6 => ⟨_, rfl, ?_⟩⟩
            have es : smallO (some l) 2 8 = inS l smallS := by
              show (decide ((2 : Int) ≤ (l.length : Int)) && (decide ((l.length : Int) ≤ 8) && inS l smallS)) = _
              rw [decide_eq_true h2, decide_eq_true h8, Bool.true_and, Bool.true_and]
            cases hi2 : inS l smallS
            · refine iteF ⟨?_, s5.trans s6⟩
              have ev : kindO (some l) = false := by
                show (smallO (some l) 2 8 && _) = false
                rw [es, hi2, Bool.false_and]
              rw [ev]
              rfl
            · refine iteT ⟨.str (tx l), rfl, rfl, fun p np => ⟨p, _, rfl, .inl (SqL.of upd_same), rfl, flat_strs barred, ?_⟩⟩
              rw [in_strs]
              refine ⟨?_, (s5.trans s6).trans (same_new np)⟩
              have ev : kindO (some l) = !decide (tx l ∈ barred) := by
                show (smallO (some l) 2 8 && _) = _
                rw [es, hi2, Bool.true_and]
              rw [ev]
              rfl
          · rw [decide_eq_false h9]
            refine iteF ⟨?_, s5⟩
            have h8 : ¬ (l.length : Int) ≤ 8 := by omega
            have ev : kindO (some l) = false := by
              show ((_ && (decide ((l.length : Int) ≤ 8) && inS l smallS)) && _) = false
              rw [decide_eq_false h8, Bool.false_and, Bool.and_false, Bool.false_and]
            rw [ev]
            rfl
        · rw [decide_eq_false h1]
          refine iteF ⟨_, rfl, iteF ⟨?_, s5⟩⟩
          have h2 : ¬ (2 : Int) ≤ (l.length : Int) := by omega
          have ev : kindO (some l) = false := by
            show ((decide ((2 : Int) ≤ (l.length : Int)) && _) && _) = false
            rw [decide_eq_false h2, Bool.false_and, Bool.false_and]
          rw [ev]
          rfl
      clear s5 H5
      rintro σ H5 ⟨rfl, s5⟩
      -- a letter
      refine ⟨fun σ H6 => σ = [some (.ref a), some (.ref d), some (.str smallS), some (.int (0 + (i : Int))), some v, some (.str (tx l)), some (.bl (nameO (some l))), some (.bl (kindO (some l))), some (.bl (letterO (some l))), y9, y10] ∧ Same H4 H6, ?_, ?_⟩
      · refine ⟨.str (tx l), rfl, tx l, rfl, lz, 0, _, rfl, rfl, _, rfl, ?_⟩
        rw [tx_len]
        cases l with
        | nil => exact iteF ⟨_, rfl, iteF ⟨rfl, s5⟩⟩
        | cons x r =>
          have e0 : decide ((0 : Int) < ((x :: r).length : Int)) = true := decide_eq_true (by rw [List.length_cons]; omega)
          rw [e0]
          refine iteT ⟨_, 3, rfl, rfl, _, rfl, ?_⟩
          by_cases h9 : ((x :: r).length : Int) < 3
          · rw [decide_eq_true h9]
            refine iteT ⟨.str (tx (x :: r)), rfl, tx (x :: r), 0, x, rfl, rfl, lz, ?_, x, letS, rfl, rfl, _, rfl, ?_⟩
            · rw [tx_cps]
              exact atI_nat (j := 0) rfl
            have h7 : ((x :: r).length : Int) ≤ 2 := by omega
            by_cases hx : x ∈ letS.cps.toList
            · rw [decide_eq_true hx]
              refine iteT ⟨.str (tx (x :: r)), rfl, 1, rfl, tx (x :: r), rfl, lz, ?_⟩
              rw [show (1 : Int) = ((1 : Nat) : Int) from rfl, cutS_from]
              have l2 : r.length ≤ 1000 := Nat.le_trans (Nat.le_succ _) l1000
              refine ⟨r, figS, rfl, l2, fun H6 s6 => ⟨?_, s5.trans s6⟩⟩
              have ev : letterO (some (x :: r)) = inS r figS := by
                show (decide (((x :: r).length : Int) ≤ 2) && (decide (x ∈ letS.cps.toList) && inS r figS)) = _
                rw [decide_eq_true hx, decide_eq_true h7, Bool.true_and, Bool.true_and]
              rw [ev]
              rfl
            · rw [decide_eq_false hx]
              refine iteF ⟨?_, s5⟩
              have ev : letterO (some (x :: r)) = false := by
                show (_ && (decide (x ∈ letS.cps.toList) && _)) = false
                rw [decide_eq_false hx, Bool.false_and, Bool.and_false]
              rw [ev]
              rfl
          · rw [decide_eq_false h9]
            refine iteF ⟨?_, s5⟩
            have h7 : ¬ ((x :: r).length : Int) ≤ 2 := by omega
            have ev : letterO (some (x :: r)) = false := by
              show (decide (((x :: r).length : Int) ≤ 2) && _) = false
              rw [decide_eq_false h7, Bool.false_and]
            rw [ev]
            rfl
      clear s5 H5
      rintro σ H5 ⟨rfl, s5⟩
      have T5 := TabG.same T3 s5
      have D5 := D3.mv (.of s5)
      have th5 := th.mv (.of s5)
      clear T3 D3 th s5
      -- the three
      refine ⟨v, rfl, v, o, rfl, th5, T5, fun H6 b6 => ⟨_, rfl, sz (by show 2 ≤ 100000; decide), fun p1 n1 => ?_⟩⟩
      rw [en]
      have m6 := (Mv.tab T5 b6).trans (.of (same_new (o := .tup [.bl (nameO (some l)), .bl (nameO (some l))]) n1))
      have T6 := TabG.same b6.1 (same_new (o := .tup [.bl (nameO (some l)), .bl (nameO (some l))]) n1)
      have g1 : (upd H6 p1 (.tup [.bl (nameO (some l)), .bl (nameO (some l))])) p1 = some (.tup [.bl (nameO (some l)), .bl (nameO (some l))]) := upd_same
      generalize upd H6 p1 (.tup [.bl (nameO (some l)), .bl (nameO (some l))]) = H7 at m6 T6 g1 ⊢
      refine ⟨v, rfl, v, o, rfl, th5.mv m6, T6, fun H8 b8 => ⟨_, rfl, sz (by show 2 ≤ 100000; decide), fun p2 n2 => ?_⟩⟩
      rw [ek]
      have m8 := (Mv.tab T6 b8).trans (.of (same_new (o := .tup [.bl (kindO (some l)), .bl (kindO (some l))]) n2))
      have T8 := TabG.same b8.1 (same_new (o := .tup [.bl (kindO (some l)), .bl (kindO (some l))]) n2)
      have g2 : (upd H8 p2 (.tup [.bl (kindO (some l)), .bl (kindO (some l))])) p2 = some (.tup [.bl (kindO (some l)), .bl (kindO (some l))]) := upd_same
      generalize upd H8 p2 (.tup [.bl (kindO (some l)), .bl (kindO (some l))]) = H9 at m8 T8 g2 ⊢
      have g1 := m8 _ _ g1 (fun _ z => nomatch z)
      have m8 := m6.trans m8
      refine ⟨v, rfl, v, o, rfl, th5.mv m8, T8, fun H10 b10 => ⟨_, rfl, sz (by show 2 ≤ 100000; decide), fun p3 n3 => ?_⟩⟩
      rw [el]
      have m10 := (Mv.tab T8 b10).trans (.of (same_new (o := .tup [.bl (letterO (some l)), .bl (letterO (some l))]) n3))
      have T10 := TabG.same b10.1 (same_new (o := .tup [.bl (letterO (some l)), .bl (letterO (some l))]) n3)
      have g3 : (upd H10 p3 (.tup [.bl (letterO (some l)), .bl (letterO (some l))])) p3 = some (.tup [.bl (letterO (some l)), .bl (letterO (some l))]) := upd_same
      generalize upd H10 p3 (.tup [.bl (letterO (some l)), .bl (letterO (some l))]) = H11 at m10 T10 g3 ⊢
      have g1 := m10 _ _ g1 (fun _ z => nomatch z)
      have g2 := m10 _ _ g2 (fun _ z => nomatch z)
      have m10 := m8.trans m10
      refine ⟨sz (by show 3 ≤ 100000; decide), fun la nla => ?_⟩
      have s12 := same_new (o := .lst [.ref p1, .ref p2, .ref p3]) nla
      have g1 := s12 _ _ g1
      have g2 := s12 _ _ g2
      have g3 := s12 _ _ g3
      have T12 := TabG.same T10 s12
      have D12 := D5.mv (m10.trans (.of s12))
      have hla : (upd H11 la (.lst [.ref p1, .ref p2, .ref p3])) la = some (.lst [.ref p1, .ref p2, .ref p3]) := upd_same
      generalize upd H11 la (.lst [.ref p1, .ref p2, .ref p3]) = H12 at s12 g1 g2 g3 T12 D12 hla ⊢
      refine ⟨la, rfl, ⟨_, SqL.of hla⟩, ?_⟩
      refine for_list (K := K) (a := la) (xs := [.ref p1, .ref p2, .ref p3]) (fun j σ H' => ∃ y9 y10 : Option V, σ = [some (.ref a), some (.ref d), some (.str smallS), some (.int (0 + (i : Int))), some v, some (.str (tx l)), some (.bl (nameO (some l))), some (.bl (kindO (some l))), some (.bl (letterO (some l))), y9, y10] ∧ H' = H12)
        ⟨y9, y10, rfl, rfl⟩ (fun j σ H' hj ⟨y9, y10, e1, e2⟩ => by rw [e2]; exact SqL.of hla) (fun j x σ H' hx ⟨y9, y10, e1, e2⟩ => ?_) (fun σ H' ⟨y9, y10, e1, e2⟩ => ?_)
      · subst e1 e2
        obtain ⟨p, b, rfl, hp⟩ : ∃ p b, x = V.ref p ∧ H' p = some (.tup [.bl b, .bl b]) := by
          have hx := List.mem_of_getElem? hx
          simp only [List.mem_cons, List.not_mem_nil, or_false] at hx
          rcases hx with rfl | rfl | rfl
          · exact ⟨p1, _, rfl, g1⟩
          · exact ⟨p2, _, rfl, g2⟩
          · exact ⟨p3, _, rfl, g3⟩
        refine ⟨p, _, rfl, SqT.of hp, rfl, _, _, rfl, _, _, rfl, rfl, ?_⟩
        refine ⟨.bl b, rfl, _, _, .type "bool", .type "bool", true, rfl, .ty "bool", .base (.bl _), kit_ty (by decide +kernel), _, rfl, iteF ?_⟩
        refine ⟨.bl b, rfl, .bl b, rfl, rfl, _, rfl, ?_⟩
        rw [decide_eq_true rfl]
        exact iteF ⟨_, _, rfl, rfl⟩
      · subst e1 e2
        exact ⟨_, _, _, _, _, _, _, _, rfl, D12, T12⟩
    · subst e1
      exact q _
end
end K01
set_option Elab.async false
set_option linter.all false
set_option maxRecDepth 100000
set_option maxHeartbeats 4000000
/-! the end of a law one of whose defs has a generator expression -/
namespace Lc
open PySem PySem.Spec PyProof.Rows L2
theorem law_one {l : PySem.W.OpenLaw} {w : World} {K : PySem.W.Frag} {CX : CXT} {k n : Nat} {x y : Str} {mg mb : Str → Option Value} {fa c T : Addr} {h : Heap} {q : Program} {loose : List Str} {mean : ExcName → Option Value} {d : DefRec} {fd : FuncData} {sp : Sp}
    (Tp : Top q (PySem.W.looseW q loose) mean mg mb h) (KX : K.In h) (hr : (recsOf q).find? (fun e => e.name == y) = some d) (ht : PySem.W.tabIn K y = some (c, T)) (hk : PySem.W.noTabs K = true)
    (hb : ∀ (s : Shared) (u : Value), BindsTo s fd ⟨[u], []⟩ [(x, u)])
    (hsp : ∀ (H : Hp) (a : Addr) (ns : List Int), GxR.TabG H T → SqL K H a (ns.map V.int) → sp [.ref a] H (fun v _ => v = .bl true) fun _ _ _ => False)
    (hF : ∀ base : Heap, K.In base → base.Ns mainGlobals mg → GxR.TabB base mg c T → FnOk l.prog w K mg base CX k fa fd [x] sp) : LamX.LawAtS l w K CX k n x mg fa h := by
  obtain ⟨C, hT⟩ := PySem.W.tab_of Tp KX hr ht
  have one : ∀ {R : Addr × Addr → Prop}, R (c, T) → ∀ p ∈ [(c, T)], R p := fun r p hp => by
    have e : p = (c, T) := by simpa using hp
    rw [e]
    exact r
  refine ⟨fd, [(c, T)], sp, one hT, one ?_, one C, hb, fun H a ns _ _ ht hS => hsp H a ns ⟨#[], ht (c, T) (by simp), ?_⟩ hS, fun base b1 b2 b3 => hF base b1 b2 ?_⟩
  · cases e : K.lookup T with
    | none => rfl
    | some o =>
      have e2 := KX T o e
      rw [hT] at e2
      cases e2
      have h2 := List.all_eq_true.mp hk _ (PySem.W.mem_of_lookupK e)
      exact absurd (show false = true from h2) Bool.false_ne_true
  · exact trivial
  · have b := b3 (c, T) (by simp)
    exact ⟨b.code, b.bm, b.gP⟩
theorem walk_tab {l : PySem.W.OpenLaw} {n k : Nat} {q : Program} {loose : List Str} {XP : (Str → Option Value) → Heap → Prop} {YP : World → Heap → Prop} {d : DefRec} {K : Params → PySem.W.Frag} {CX : World → CXT} {x : Str}
    (hn : l.most = some n) (hn2 : n ≤ sizeLine) (hdf : d.params.defaults = []) (hr : Room k callerA) (hY : ∀ (w : World) (h : Heap), YP w h → (K w.params).In h)
    (F : ∀ (w : World) (mean : ExcName → Option Value) (mg mb : Str → Option Value) (fa : Addr) (h : Heap), Top q (PySem.W.looseW q loose) mean mg mb h → (K w.params).In h → mg d.name = some (.ref fa) → LamX.LawAtS l w (K w.params) (CX w) k n x mg fa h)
    (hCX : ∀ (w : World) (H : Hp) (s : Shared) (e : Value) (s' : Shared), CX w [] H s (fun _ _ _ => False) e s' → False) : PySem.W.WalkO q loose XP YP l.row.toRowW d [] (fun f vs => PySem.call f vs) := by
  refine Att.attach_callB hn hdf fun w sa sb mg mb fa o pm cd doc a vs ns G Y ho hd hcd hmg hobj hints hlen hbits hg => ?_
  obtain ⟨fd, cs, sp, hT, nT, C, hb, hsp, hF⟩ := F w _ mg mb fa _ G.T (hY w _ Y) hmg
  exact LamX.law_callTs (hY w _ Y) G.T.g G.T.b G.T.builtins G.T.nolimit hg hT nT C G.T.bmain hobj hints (Nat.le_trans hlen hn2) hr hF hb (fun H hH hS => hsp H a ns hlen hbits hH hS) fun H e s' => hCX w H sb e s'
/-- texts of the written part, told -/
def strsIn : List Str → List Value → Bool
  | [], [] => true
  | a :: r, .str b _ :: q => (a == b) && strsIn r q
  | _, _ => false
theorem vals_strs : ∀ {ws : List Str} {us : List Value}, strsIn ws us = true → Vals (ws.map V.str) us
  | [], [], _ => .nil
  | a :: r, .str b t :: q, h => by
    have h : ((a == b) && strsIn r q) = true := h
    rw [Bool.and_eq_true] at h
    obtain ⟨h1, h2⟩ := h
    have e := eq_of_beq h1
    subst e
    exact .cons ⟨t, rfl⟩ (vals_strs h2)
  | [], _ :: _, h => by simp [strsIn] at h
  | a :: r, [], h => by simp [strsIn] at h
  | a :: r, .none :: q, h => by simp [strsIn] at h
  | a :: r, .ref p :: q, h => by simp [strsIn] at h
  | a :: r, .int _ _ :: q, h => by simp [strsIn] at h
  | a :: r, .bool _ :: q, h => by simp [strsIn] at h
end Lc
set_option Elab.async false
set_option linter.all false
set_option maxRecDepth 100000
set_option maxHeartbeats 4000000
namespace K01
open PySem PySem.Spec PyProof.Rows L2 Lc
/-! ### what the top has written -/
/-- a def as the top has written it -/
structure Td (K : PySem.W.Frag) (x : Str) (st : Stmt) (f : Addr) (fd : FuncData) : Prop where
  F : Fun K x x st f fd
  a : PySem.W.nsIn K mainGlobals x = some (some (.ref f))
theorem all_mk {l : PySem.W.OpenLaw} {w : World} {K : PySem.W.Frag} {h : Heap} {mg : Str → Option Value} {fa : Addr} {mb : Str → Option Value} {q : Program} {loose : List Str} {mean : ExcName → Option Value} {d : DefRec} (Tp : Top q (PySem.W.looseW q loose) mean mg mb h) (X : K.In h) (hfa : mg "law" = some (.ref fa))
    {f0 : Addr} {od0 an0 : Option Addr} {sl0 : Array (Option Value)} {oc0 kV0 dc0 pm0 ct0 : Value} {cc T ab : Addr} {tS tG tF tL : Tok} {dB : Option Addr} {us : Array Value} {nB : Nat} {slB : Array (Option Value)}
    {f1 : Addr} {od1 an1 : Option Addr} {sl1 : Array (Option Value)} {oc1 kV1 dc1 pm1 cd1 ct1 : Value}
    {f2 : Addr} {od2 an2 : Option Addr} {sl2 : Array (Option Value)} {oc2 kV2 dc2 pm2 cd2 ct2 : Value}
    {f3 : Addr} {od3 an3 : Option Addr} {sl3 : Array (Option Value)} {oc3 kV3 dc3 pm3 cd3 ct3 : Value}
    {f4 : Addr} {od4 an4 : Option Addr} {sl4 : Array (Option Value)} {oc4 kV4 dc4 pm4 cd4 ct4 : Value}
    {f5 : Addr} {od5 an5 : Option Addr} {sl5 : Array (Option Value)} {oc5 kV5 dc5 pm5 cd5 ct5 : Value}
    {f6 : Addr} {od6 an6 : Option Addr} {sl6 : Array (Option Value)} {oc6 kV6 dc6 pm6 cd6 ct6 : Value}
    {f7 : Addr} {od7 an7 : Option Addr} {sl7 : Array (Option Value)} {oc7 kV7 dc7 pm7 cd7 ct7 : Value}
    {f8 : Addr} {od8 an8 : Option Addr} {sl8 : Array (Option Value)} {oc8 kV8 dc8 pm8 cd8 ct8 : Value}
    {f9 : Addr} {od9 an9 : Option Addr} {sl9 : Array (Option Value)} {oc9 kV9 dc9 pm9 cd9 ct9 : Value}
    {f10 : Addr} {od10 an10 : Option Addr} {sl10 : Array (Option Value)} {oc10 kV10 dc10 pm10 cd10 ct10 : Value}
    {f11 : Addr} {od11 an11 : Option Addr} {sl11 : Array (Option Value)} {oc11 kV11 dc11 pm11 cd11 ct11 : Value}
    (a0 : PySem.W.nsIn K mainGlobals "is_all_of" = some (some (.ref f0))) (l0 : K.lookup f0 = some ⟨oc0, od0, .func (PySem.W.fnOf "is_all_of" "is_all_of" (defArgs s_is_all_of) (defBody s_is_all_of) (defScope s_is_all_of) .none kV0 dc0 pm0 an0 (.ref cc) ct0), sl0⟩) (c0 : PySem.W.codeIn K (.ref cc) "is_all_of" = true) (k0 : PySem.W.keepIn K (.ref f0) = true)
    (a1 : PySem.W.nsIn K mainGlobals "is_small" = some (some (.ref f1))) (l1 : K.lookup f1 = some ⟨oc1, od1, .func (PySem.W.fnOf "is_small" "is_small" (defArgs s_is_small) (defBody s_is_small) (defScope s_is_small) .none kV1 dc1 pm1 an1 cd1 ct1), sl1⟩) (c1 : PySem.W.codeIn K cd1 "is_small" = true) (k1 : PySem.W.keepIn K (.ref f1) = true)
    (a2 : PySem.W.nsIn K mainGlobals "is_name" = some (some (.ref f2))) (l2 : K.lookup f2 = some ⟨oc2, od2, .func (PySem.W.fnOf "is_name" "is_name" (defArgs s_is_name) (defBody s_is_name) (defScope s_is_name) .none kV2 dc2 pm2 an2 cd2 ct2), sl2⟩) (c2 : PySem.W.codeIn K cd2 "is_name" = true) (k2 : PySem.W.keepIn K (.ref f2) = true)
    (a3 : PySem.W.nsIn K mainGlobals "is_kind" = some (some (.ref f3))) (l3 : K.lookup f3 = some ⟨oc3, od3, .func (PySem.W.fnOf "is_kind" "is_kind" (defArgs s_is_kind) (defBody s_is_kind) (defScope s_is_kind) .none kV3 dc3 pm3 an3 cd3 ct3), sl3⟩) (c3 : PySem.W.codeIn K cd3 "is_kind" = true) (k3 : PySem.W.keepIn K (.ref f3) = true)
    (a4 : PySem.W.nsIn K mainGlobals "is_letter" = some (some (.ref f4))) (l4 : K.lookup f4 = some ⟨oc4, od4, .func (PySem.W.fnOf "is_letter" "is_letter" (defArgs s_is_letter) (defBody s_is_letter) (defScope s_is_letter) .none kV4 dc4 pm4 an4 cd4 ct4), sl4⟩) (c4 : PySem.W.codeIn K cd4 "is_letter" = true) (k4 : PySem.W.keepIn K (.ref f4) = true)
    (a5 : PySem.W.nsIn K mainGlobals "_law_mixed" = some (some (.ref f5))) (l5 : K.lookup f5 = some ⟨oc5, od5, .func (PySem.W.fnOf "_law_mixed" "_law_mixed" (defArgs s_w_mixed) (defBody s_w_mixed) (defScope s_w_mixed) .none kV5 dc5 pm5 an5 cd5 ct5), sl5⟩) (c5 : PySem.W.codeIn K cd5 "_law_mixed" = true) (k5 : PySem.W.keepIn K (.ref f5) = true)
    (a6 : PySem.W.nsIn K mainGlobals "_law_deck" = some (some (.ref f6))) (l6 : K.lookup f6 = some ⟨oc6, od6, .func (PySem.W.fnOf "_law_deck" "_law_deck" (defArgs s_w_deck) (defBody s_w_deck) (defScope s_w_deck) .none kV6 dc6 pm6 an6 cd6 ct6), sl6⟩) (c6 : PySem.W.codeIn K cd6 "_law_deck" = true) (k6 : PySem.W.keepIn K (.ref f6) = true)
    (a7 : PySem.W.nsIn K mainGlobals "_law_take" = some (some (.ref f7))) (l7 : K.lookup f7 = some ⟨oc7, od7, .func (PySem.W.fnOf "_law_take" "_law_take" (defArgs s_w_take) (defBody s_w_take) (defScope s_w_take) .none kV7 dc7 pm7 an7 cd7 ct7), sl7⟩) (c7 : PySem.W.codeIn K cd7 "_law_take" = true) (k7 : PySem.W.keepIn K (.ref f7) = true)
    (a8 : PySem.W.nsIn K mainGlobals "_law_all_in" = some (some (.ref f8))) (l8 : K.lookup f8 = some ⟨oc8, od8, .func (PySem.W.fnOf "_law_all_in" "_law_all_in" (defArgs s_w_all_in) (defBody s_w_all_in) (defScope s_w_all_in) .none kV8 dc8 pm8 an8 cd8 ct8), sl8⟩) (c8 : PySem.W.codeIn K cd8 "_law_all_in" = true) (k8 : PySem.W.keepIn K (.ref f8) = true)
    (a9 : PySem.W.nsIn K mainGlobals "_law_own" = some (some (.ref f9))) (l9 : K.lookup f9 = some ⟨oc9, od9, .func (PySem.W.fnOf "_law_own" "_law_own" (defArgs s_w_own) (defBody s_w_own) (defScope s_w_own) .none kV9 dc9 pm9 an9 cd9 ct9), sl9⟩) (c9 : PySem.W.codeIn K cd9 "_law_own" = true) (k9 : PySem.W.keepIn K (.ref f9) = true)
    (a10 : PySem.W.nsIn K mainGlobals "_law_thing" = some (some (.ref f10))) (l10 : K.lookup f10 = some ⟨oc10, od10, .func (PySem.W.fnOf "_law_thing" "_law_thing" (defArgs s_w_thing) (defBody s_w_thing) (defScope s_w_thing) .none kV10 dc10 pm10 an10 cd10 ct10), sl10⟩) (c10 : PySem.W.codeIn K cd10 "_law_thing" = true) (k10 : PySem.W.keepIn K (.ref f10) = true)
    (a11 : PySem.W.nsIn K mainGlobals "law" = some (some (.ref f11))) (l11 : K.lookup f11 = some ⟨oc11, od11, .func (PySem.W.fnOf "law" "law" (defArgs s_law) (defBody s_law) (defScope s_law) .none kV11 dc11 pm11 an11 cd11 ct11), sl11⟩) (c11 : PySem.W.codeIn K cd11 "law" = true) (k11 : PySem.W.keepIn K (.ref f11) = true)
    (z_all : PySem.W.nsIn K mainGlobals "all" = some none)
    (z_len : PySem.W.nsIn K mainGlobals "len" = some none)
    (z_list : PySem.W.nsIn K mainGlobals "list" = some none)
    (z_sum : PySem.W.nsIn K mainGlobals "sum" = some none)
    (z_range : PySem.W.nsIn K mainGlobals "range" = some none)
    (z_reversed : PySem.W.nsIn K mainGlobals "reversed" = some none)
    (z_str : PySem.W.nsIn K mainGlobals "str" = some none)
    (z_bool : PySem.W.nsIn K mainGlobals "bool" = some none)
    (z_isinstance : PySem.W.nsIn K mainGlobals "isinstance" = some none)
    (gSMALL : PySem.W.nsIn K mainGlobals "SMALL" = some (some (.str smallS tS))) (gGREAT : PySem.W.nsIn K mainGlobals "GREAT" = some (some (.str greatS tG))) (gFIGURES : PySem.W.nsIn K mainGlobals "FIGURES" = some (some (.str figS tF))) (gLETTERS : PySem.W.nsIn K mainGlobals "LETTERS" = some (some (.str letS tL)))
    (gBARRED : PySem.W.nsIn K mainGlobals "BARRED" = some (some (.ref ab))) (lB : K.lookup ab = some ⟨.type "tuple", dB, .seq us nB, slB⟩) (vB : Vals (barred.map V.str) us.toList)
    (hrec : (recsOf q).find? (fun e => e.name == ("is_all_of" : Str)) = some d) (htab : PySem.W.tabIn K "is_all_of" = some (cc, T)) (hno : PySem.W.noTabs K = true) :
    LamX.LawAtS l w K CX0 4 63 "_law_script" mg fa h := by
  have G := Tp.g
  have hB : ∀ H, SqT K H ab (barred.map V.str) := fun H => .inr ⟨_, us, nB, lB, rfl, rfl, by rw [← Array.length_toList, ← vB.length]; exact sz (by decide), vB⟩
  have e := hfa.symm.trans (PySem.W.mg_of X G a11)
  cases e
  have F_is_all_of := fun_mk (st := s_is_all_of) l0 c0 k0
  have b_is_all_of := F_is_all_of.binds (ps := ["text", "signs"]) fun _ _ _ _ _ _ us hl => match us, hl with | [_, _], _ => rfl
  have F_is_small := fun_mk (st := s_is_small) l1 c1 k1
  have b_is_small := F_is_small.binds (ps := ["thing", "least", "most"]) fun _ _ _ _ _ _ us hl => match us, hl with | [_, _, _], _ => rfl
  have F_is_name := fun_mk (st := s_is_name) l2 c2 k2
  have b_is_name := F_is_name.binds (ps := ["thing"]) fun _ _ _ _ _ _ us hl => match us, hl with | [_], _ => rfl
  have F_is_kind := fun_mk (st := s_is_kind) l3 c3 k3
  have b_is_kind := F_is_kind.binds (ps := ["thing"]) fun _ _ _ _ _ _ us hl => match us, hl with | [_], _ => rfl
  have F_is_letter := fun_mk (st := s_is_letter) l4 c4 k4
  have b_is_letter := F_is_letter.binds (ps := ["thing"]) fun _ _ _ _ _ _ us hl => match us, hl with | [_], _ => rfl
  have F_w_mixed := fun_mk (st := s_w_mixed) l5 c5 k5
  have b_w_mixed := F_w_mixed.binds (ps := ["_law_cell", "_law_k"]) fun _ _ _ _ _ _ us hl => match us, hl with | [_, _], _ => rfl
  have F_w_deck := fun_mk (st := s_w_deck) l6 c6 k6
  have b_w_deck := F_w_deck.binds (ps := ["_law_script"]) fun _ _ _ _ _ _ us hl => match us, hl with | [_], _ => rfl
  have F_w_take := fun_mk (st := s_w_take) l7 c7 k7
  have b_w_take := F_w_take.binds (ps := ["_law_deck_here", "_law_most"]) fun _ _ _ _ _ _ us hl => match us, hl with | [_, _], _ => rfl
  have F_w_all_in := fun_mk (st := s_w_all_in) l8 c8 k8
  have b_w_all_in := F_w_all_in.binds (ps := ["_law_text", "_law_signs"]) fun _ _ _ _ _ _ us hl => match us, hl with | [_, _], _ => rfl
  have F_w_own := fun_mk (st := s_w_own) l9 c9 k9
  have b_w_own := F_w_own.binds (ps := []) fun _ _ _ _ _ _ us hl => match us, hl with | [], _ => rfl
  have F_w_thing := fun_mk (st := s_w_thing) l10 c10 k10
  have b_w_thing := F_w_thing.binds (ps := ["_law_deck_here"]) fun _ _ _ _ _ _ us hl => match us, hl with | [_], _ => rfl
  have F_law := fun_mk (st := s_law) l11 c11 k11
  have m_all := PySem.W.mg_none_of X G z_all
  have m_len := PySem.W.mg_none_of X G z_len
  have m_list := PySem.W.mg_none_of X G z_list
  have m_sum := PySem.W.mg_none_of X G z_sum
  have m_range := PySem.W.mg_none_of X G z_range
  have m_reversed := PySem.W.mg_none_of X G z_reversed
  have m_str := PySem.W.mg_none_of X G z_str
  have m_bool := PySem.W.mg_none_of X G z_bool
  have m_isinstance := PySem.W.mg_none_of X G z_isinstance
  refine Lc.law_one Tp X hrec htab hno (fd := PySem.W.fnOf "law" "law" (defArgs s_law) (defBody s_law) (defScope s_law) .none kV11 dc11 pm11 an11 cd11 ct11) (sp := spLaw K T) (fun s v => .of_eq rfl) (fun H a ns t hS => ⟨a, ns, rfl, hS, t, fun _ => rfl⟩) (fun base hb hg hTB => ?_)
  have C_is_all_of : Dn l.prog w K mg base "is_all_of" ["text", "signs"] 1 (spAllOf T) := ⟨f0, _, F_is_all_of.kp, PySem.W.mg_of X G a0, b_is_all_of, ok_is_all_of l0 c0 hTB m_all⟩
  have C_is_small : Dn l.prog w K mg base "is_small" ["thing", "least", "most"] 2 (spSmall K T) := ⟨f1, _, F_is_small.kp, PySem.W.mg_of X G a1, b_is_small, ok_is_small F_is_small m_isinstance m_str m_len (PySem.W.mg_of X G gSMALL) C_is_all_of⟩
  have C_is_name : Dn l.prog w K mg base "is_name" ["thing"] 3 (spOf K T nameO) := ⟨f2, _, F_is_name.kp, PySem.W.mg_of X G a2, b_is_name, ok_is_name F_is_name m_isinstance m_str (PySem.W.mg_of X G gGREAT) C_is_small⟩
  have C_is_kind : Dn l.prog w K mg base "is_kind" ["thing"] 3 (spOf K T kindO) := ⟨f3, _, F_is_kind.kp, PySem.W.mg_of X G a3, b_is_kind, ok_is_kind F_is_kind (PySem.W.mg_of X G gBARRED) hB C_is_small⟩
  have C_is_letter : Dn l.prog w K mg base "is_letter" ["thing"] 2 (spOf K T letterO) := ⟨f4, _, F_is_letter.kp, PySem.W.mg_of X G a4, b_is_letter, ok_is_letter F_is_letter m_isinstance m_str m_len (PySem.W.mg_of X G gLETTERS) (PySem.W.mg_of X G gFIGURES) C_is_all_of⟩
  have C_w_mixed : Dn l.prog w K mg base "_law_mixed" ["_law_cell", "_law_k"] 1 spMixed := ⟨f5, _, F_w_mixed.kp, PySem.W.mg_of X G a5, b_w_mixed, ok_w_mixed F_w_mixed⟩
  have C_w_deck : Dn l.prog w K mg base "_law_deck" ["_law_script"] 1 (spDeck K) := ⟨f6, _, F_w_deck.kp, PySem.W.mg_of X G a6, b_w_deck, ok_w_deck F_w_deck m_list m_sum m_len m_reversed⟩
  have C_w_take : Dn l.prog w K mg base "_law_take" ["_law_deck_here", "_law_most"] 2 spTake := ⟨f7, _, F_w_take.kp, PySem.W.mg_of X G a7, b_w_take, ok_w_take F_w_take C_w_mixed⟩
  have C_w_all_in : Dn l.prog w K mg base "_law_all_in" ["_law_text", "_law_signs"] 1 spAllIn := ⟨f8, _, F_w_all_in.kp, PySem.W.mg_of X G a8, b_w_all_in, ok_w_all_in F_w_all_in⟩
  have C_w_own : Dn l.prog w K mg base "_law_own" [] 1 spOwn := ⟨f9, _, F_w_own.kp, PySem.W.mg_of X G a9, b_w_own, ok_w_own F_w_own⟩
  have C_w_thing : Dn l.prog w K mg base "_law_thing" ["_law_deck_here"] 3 (spThing K) := ⟨f10, _, F_w_thing.kp, PySem.W.mg_of X G a10, b_w_thing, ok_w_thing F_w_thing m_len m_range C_w_take C_w_own⟩
  exact ok_law F_law m_range m_str m_bool m_len m_isinstance C_w_deck C_w_all_in C_w_own C_w_thing C_is_name C_is_kind C_is_letter
end K01
open PySem PySem.W PyProof.Rows
set_option maxHeartbeats 0 in
theorem PySem.Challenge.cw_linecourt_k01_what_is_a_word_holds : PySem.Challenge.rw_linecourt_k01_what_is_a_word.Holds := by
  w_on; o_law; k_head; (case hw => w_witness2)
  k_fill
  refine Lc.walk_tab (l := PySem.Challenge.rw_linecourt_k01_what_is_a_word) (n := 63) (k := 4) (x := "_law_script") (CX := fun _ => L2.CX0) rfl (by decide) rfl ⟨rfl, by decide, by decide⟩ (fun w h Y => PySem.W.kIn_of Y) ?F (fun _ _ _ _ _ h => h)
  case F =>
    intro w mean mg mb fa h Tp KX hmg
    refine' K01.all_mk Tp KX hmg ?a0 ?l0 ?c0 ?k0 ?a1 ?l1 ?c1 ?k1 ?a2 ?l2 ?c2 ?k2 ?a3 ?l3 ?c3 ?k3 ?a4 ?l4 ?c4 ?k4 ?a5 ?l5 ?c5 ?k5 ?a6 ?l6 ?c6 ?k6 ?a7 ?l7 ?c7 ?k7 ?a8 ?l8 ?c8 ?k8 ?a9 ?l9 ?c9 ?k9 ?a10 ?l10 ?c10 ?k10 ?a11 ?l11 ?c11 ?k11 ?z_all ?z_len ?z_list ?z_sum ?z_range ?z_reversed ?z_str ?z_bool ?z_isinstance ?gSMALL ?gGREAT ?gFIGURES ?gLETTERS ?gBARRED ?lB ?vB ?hrec ?htab ?hno
    (case a0 => k_is); (case l0 => k_is); (case c0 => k_is); (case k0 => k_is); (case a1 => k_is); (case l1 => k_is); (case c1 => k_is); (case k1 => k_is); (case a2 => k_is); (case l2 => k_is); (case c2 => k_is); (case k2 => k_is); (case a3 => k_is); (case l3 => k_is); (case c3 => k_is); (case k3 => k_is); (case a4 => k_is); (case l4 => k_is); (case c4 => k_is); (case k4 => k_is); (case a5 => k_is); (case l5 => k_is); (case c5 => k_is); (case k5 => k_is); (case a6 => k_is); (case l6 => k_is); (case c6 => k_is); (case k6 => k_is); (case a7 => k_is); (case l7 => k_is); (case c7 => k_is); (case k7 => k_is); (case a8 => k_is); (case l8 => k_is); (case c8 => k_is); (case k8 => k_is); (case a9 => k_is); (case l9 => k_is); (case c9 => k_is); (case k9 => k_is); (case a10 => k_is); (case l10 => k_is); (case c10 => k_is); (case k10 => k_is); (case a11 => k_is); (case l11 => k_is); (case c11 => k_is); (case k11 => k_is); (case z_all => k_is); (case z_len => k_is); (case z_list => k_is); (case z_sum => k_is); (case z_range => k_is); (case z_reversed => k_is); (case z_str => k_is); (case z_bool => k_is); (case z_isinstance => k_is); (case gSMALL => k_is); (case gGREAT => k_is); (case gFIGURES => k_is); (case gLETTERS => k_is); (case gBARRED => k_is); (case lB => k_is)
    (case vB => exact Lc.vals_strs (by decide +kernel))
    (case hrec => rfl)
    (case htab => (first | rfl | k_is))
    (case hno => (first | rfl | decide +kernel | k_is))
