import PyProof.Rows.All
import Wide.All
import OpenK.AllK
import Wide.FinOn
import HandS.ForMost
import HandS.More
import HandS.Wide
import HandS.IsInst
import HandS.Flow
import HandS.Replace
import HandS.Evl
import HandS.Walk
import HandS.TupAny
import HandS.Deep
import HandS.FStr
import PyProof.NeData
import PyProof.EnumIter
import PyProof.EnumMake
import PyProof.EnumFor
import PyProof.TupleIter
import PyProof.WalksMore
import HandS.Zip0
import PyProof.ListStr
import HandS.Zip
import HandS.AnyAll
import HandS.Nested
import HandS.EndTab
import HandS.GenOver
import HandS.Conv
import KE.GoesMore
import KE.GoesEnum
import HandS.Dict
import HandS.Star
import HandS.CallLocal
import HandS.Style
import HandS.Text
import HandS.TryOnly
import HandS.SetFor
import HandS.SetTxt0
import HandS.Strs
import PyProof.Rows.SortShellAny
import KE.GoesSet
import PyProof.MeetsSeq2
import KE.KRevSl
import HandS.WordsDict
import HandS.Defaults
import HandS.Rev
import KE.KDictList
import HandS.HeadHook3
import PySem.Challenge.RW_linecourt_k32_put_in_its_place
set_option Elab.async false
set_option linter.all false
set_option maxRecDepth 100000
set_option maxHeartbeats 4000000
namespace Lc
open PySem PySem.Spec PyProof.Rows L2
/-! ### a def that is called -/
structure Dn (P : Program) (w : World) (K : PySem.W.Frag) (mg : Str → Option Value) (base : Heap) (x : Str) (ps : List Str) (k : Nat) (sp : Sp) where
  f : Addr
  fd : FuncData
  kp : PySem.W.keepIn K (.ref f) = true
  g : mg x = some (.ref f)
  b : Binds K fd ps []
  G : FnOk P w K mg base CX0 k f fd ps sp
section
variable {X : Cx} {x : Str} {ps : List Str} {k : Nat} {sp : Sp} {e : Expr} {es : List Expr} {t : TA} {p pos : Pos}
theorem pe_dn (C : Dn X.prog X.w X.K X.mg X.base x ps k sp) (hr : Room k X.A) (hg : Gl X x) (ha : PA X (e :: es) t) (hdb : (x == ("__debug__" : Str)) = false := by decide)
    (he : starEach (e :: es) X.env = (false, eval e X.env) :: starEach es X.env := by rfl) (hpl : (backTo pos (starEach es X.env)).any (·.1) = false := by rfl) :
    PE X (.Call (.Name x p) (e :: es) [] pos) (tCall sp [] E0 t) := pe_call C.G hr hg C.g C.kp C.b .nil pass0 ha hdb he hpl
end
/-! ### frames: what is not in M stays as it is -/
def Fr (M : Addr → Prop) (H H' : Hp) : Prop := ∀ b o, H b = some o → ∃ o', H' b = some o' ∧ (¬ M b → o' = o)
theorem Fr.refl {M : Addr → Prop} (H : Hp) : Fr M H H := fun _ o h => ⟨o, h, fun _ => rfl⟩
theorem Fr.trans {M : Addr → Prop} {H H1 H2 : Hp} (a : Fr M H H1) (b : Fr M H1 H2) : Fr M H H2 := fun c o h => by
  obtain ⟨o1, h1, e1⟩ := a c o h
  obtain ⟨o2, h2, e2⟩ := b c o1 h1
  exact ⟨o2, h2, fun n => (e2 n).trans (e1 n)⟩
theorem Fr.new {M : Addr → Prop} {H : Hp} {p : Addr} {o : HO} (h : H p = none) : Fr M H (upd H p o) := fun b u e => ⟨u, by rw [upd_ne (ne_of_none e h)]; exact e, fun _ => rfl⟩
theorem Fr.mut {M : Addr → Prop} {H : Hp} {p : Addr} {o : HO} (h : M p) : Fr M H (upd H p o) := fun b u e => by
  by_cases q : b = p
  · subst q
    exact ⟨o, upd_same, fun n => absurd h n⟩
  · exact ⟨u, by rw [upd_ne q]; exact e, fun _ => rfl⟩
/-- what H does not know may change -/
theorem Fr.own {M : Addr → Prop} {H H' : Hp} {p : Addr} {o : HO} (e : Fr M H H') (h : H p = none) : Fr M H (upd H' p o) := fun b u q => by
  obtain ⟨o', h1, h2⟩ := e b u q
  exact ⟨o', by rw [upd_ne (ne_of_none q h)]; exact h1, h2⟩
theorem Fr.free {M : Addr → Prop} {H H' : Hp} {p : Addr} (e : Fr M H H') (h : H' p = none) : H p = none := by
  cases q : H p with
  | none => rfl
  | some o =>
    obtain ⟨o', h1, _⟩ := e p o q
    rw [h1] at h
    cases h
theorem Fr.at {M : Addr → Prop} {H H' : Hp} {b : Addr} {o : HO} (e : Fr M H H') (h : H b = some o) (n : ¬ M b) : H' b = some o := by
  obtain ⟨o', h1, h2⟩ := e b o h
  rw [h2 n] at h1
  exact h1
theorem Fr.of {M : Addr → Prop} {H H' : Hp} (e : Same H H') : Fr M H H' := fun b o h => ⟨o, e b o h, fun _ => rfl⟩
theorem Fr.seq {M : Addr → Prop} {K : PySem.W.Frag} {H H' : Hp} {a : Addr} {xs : List V} (e : Fr M H H') (n : ¬ M a) (h : SqL K H a xs) : SqL K H' a xs := by
  rcases h with (h | ⟨o, h⟩) | h
  · exact .inl (.inl (e.at h n))
  · exact .inl (.inr ⟨o, e.at h n⟩)
  · exact .inr h
theorem same_new {H : Hp} {p : Addr} {o : HO} (h : H p = none) : Same H (upd H p o) := fun b x e => by
  rw [upd_ne (ne_of_none e h)]
  exact e
theorem sz {n : Nat} (h : n ≤ 100000) : n ≤ sizeLine := Nat.le_trans h (by decide)
theorem szl {n : Nat} (h : n < 100000) : n < sizeLine := Nat.lt_of_lt_of_le h (by decide)
/-! ### powers by squares -/
/-! ### pigeons -/
end Lc
namespace Lc
open PySem PySem.Spec PyProof.Rows L2
/-! ### data -/
theorem lay_strs : ∀ ns : List Str, (∀ x ∈ ns, PyData.canLay0 (.str x) = true) → PyData.canLayAll0 (ns.map PyData.str) = true
  | [], _ => rfl
  | n :: r, h => by
    show (PyData.canLay0 (.str n) && PyData.canLayAll0 (r.map PyData.str)) = true
    rw [lay_strs r fun x hx => h x (List.mem_cons_of_mem _ hx), h n List.mem_cons_self]
    rfl
theorem dep_strs : ∀ ns : List Str, PyData.depthAll (ns.map PyData.str) = 0
  | [] => rfl
  | n :: r => by
    show max (PyData.depth (.str n)) (PyData.depthAll (r.map PyData.str)) = 0
    rw [dep_strs r]
    rfl
theorem cut_to (xs : List V) (k : Nat) : cutV xs none (some (k : Int)) = xs.take k := by
  unfold cutV
  rw [HT.sIx_none, HT.sIx_nat, List.drop_zero, Nat.sub_zero]
  by_cases h : k ≤ xs.length
  · rw [Nat.min_eq_left h]
  · rw [Nat.min_eq_right (by omega), List.take_length, List.take_of_length_le (by omega)]
theorem cut_from (xs : List V) (k : Nat) : cutV xs (some (k : Int)) none = xs.drop k := by
  unfold cutV
  rw [HT.sIx_none, HT.sIx_nat]
  by_cases h : k ≤ xs.length
  · rw [Nat.min_eq_left h, List.take_of_length_le]
    rw [List.length_drop]
    exact Nat.le_refl _
  · rw [Nat.min_eq_right (by omega), Nat.sub_self, List.take_zero, List.drop_of_length_le (by omega)]
end Lc
namespace Lc
open PySem PySem.Spec PyProof.Rows L2
/-! ### texts by their codes -/
def tx (l : List Nat) : Str := ⟨l.toArray⟩
theorem in_strs {x : Str} : ∀ {xs : List Str}, inV (.str x) (xs.map V.str) = decide (x ∈ xs)
  | [] => by simp [inV]
  | y :: r => by
    have ih := in_strs (x := x) (xs := r)
    unfold inV at ih ⊢
    rw [List.map_cons, List.any_cons, ih]
    show ((y == x) || decide (x ∈ r)) = decide (x ∈ y :: r)
    by_cases h : y = x
    · subst h
      simp
    · have h2 : ¬ x = y := fun e => h e.symm
      simp [h, h2]
/-- small signs alone -/
def Low (l : List Nat) : Prop := ∀ c ∈ l, 97 ≤ c ∧ c ≤ 122
theorem Low.app {a b : List Nat} (h : Low a) (g : Low b) : Low (a ++ b) := fun c hc => (List.mem_append.mp hc).elim (h c) (g c)
theorem Low.take {a : List Nat} (h : Low a) (k : Nat) : Low (a.take k) := fun c hc => h c (List.mem_of_mem_take hc)
theorem Low.drop {a : List Nat} (h : Low a) (k : Nat) : Low (a.drop k) := fun c hc => h c (List.mem_of_mem_drop hc)
end Lc
namespace Lc
open PySem PySem.Spec PyProof.Rows L2
/-! ### the rules with the written part told, for use inside a comprehension -/
section
variable {X : Cx} (K : PySem.W.Frag)
def rLenQ (K : PySem.W.Frag) : List V → Hp → VK → Prop := fun xs H Q => ∃ p ys, xs = [.ref p] ∧ (SqL K H p ys ∨ SqT K H p ys) ∧ Q (.int ys.length) H
variable {o e : Expr} {es : List Expr} {to : TE} {t : TA} {name : Str} {apos cpos : Pos} {T id : String} {r : V → List V → Hp → VK → Prop}
end
end Lc
namespace Lc
open PySem PySem.Spec PyProof.Rows L2
end Lc
set_option Elab.async false
set_option linter.all false
set_option maxRecDepth 100000
set_option maxHeartbeats 4000000
/-! values as data: what a value in the heap stands for, and readings by functions on data -/
namespace Dl
open PySem PySem.Spec PyProof.Rows L2
abbrev D := PyData
abbrev Bar := Addr → Prop
/-- the written part, and the handles of what is shared -/
structure Kx where
  K : PySem.W.Frag
  hd : Nat → Addr → Prop
def KT (K : PySem.W.Frag) (a : Addr) (xs : List V) : Prop :=
  ∃ (o : Obj) (its : Array Value) (n : Nat), K.lookup a = some o ∧ o.cls = .type "tuple" ∧ o.data = .seq its n ∧ its.size ≤ sizeLine ∧ Vals xs its.toList
/-- a handle: a thing that is shared and may change, told by its number -/
def hnd (n : Nat) : D := .dict [(.int n, .none)]
mutual
def Rep (G : Kx) (B : Bar) (H : Hp) : D → V → Prop
  | .none, v => v = .non
  | .bool b, v => v = .bl b
  | .int i, v => v = .int i
  | .str x, v => v = .str x
  | .list ds, v => ∃ a vs, v = .ref a ∧ H a = some (.lst vs) ∧ ¬ B a ∧ Reps G B H ds vs
  | .tuple ds, v => ∃ a vs, v = .ref a ∧ ((H a = some (.tup vs) ∧ ¬ B a) ∨ KT G.K a vs) ∧ Reps G B H ds vs
  | .dict kvs, v => ∃ a, v = .ref a ∧ ((∃ n, kvs = [(.int (n : Nat), .none)] ∧ G.hd n a) ∨ (kvs = [] ∧ H a = some (.dK []) ∧ ¬ B a))
def Reps (G : Kx) (B : Bar) (H : Hp) : List D → List V → Prop
  | [], vs => vs = []
  | d :: ds, vs => ∃ v r, vs = v :: r ∧ Rep G B H d v ∧ Reps G B H ds r
end
section
variable {G : Kx} {B B' : Bar} {H H' : Hp}
mutual
theorem Rep.mv (k : ∀ a o, H a = some o → ¬ B a → H' a = some o ∧ ¬ B' a) : ∀ (d : D) (v : V), Rep G B H d v → Rep G B' H' d v
  | .none, _, h => by simpa only [Rep] using h
  | .bool _, _, h => by simpa only [Rep] using h
  | .int _, _, h => by simpa only [Rep] using h
  | .str _, _, h => by simpa only [Rep] using h
  | .list ds, v, h => by
    simp only [Rep] at h ⊢
    obtain ⟨a, vs, e, h1, h2, h3⟩ := h
    exact ⟨a, vs, e, (k a _ h1 h2).1, (k a _ h1 h2).2, Reps.mv k ds vs h3⟩
  | .tuple ds, v, h => by
    simp only [Rep] at h ⊢
    obtain ⟨a, vs, e, h1, h3⟩ := h
    refine ⟨a, vs, e, ?_, Reps.mv k ds vs h3⟩
    rcases h1 with ⟨h1, h2⟩ | h1
    · exact .inl ⟨(k a _ h1 h2).1, (k a _ h1 h2).2⟩
    · exact .inr h1
  | .dict _, _, h => by
    simp only [Rep] at h ⊢
    obtain ⟨a, e, h⟩ := h
    refine ⟨a, e, h.imp id fun ⟨h1, h2, h3⟩ => ⟨h1, (k a _ h2 h3).1, (k a _ h2 h3).2⟩⟩
theorem Reps.mv (k : ∀ a o, H a = some o → ¬ B a → H' a = some o ∧ ¬ B' a) : ∀ (ds : List D) (vs : List V), Reps G B H ds vs → Reps G B' H' ds vs
  | [], _, h => by simpa only [Reps] using h
  | d :: ds, vs, h => by
    simp only [Reps] at h ⊢
    obtain ⟨v, r, e, h1, h2⟩ := h
    exact ⟨v, r, e, Rep.mv k d v h1, Reps.mv k ds r h2⟩
end
theorem Rep.same {d : D} {v : V} (h : Rep G B H d v) (s : Same H H') : Rep G B H' d v := h.mv fun a o e n => ⟨s a o e, n⟩
theorem Reps.same {d : List D} {v : List V} (h : Reps G B H d v) (s : Same H H') : Reps G B H' d v := h.mv fun a o e n => ⟨s a o e, n⟩
theorem Rep.fr {M : Bar} {d : D} {v : V} (h : Rep G B H d v) (f : Lc.Fr M H H') (m : ∀ a, M a → B a) : Rep G B H' d v := h.mv fun a o e n => ⟨f.at e fun z => n (m a z), n⟩
theorem Reps.fr {M : Bar} {d : List D} {v : List V} (h : Reps G B H d v) (f : Lc.Fr M H H') (m : ∀ a, M a → B a) : Reps G B H' d v := h.mv fun a o e n => ⟨f.at e fun z => n (m a z), n⟩
theorem Rep.sub {d : D} {v : V} (h : Rep G B H d v) (k : ∀ a, B' a → H a ≠ none → B a) : Rep G B' H d v := h.mv fun a o e n => ⟨e, fun z => n (k a z (by rw [e]; simp))⟩
theorem Reps.sub {d : List D} {v : List V} (h : Reps G B H d v) (k : ∀ a, B' a → H a ≠ none → B a) : Reps G B' H d v := h.mv fun a o e n => ⟨e, fun z => n (k a z (by rw [e]; simp))⟩
theorem Reps.len : ∀ {ds : List D} {vs : List V}, Reps G B H ds vs → vs.length = ds.length
  | [], _, h => by simp only [Reps] at h; subst h; rfl
  | d :: ds, vs, h => by
    simp only [Reps] at h
    obtain ⟨v, r, rfl, _, h2⟩ := h
    simp [Reps.len h2]
theorem Reps.nil : Reps G B H [] [] := by simp only [Reps]
theorem Reps.cons {d : D} {ds : List D} {v : V} {vs : List V} (h : Rep G B H d v) (t : Reps G B H ds vs) : Reps G B H (d :: ds) (v :: vs) := by
  simp only [Reps]
  exact ⟨v, vs, rfl, h, t⟩
theorem Reps.get : ∀ {ds : List D} {vs : List V} {i : Nat} {d : D}, Reps G B H ds vs → ds[i]? = some d → ∃ v, vs[i]? = some v ∧ Rep G B H d v
  | [], _, _, _, _, e => by simp at e
  | d :: ds, vs, i, x, h, e => by
    simp only [Reps] at h
    obtain ⟨v, r, rfl, h1, h2⟩ := h
    cases i with
    | zero =>
      simp at e
      subst e
      exact ⟨v, rfl, h1⟩
    | succ i => exact Reps.get (i := i) h2 (by simpa using e)
theorem Reps.append : ∀ {ds es : List D} {vs us : List V}, Reps G B H ds vs → Reps G B H es us → Reps G B H (ds ++ es) (vs ++ us)
  | [], _, _, _, h, t => by simp only [Reps] at h; subst h; exact t
  | d :: ds, es, vs, us, h, t => by
    simp only [Reps] at h
    obtain ⟨v, r, rfl, h1, h2⟩ := h
    exact Reps.cons h1 (Reps.append h2 t)
theorem Reps.take : ∀ {ds : List D} {vs : List V} (n : Nat), Reps G B H ds vs → Reps G B H (ds.take n) (vs.take n)
  | _, _, 0, _ => by simp [Reps]
  | [], _, n + 1, h => by simp only [Reps] at h; subst h; simp [Reps]
  | d :: ds, vs, n + 1, h => by
    simp only [Reps] at h
    obtain ⟨v, r, rfl, h1, h2⟩ := h
    exact Reps.cons h1 (Reps.take n h2)
theorem Reps.drop : ∀ {ds : List D} {vs : List V} (n : Nat), Reps G B H ds vs → Reps G B H (ds.drop n) (vs.drop n)
  | _, _, 0, h => h
  | [], _, n + 1, h => by simp only [Reps] at h; subst h; simp [Reps]
  | d :: ds, vs, n + 1, h => by
    simp only [Reps] at h
    obtain ⟨v, r, rfl, h1, h2⟩ := h
    exact Reps.drop n h2
theorem Reps.ints : ∀ {ns : List Int} {vs : List V}, Reps G B H (ns.map PyData.int) vs → vs = ns.map V.int
  | [], _, h => by simpa only [Reps, List.map_nil] using h
  | n :: ns, vs, h => by
    simp only [Reps, Rep, List.map_cons] at h
    obtain ⟨v, r, rfl, rfl, h2⟩ := h
    rw [Reps.ints h2]
    rfl
theorem Reps.strs : ∀ {ns : List Str} {vs : List V}, Reps G B H (ns.map PyData.str) vs → vs = ns.map V.str
  | [], _, h => by simpa only [Reps, List.map_nil] using h
  | n :: ns, vs, h => by
    simp only [Reps, Rep, List.map_cons] at h
    obtain ⟨v, r, rfl, rfl, h2⟩ := h
    rw [Reps.strs h2]
    rfl
theorem reps_ints : ∀ {ns : List Int}, Reps G B H (ns.map PyData.int) (ns.map V.int)
  | [] => Reps.nil
  | n :: ns => Reps.cons (by simp only [Rep]) reps_ints
theorem reps_strs : ∀ {ns : List Str}, Reps G B H (ns.map PyData.str) (ns.map V.str)
  | [] => Reps.nil
  | n :: ns => Reps.cons (by simp only [Rep]) reps_strs
/-- a tuple is to be read -/
theorem Rep.sqT {ds : List D} {v : V} (h : Rep G B H (.tuple ds) v) : ∃ a vs, v = .ref a ∧ SqT G.K H a vs ∧ Reps G B H ds vs := by
  simp only [Rep] at h
  obtain ⟨a, vs, e, h1, h3⟩ := h
  refine ⟨a, vs, e, ?_, h3⟩
  rcases h1 with ⟨h1, _⟩ | h1
  · exact .inl (.inl h1)
  · exact .inr h1
theorem Rep.sqL {ds : List D} {v : V} (h : Rep G B H (.list ds) v) : ∃ a vs, v = .ref a ∧ H a = some (.lst vs) ∧ SqL G.K H a vs ∧ Reps G B H ds vs := by
  simp only [Rep] at h
  obtain ⟨a, vs, e, h1, h2, h3⟩ := h
  exact ⟨a, vs, e, h1, .inl (.inl h1), h3⟩
mutual
theorem Rep.dp : ∀ (d : D) (v : V), PyData.canLay0 d = true → Rep G B H d v → Dp G.K H v d
  | .none, _, _, h => by simp only [Rep] at h; subst h; exact .non
  | .bool _, _, _, h => by simp only [Rep] at h; subst h; exact .bl _
  | .int _, _, _, h => by simp only [Rep] at h; subst h; exact .int _
  | .str _, _, _, h => by simp only [Rep] at h; subst h; exact .str _
  | .list ds, v, c, h => by
    obtain ⟨a, vs, rfl, _, h1, h2⟩ := h.sqL
    exact .lst h1 (Reps.dp ds vs (by simpa [PyData.canLay0] using c) h2)
  | .tuple ds, v, c, h => by
    obtain ⟨a, vs, rfl, h1, h2⟩ := h.sqT
    exact .tup h1 (Reps.dp ds vs (by simpa [PyData.canLay0] using c) h2)
  | .dict _, _, c, _ => by simp [PyData.canLay0] at c
theorem Reps.dp : ∀ (ds : List D) (vs : List V), PyData.canLayAll0 ds = true → Reps G B H ds vs → DpAll G.K H vs ds
  | [], vs, _, h => by simp only [Reps] at h; subst h; exact .nil
  | d :: ds, vs, c, h => by
    simp only [Reps] at h
    obtain ⟨v, r, rfl, h1, h2⟩ := h
    have c' : d.canLay0 = true ∧ PyData.canLayAll0 ds = true := by simpa [PyData.canLayAll0] using c
    exact .cons (Rep.dp d v c'.1 h1) (Reps.dp ds r c'.2 h2)
end
end
/-! ### what is shared, and the slots -/
structure Zk (S : Type) where
  M : Bar
  R : Hp → S → Prop
  dom : ∀ H s a, R H s → M a → H a ≠ none
  loc : ∀ H H' s, R H s → (∀ a, M a → H' a = H a) → R H' s
theorem Zk.same {S : Type} (Z : Zk S) {H H' : Hp} {s : S} (r : Z.R H s) (e : Same H H') : Z.R H' s := Z.loc H H' s r fun a m => by
  cases q : H a with
  | none => exact absurd q (Z.dom H s a r m)
  | some o => exact e a o q
abbrev Rho := List (Option D)
abbrev Ev (S : Type) := Rho → S → Option (D × S)
abbrev Ea (S : Type) := Rho → S → Option (List D × S)
structure Er (G : Kx) (W : List Nat) (B O : Bar) (H : Hp) (σ : L2.St) (ρ : Rho) : Prop where
  len : σ.length = ρ.length
  pl : ∀ i d, i ∉ W → ρ[i]? = some (some d) → ∃ v, σ[i]? = some (some v) ∧ Rep G (fun a => B a ∨ O a) H d v
  ow : ∃ om : Nat → Addr, (∀ i j d e, i ∈ W → j ∈ W → ρ[i]? = some (some d) → ρ[j]? = some (some e) → om i = om j → i = j) ∧
    ∀ i d, i ∈ W → ρ[i]? = some (some d) → ∃ ds vs, d = .list ds ∧ σ[i]? = some (some (.ref (om i))) ∧ O (om i) ∧ H (om i) = some (.lst vs) ∧ Reps G (fun a => B a ∨ O a) H ds vs
structure Eo {S : Type} (G : Kx) (Z : Zk S) (W : List Nat) (B O : Bar) (H : Hp) (σ : L2.St) (ρ : Rho) : Prop where
  er : Er G W B O H σ ρ
  bd : ∀ a, B a → H a ≠ none
  ol : ∀ a, O a → ∃ vs, H a = some (.lst vs)
  mb : ∀ a, Z.M a → B a
  ob : ∀ a, O a → ¬ B a
section
variable {S : Type} {G : Kx} {Z : Zk S} {W : List Nat} {B O : Bar} {H H' : Hp} {σ : L2.St} {ρ : Rho}
theorem some_of_ne {α : Type} {o : Option α} (h : o ≠ none) : ∃ x, o = some x := by
  cases o with
  | none => exact absurd rfl h
  | some x => exact ⟨x, rfl⟩
theorem ne_fr {M : Bar} {a : Addr} (f : Lc.Fr M H H') (h : H a ≠ none) : H' a ≠ none := by
  obtain ⟨o, e⟩ := some_of_ne h
  obtain ⟨o', e', _⟩ := f a o e
  rw [e']
  simp
theorem Er.fr {M : Bar} (e : Er G W B O H σ ρ) (f : Lc.Fr M H H') (m : ∀ a, M a → B a) (ob : ∀ a, O a → ¬ B a) : Er G W B O H' σ ρ where
  len := e.len
  pl := fun i d hi hd => by
    obtain ⟨v, h1, h2⟩ := e.pl i d hi hd
    exact ⟨v, h1, h2.fr f fun a z => .inl (m a z)⟩
  ow := by
    obtain ⟨om, h1, h2⟩ := e.ow
    refine ⟨om, h1, fun i d hi hd => ?_⟩
    obtain ⟨ds, vs, a1, a2, a3, a4, a5⟩ := h2 i d hi hd
    exact ⟨ds, vs, a1, a2, a3, f.at a4 fun z => ob _ a3 (m _ z), a5.fr f fun a z => .inl (m a z)⟩
theorem Eo.od (e : Eo G Z W B O H σ ρ) : ∀ a, O a → H a ≠ none := fun a h => by
  obtain ⟨vs, h⟩ := e.ol a h
  rw [h]
  simp
theorem Eo.fr (e : Eo G Z W B O H σ ρ) (f : Lc.Fr Z.M H H') : Eo G Z W B O H' σ ρ where
  er := e.er.fr f e.mb e.ob
  bd := fun a h => ne_fr f (e.bd a h)
  ol := fun a h => by
    obtain ⟨vs, h2⟩ := e.ol a h
    exact ⟨vs, f.at h2 fun z => e.ob a h (e.mb a z)⟩
  mb := e.mb
  ob := e.ob
theorem Eo.new (e : Eo G Z W B O H σ ρ) {p : Addr} (h : H p = none) : ¬ (B p ∨ O p) := fun z => z.elim (fun z => e.bd p z h) fun z => e.od p z h
end
/-! ### readings of expressions by functions on data -/
def tEx {S : Type} (G : Kx) (Z : Zk S) (W : List Nat) (f : Ev S) : TE := fun σ H Q =>
  ∃ (B O : Bar) (ρ : Rho) (s : S) (d : D) (s' : S), Eo G Z W B O H σ ρ ∧ Z.R H s ∧ f ρ s = some (d, s') ∧
    ∀ v H', Lc.Fr Z.M H H' → Rep G (fun a => B a ∨ O a) H' d v → Z.R H' s' → Q v H'
def tEa {S : Type} (G : Kx) (Z : Zk S) (W : List Nat) (f : Ea S) : TA := fun σ H Q =>
  ∃ (B O : Bar) (ρ : Rho) (s : S) (d : List D) (s' : S), Eo G Z W B O H σ ρ ∧ Z.R H s ∧ f ρ s = some (d, s') ∧
    ∀ v H', Lc.Fr Z.M H H' → Reps G (fun a => B a ∨ O a) H' d v → Z.R H' s' → Q v H'
def tEt {S : Type} (G : Kx) (Z : Zk S) (W : List Nat) (f : Rho → S → Option (Bool × S)) : TT := fun σ H Q =>
  ∃ (B O : Bar) (ρ : Rho) (s : S) (d : Bool) (s' : S), Eo G Z W B O H σ ρ ∧ Z.R H s ∧ f ρ s = some (d, s') ∧
    ∀ H', Lc.Fr Z.M H H' → Z.R H' s' → Q d H'
theorem imp_pe {X : Cx} {e : Expr} {t t' : TE} (h : PE X e t) (m : ∀ σ H Q, t' σ H Q → t σ H Q) : PE X e t' := ⟨fun pins s σ H Q I q => h.run pins s σ H Q I (m σ H Q q)⟩
theorem imp_pa {X : Cx} {e : List Expr} {t t' : TA} (h : PA X e t) (m : ∀ σ H Q, t' σ H Q → t σ H Q) : PA X e t' := ⟨fun pos pins s σ H Q I q => h.run pos pins s σ H Q I (m σ H Q q)⟩
theorem imp_pt {X : Cx} {e : Expr} {t t' : TT} (h : PT X e t) (m : ∀ σ H Q, t' σ H Q → t σ H Q) : PT X e t' := ⟨fun pins s σ H Q I q => h.run pins s σ H Q I (m σ H Q q)⟩
theorem imp_pw {X : Cx} {e : Expr} {t t' : TT} (h : PW X e t) (m : ∀ σ H Q, t' σ H Q → t σ H Q) : PW X e t' := ⟨fun wh pins s σ H Q I q => h.run wh pins s σ H Q I (m σ H Q q)⟩
theorem imp_ps {X : Cx} {e : Stmt} {t t' : TS} (h : PS X e t) (m : ∀ D σ H, t' D σ H → t D σ H) : PS X e t' := ⟨fun pins s σ H D I q => h.run pins s σ H D I (m D σ H q)⟩
theorem imp_pss {X : Cx} {e : List Stmt} {t t' : TS} (h : PSs X e t) (m : ∀ D σ H, t' D σ H → t D σ H) : PSs X e t' := ⟨fun pins s σ H D I q => h.run pins s σ H D I (m D σ H q)⟩
end Dl
set_option Elab.async false
set_option linter.all false
set_option maxRecDepth 100000
set_option maxHeartbeats 4000000
namespace Dl
open PySem PySem.Spec PyProof.Rows L2
def bnd {S α β : Type} (f : Option (α × S)) (k : α → S → Option (β × S)) : Option (β × S) := match f with
  | none => none
  | some (a, s) => k a s
theorem bnd_some {S α β : Type} {f : Option (α × S)} {k : α → S → Option (β × S)} {r : β × S} (h : bnd f k = some r) : ∃ a s, f = some (a, s) ∧ k a s = some r := by
  unfold bnd at h
  split at h
  · cases h
  · exact ⟨_, _, rfl, h⟩
@[simp] theorem bnd_of {S α β : Type} {a : α} {s : S} {k : α → S → Option (β × S)} : bnd (some (a, s)) k = k a s := rfl
@[simp] theorem bnd_no {S α β : Type} {k : α → S → Option (β × S)} : bnd (none : Option (α × S)) k = none := rfl
/-- a value without a change of what is shared -/
def put {S α : Type} (o : Option α) (s : S) : Option (α × S) := match o with
  | none => none
  | some a => some (a, s)
@[simp] theorem put_of {S α : Type} {a : α} {s : S} : put (some a) s = some (a, s) := rfl
@[simp] theorem put_no {S α : Type} {s : S} : put (none : Option α) s = none := rfl
theorem put_some {S α : Type} {o : Option α} {s s' : S} {a : α} (h : put o s = some (a, s')) : o = some a ∧ s' = s := by
  unfold put at h
  split at h
  · cases h
  · cases h
    exact ⟨rfl, rfl⟩
section
variable {S : Type}
def cVar (i : Nat) : Ev S := fun ρ s => match ρ[i]? with
  | some (some d) => some (d, s)
  | _ => none
def cK (d : D) : Ev S := fun _ s => some (d, s)
def cB (p : D → D → Option D) (f g : Ev S) : Ev S := fun ρ s => bnd (f ρ s) fun x s => bnd (g ρ s) fun y s => put (p x y) s
def cU (p : D → Option D) (f : Ev S) : Ev S := fun ρ s => bnd (f ρ s) fun x s => put (p x) s
def aNil : Ea S := fun _ s => some ([], s)
def aCons (f : Ev S) (g : Ea S) : Ea S := fun ρ s => bnd (f ρ s) fun x s => bnd (g ρ s) fun xs s => some (x :: xs, s)
def cN (p : List D → Option D) (f : Ea S) : Ev S := fun ρ s => bnd (f ρ s) fun xs s => put (p xs) s
def pTup (ds : List D) : Option D := if ds.length ≤ sizeLine then some (.tuple ds) else none
def pLst (ds : List D) : Option D := if ds.length ≤ sizeLine then some (.list ds) else none
abbrev Fn (S : Type) := List D → S → Option (D × S)
def cCall (n : Nat) (F : Fn S) (f : Ea S) : Ev S := fun ρ s => bnd (f ρ s) fun xs s => if xs.length = n then F xs s else none
end
def truth : D → Option Bool
  | .none => some false
  | .bool b => some b
  | .int i => some (i != 0)
  | .str x => if x.length ≤ sizeLine then some ((x.length : Int) != 0) else none
  | .list ds => some (!ds.isEmpty)
  | .tuple ds => some (!ds.isEmpty)
  | .dict _ => none
section
variable {S : Type}
abbrev Et (S : Type) := Rho → S → Option (Bool × S)
def qT (f : Ev S) : Et S := fun ρ s => bnd (f ρ s) fun x s => put (truth x) s
def qNot (f : Et S) : Et S := fun ρ s => bnd (f ρ s) fun b s => some (!b, s)
def qAnd (f g : Et S) : Et S := fun ρ s => bnd (f ρ s) fun b s => if b = true then g ρ s else some (false, s)
def qOr (f g : Et S) : Et S := fun ρ s => bnd (f ρ s) fun b s => if b = true then some (true, s) else g ρ s
def cAnd (f g : Ev S) : Ev S := fun ρ s => bnd (f ρ s) fun x s => bnd (put (truth x) s) fun b s => if b = true then g ρ s else some (x, s)
def cOr (f g : Ev S) : Ev S := fun ρ s => bnd (f ρ s) fun x s => bnd (put (truth x) s) fun b s => if b = true then some (x, s) else g ρ s
def cNot (f : Ev S) : Ev S := fun ρ s => bnd (f ρ s) fun x s => bnd (put (truth x) s) fun b s => some (.bool (!b), s)
def cIf (c : Et S) (f g : Ev S) : Ev S := fun ρ s => bnd (c ρ s) fun b s => if b = true then f ρ s else g ρ s
def asB : D → Option Bool
  | .bool b => some b
  | _ => none
/-- a < b < c -/
def cCh (p q : D → D → Option D) (f g h : Ev S) : Ev S := fun ρ s => bnd (f ρ s) fun x s => bnd (g ρ s) fun y s => bnd (put (p x y) s) fun z s => bnd (put (asB z) s) fun b s =>
  if b = true then bnd (h ρ s) fun w s => put (q y w) s else some (.bool false, s)
end
/-! ### the rules -/
section
variable {S : Type} {X : Cx} {G : Kx} {Z : Zk S} {W : List Nat} {f g : Ev S} {fa : Ea S} {a b c e : Expr} {es : List Expr} {pos p : Pos} {x : Str}
theorem ex_var (i : Nat) (hw : W.contains i = false := by rfl) (hN : X.N[i]? = some x := by rfl) (hv : Vis X.env.scope x := by first | exact Or.inl rfl | exact Or.inr (Or.inl rfl) | exact Or.inr (Or.inr rfl)) (hd : (x == ("__debug__" : Str)) = false := by decide)
    (hcd : (x == ("__classdict__" : Str)) = false := by decide) : PE X (.Name x pos) (tEx G Z W (cVar i)) :=
  imp_pe (pe_var hN hv hd hcd) fun σ H Q ⟨B, O, ρ, s, d, s', eo, hR, hf, q⟩ => by
    unfold cVar at hf
    split at hf
    · rename_i e
      cases hf
      obtain ⟨v, h1, h2⟩ := eo.er.pl i d (by simpa using hw) e
      exact ⟨v, h1, q v H (Lc.Fr.refl H) h2 hR⟩
    · cases hf
theorem ex_of {v : V} {d : D} (h : PE X e (tC v)) (r : ∀ B H, Rep G B H d v) : PE X e (tEx G Z W (cK d)) :=
  imp_pe h fun σ H Q ⟨B, O, ρ, s, d', s', eo, hR, hf, q⟩ => by
    cases hf
    exact q v H (Lc.Fr.refl H) (r _ H) hR
theorem ex_int {i : Int} {j} : PE X (.Constant (.int i) j pos) (tEx G Z W (cK (.int i))) := ex_of pe_int fun B H => by simp only [Rep]
theorem ex_str {i : Str} {j} : PE X (.Constant (.str i) j pos) (tEx G Z W (cK (.str i))) := ex_of pe_str fun B H => by simp only [Rep]
theorem ex_bl {i : Bool} {j} : PE X (.Constant (.bool i) j pos) (tEx G Z W (cK (.bool i))) := ex_of pe_bl fun B H => by simp only [Rep]
/-- an operation on values, by one on data -/
def OpS (G : Kx) (r : R2) (p : D → D → Option D) : Prop := ∀ (B : Bar) (H : Hp) (x y : V) (dx dy d : D) (Q : VK), (∀ a, B a → H a ≠ none) → Rep G B H dx x → Rep G B H dy y → p dx dy = some d →
  (∀ v H', Same H H' → Rep G B H' d v → Q v H') → r x y H Q
theorem top_ex {r : R2} {p : D → D → Option D} (hs : OpS G r p) {σ : L2.St} {H : Hp} {Q : VK} (h : tEx G Z W (cB p f g) σ H Q) : tOp r (tEx G Z W f) (tEx G Z W g) σ H Q := by
  obtain ⟨B, O, ρ, s, d, s', eo, hR, hf, q⟩ := h
  unfold cB at hf
  obtain ⟨x, s1, h1, hf⟩ := bnd_some hf
  obtain ⟨y, s2, h2, hf⟩ := bnd_some hf
  obtain ⟨h3, rfl⟩ := put_some hf
  refine ⟨B, O, ρ, s, x, s1, eo, hR, h1, fun v H1 f1 r1 R1 => ⟨B, O, ρ, s1, y, _, eo.fr f1, R1, h2, fun u H2 f2 r2 R2 => ?_⟩⟩
  have e2 := (eo.fr f1).fr f2
  refine hs _ H2 v u x y d Q (fun a z => z.elim (e2.bd a) (e2.od a)) (r1.fr f2 fun a z => .inl (eo.mb a z)) r2 h3 fun w H3 sm r3 => ?_
  exact q w H3 ((f1.trans f2).trans (Lc.Fr.of sm)) r3 (Z.same R2 sm)
theorem ex_bin {op : Operator} {r : R2} {q : D → D → Option D} (ho : OpR X (binaryOp op) r) (hs : OpS G r q) (ha : PE X a (tEx G Z W f)) (hb : PE X b (tEx G Z W g)) : PE X (.BinOp a op b pos) (tEx G Z W (cB q f g)) :=
  imp_pe (pe_op ho ha hb) fun σ H Q h => top_ex hs h
theorem ex_cmp {op : CmpOp} {r : R2} {q : D → D → Option D} (ho : OpR X (compareOp op) r) (hs : OpS G r q) (ha : PE X a (tEx G Z W f)) (hb : PE X b (tEx G Z W g)) (hm : behindInMarks op b = false) : PE X (.Compare a [op] [b] pos) (tEx G Z W (cB q f g)) :=
  imp_pe (pe_cmpR ho ha hb hm) fun σ H Q h => top_ex hs h
theorem ex_ix {r : R2} {q : D → D → Option D} (ho : IxR X r) (hs : OpS G r q) (ha : PE X a (tEx G Z W f)) (hb : PE X b (tEx G Z W g)) (hp : PlainIx b) : PE X (.Subscript a b pos) (tEx G Z W (cB q f g)) :=
  imp_pe (pe_ix ho ha hb hp) fun σ H Q h => top_ex hs h
/-! arguments -/
theorem ea_nil : PA X [] (tEa G Z W aNil) := imp_pa pa_nil fun σ H Q ⟨B, O, ρ, s, d, s', eo, hR, hf, q⟩ => by
  cases hf
  exact q [] H (Lc.Fr.refl H) Reps.nil hR
theorem ea_cons (ha : PE X e (tEx G Z W f)) (hr : PA X es (tEa G Z W fa)) (hs : starEach (e :: es) X.env = (false, eval e X.env) :: starEach es X.env := by rfl) : PA X (e :: es) (tEa G Z W (aCons f fa)) :=
  imp_pa (pa_cons ha hr hs) fun σ H Q ⟨B, O, ρ, s, d, s', eo, hR, hf, q⟩ => by
    unfold aCons at hf
    obtain ⟨x, s1, h1, hf⟩ := bnd_some hf
    obtain ⟨y, s2, h2, hf⟩ := bnd_some hf
    cases hf
    refine ⟨B, O, ρ, s, x, s1, eo, hR, h1, fun v H1 f1 r1 R1 => ⟨B, O, ρ, s1, y, _, eo.fr f1, R1, h2, fun u H2 f2 r2 R2 => ?_⟩⟩
    exact q _ H2 (f1.trans f2) (Reps.cons (r1.fr f2 fun a z => .inl (eo.mb a z)) r2) R2
/-- a call of something built in, by a function on data -/
def CaS (G : Kx) (r : List V → Hp → VK → Prop) (p : List D → Option D) : Prop := ∀ (B : Bar) (H : Hp) (xs : List V) (ds : List D) (d : D) (Q : VK), (∀ a, B a → H a ≠ none) → Reps G B H ds xs → p ds = some d →
  (∀ v H', Same H H' → Rep G B H' d v → Q v H') → r xs H Q
theorem tcb_ex {r : List V → Hp → VK → Prop} {p : List D → Option D} (hs : CaS G r p) {σ : L2.St} {H : Hp} {Q : VK} (h : tEx G Z W (cN p fa) σ H Q) : tCB r (tEa G Z W fa) σ H Q := by
  obtain ⟨B, O, ρ, s, d, s', eo, hR, hf, q⟩ := h
  unfold cN at hf
  obtain ⟨x, s1, h1, hf⟩ := bnd_some hf
  obtain ⟨h3, rfl⟩ := put_some hf
  refine ⟨B, O, ρ, s, x, _, eo, hR, h1, fun v H1 f1 r1 R1 => ?_⟩
  have e2 := eo.fr f1
  refine hs _ H1 v x d Q (fun a z => z.elim (e2.bd a) (e2.od a)) r1 h3 fun w H3 sm r3 => ?_
  exact q w H3 (f1.trans (Lc.Fr.of sm)) r3 (Z.same R1 sm)
theorem ex_callB {id : String} {r : List V → Hp → VK → Prop} {q : List D → Option D} (hc : CallR X (.builtin id) r) (hS : CaS G r q) (hg : Gl X x) (hm : X.mg x = none) (hv : bootBuiltins x = some (.builtin id)) (ha : PA X (e :: es) (tEa G Z W fa)) (hn : x ≠ "__name__" := by decide) (hdb : (x == ("__debug__" : Str)) = false := by decide)
    (he : starEach (e :: es) X.env = (false, eval e X.env) :: starEach es X.env := by rfl) (hpl : (backTo pos (starEach es X.env)).any (·.1) = false := by rfl) : PE X (.Call (.Name x p) (e :: es) [] pos) (tEx G Z W (cN q fa)) :=
  imp_pe (pe_callB hc hg hm hv ha hn hdb he hpl) fun σ H Q h => tcb_ex hS h
theorem ex_callTy {T : String} {r : List V → Hp → VK → Prop} {q : List D → Option D} (hc : CallR X (.type T) r) (hS : CaS G r q) (hg : Gl X x) (hm : X.mg x = none) (hv : bootBuiltins x = some (.type T)) (ha : PA X (e :: es) (tEa G Z W fa)) (hn : x ≠ "__name__" := by decide) (hdb : (x == ("__debug__" : Str)) = false := by decide)
    (he : starEach (e :: es) X.env = (false, eval e X.env) :: starEach es X.env := by rfl) (hpl : (backTo pos (starEach es X.env)).any (·.1) = false := by rfl) : PE X (.Call (.Name x p) (e :: es) [] pos) (tEx G Z W (cN q fa)) :=
  imp_pe (pe_callTy hc hg hm hv ha hn hdb he hpl) fun σ H Q h => tcb_ex hS h
theorem ttup_ex {σ : L2.St} {H : Hp} {Q : VK} (h : tEx G Z W (cN pTup fa) σ H Q) : tTup (tEa G Z W fa) σ H Q := by
  obtain ⟨B, O, ρ, s, d, s', eo, hR, hf, q⟩ := h
  unfold cN at hf
  obtain ⟨x, s1, h1, hf⟩ := bnd_some hf
  obtain ⟨h3, rfl⟩ := put_some hf
  unfold pTup at h3
  split at h3
  · cases h3
    refine ⟨B, O, ρ, s, x, _, eo, hR, h1, fun v H1 f1 r1 R1 => ⟨by rw [r1.len]; assumption, fun p hp => ?_⟩⟩
    have e2 := eo.fr f1
    refine q _ _ (f1.trans (Lc.Fr.new hp)) ?_ (Z.same R1 (Lc.same_new hp))
    simp only [Rep]
    exact ⟨p, v, rfl, .inl ⟨upd_same, e2.new hp⟩, r1.same (Lc.same_new hp)⟩
  · cases h3
theorem ex_tup {x1} (h : PA X es (tEa G Z W fa)) : PE X (.Tuple es x1 pos) (tEx G Z W (cN pTup fa)) := imp_pe (pe_tup h) fun σ H Q h => ttup_ex h
theorem tlst_ex {σ : L2.St} {H : Hp} {Q : VK} (h : tEx G Z W (cN pLst fa) σ H Q) : tLst (tEa G Z W fa) σ H Q := by
  obtain ⟨B, O, ρ, s, d, s', eo, hR, hf, q⟩ := h
  unfold cN at hf
  obtain ⟨x, s1, h1, hf⟩ := bnd_some hf
  obtain ⟨h3, rfl⟩ := put_some hf
  unfold pLst at h3
  split at h3
  · cases h3
    refine ⟨B, O, ρ, s, x, _, eo, hR, h1, fun v H1 f1 r1 R1 => ⟨by rw [r1.len]; assumption, fun p hp => ?_⟩⟩
    have e2 := eo.fr f1
    refine q _ _ (f1.trans (Lc.Fr.new hp)) ?_ (Z.same R1 (Lc.same_new hp))
    simp only [Rep]
    exact ⟨p, v, rfl, upd_same, e2.new hp, r1.same (Lc.same_new hp)⟩
  · cases h3
theorem ex_lst (h : PA X es (tEa G Z W fa)) : PE X (.List es pos) (tEx G Z W (cN pLst fa)) := imp_pe (pe_lst h) fun σ H Q h => tlst_ex h
/-! a def by a function on data -/
def spD (G : Kx) (Z : Zk S) (n : Nat) (F : Fn S) : Sp := fun vs H Q _ => ∃ (B : Bar) (ds : List D) (s : S) (d : D) (s' : S), ds.length = n ∧ (∀ a, B a → H a ≠ none) ∧ (∀ a, Z.M a → B a) ∧ Reps G B H ds vs ∧ Z.R H s ∧ F ds s = some (d, s') ∧
  ∀ v H', Lc.Fr Z.M H H' → Rep G B H' d v → Z.R H' s' → Q v H'
theorem tcall_ex {n : Nat} {F : Fn S} {σ : L2.St} {H : Hp} {Q : VK} (h : tEx G Z W (cCall n F fa) σ H Q) : tCall (spD G Z n F) [] E0 (tEa G Z W fa) σ H Q := by
  obtain ⟨B, O, ρ, s, d, s', eo, hR, hf, q⟩ := h
  unfold cCall at hf
  obtain ⟨x, s1, h1, hf⟩ := bnd_some hf
  split at hf
  · refine ⟨B, O, ρ, s, x, s1, eo, hR, h1, fun v H1 f1 r1 R1 => ?_⟩
    have e2 := eo.fr f1
    show spD G Z n F (v ++ []) H1 Q E0
    rw [List.append_nil]
    exact ⟨_, x, s1, d, s', by assumption, fun a z => z.elim (e2.bd a) (e2.od a), fun a z => .inl (eo.mb a z), r1, R1, hf, fun w H2 f2 r2 R2 => q w H2 (f1.trans f2) r2 R2⟩
  · cases hf
theorem ex_call {ps : List Str} {k n : Nat} {F : Fn S} (C : Lc.Dn X.prog X.w X.K X.mg X.base x ps k (spD G Z n F)) (hr : Room k X.A) (hg : Gl X x) (ha : PA X (e :: es) (tEa G Z W fa)) (hdb : (x == ("__debug__" : Str)) = false := by decide)
    (he : starEach (e :: es) X.env = (false, eval e X.env) :: starEach es X.env := by rfl) (hpl : (backTo pos (starEach es X.env)).any (·.1) = false := by rfl) : PE X (.Call (.Name x p) (e :: es) [] pos) (tEx G Z W (cCall n F fa)) :=
  imp_pe (Lc.pe_dn C hr hg ha hdb he hpl) fun σ H Q h => tcall_ex h
/-! tests -/
theorem tru_of {B : Bar} {H : Hp} : ∀ {d : D} {v : V} {k : Bool}, Rep G B H d v → truth d = some k → TruV G.K v H k
  | .none, v, k, h, e => by simp only [Rep] at h; subst h; cases e; rfl
  | .bool b, v, k, h, e => by simp only [Rep] at h; subst h; cases e; rfl
  | .int i, v, k, h, e => by simp only [Rep] at h; subst h; cases e; rfl
  | .str x, v, k, h, e => by
    simp only [Rep] at h
    subst h
    have e : (if x.length ≤ sizeLine then some ((x.length : Int) != 0) else none) = some k := e
    split at e
    · cases e
      exact ⟨by assumption, rfl⟩
    · cases e
  | .list ds, v, k, h, e => by
    obtain ⟨a, vs, rfl, _, h1, h2⟩ := h.sqL
    cases e
    refine .inl ⟨vs, h1, ?_⟩
    have := h2.len
    cases ds <;> cases vs <;> simp_all
  | .tuple ds, v, k, h, e => by
    obtain ⟨a, vs, rfl, h1, h2⟩ := h.sqT
    cases e
    refine .inr (.inl ⟨vs, h1, ?_⟩)
    have := h2.len
    cases ds <;> cases vs <;> simp_all
  | .dict _, v, k, h, e => by cases e
theorem et_val (ha : PE X a (tEx G Z W f)) (he : ∀ whole, isTrue a X.env whole = (do let v ← whole; standAt a.pos; holding [v] (truthy v)) := by intro _; rfl) (hK : X.K = G.K := by rfl) : PT X a (tEt G Z W (qT f)) :=
  imp_pt (pt_truth ha he) fun σ H Q ⟨B, O, ρ, s, d, s', eo, hR, hf, q⟩ => by
    unfold qT at hf
    obtain ⟨x, s1, h1, hf⟩ := bnd_some hf
    obtain ⟨h3, rfl⟩ := put_some hf
    refine ⟨B, O, ρ, s, x, _, eo, hR, h1, fun v H1 f1 r1 R1 => ⟨d, ?_, q H1 f1 R1⟩⟩
    rw [hK]
    exact tru_of r1 h3
theorem et_cmp {op : CmpOp} {r : R2} {q : D → D → Option D} (ho : OpR X (compareOp op) r) (hs : OpS G r q) (ha : PE X a (tEx G Z W f)) (hb : PE X b (tEx G Z W g)) (hm : behindInMarks op b = false) (hq : ∀ x y z, q x y = some z → ∃ k, z = .bool k := by intro x y z h; first | exact qb h | simp_all) :
    PT X (.Compare a [op] [b] pos) (tEt G Z W (qT (cB q f g))) :=
  imp_pt (pt_cmpR ho ha hb hm) fun σ H Q ⟨B, O, ρ, s, d, s', eo, hR, hf, h⟩ => by
    unfold qT at hf
    obtain ⟨x, s1, h1, hf⟩ := bnd_some hf
    obtain ⟨h3, rfl⟩ := put_some hf
    have hx : ∃ k, x = .bool k := by
      unfold cB at h1
      obtain ⟨x', s1, h1, hf⟩ := bnd_some h1
      obtain ⟨y', s2, h2, hf⟩ := bnd_some hf
      obtain ⟨h3, h4⟩ := put_some hf
      exact hq _ _ _ h3
    obtain ⟨k, rfl⟩ := hx
    cases h3
    refine top_ex hs ⟨B, O, ρ, s, .bool d, _, eo, hR, h1, fun v H1 f1 r1 R1 => ?_⟩
    simp only [Rep] at r1
    exact ⟨d, r1, h H1 f1 R1⟩
theorem et_not {t : Et S} (ha : PT X a (tEt G Z W t)) : PT X (.UnaryOp .Not a pos) (tEt G Z W (qNot t)) :=
  imp_pt (pt_not ha) fun σ H Q ⟨B, O, ρ, s, d, s', eo, hR, hf, h⟩ => by
    unfold qNot at hf
    obtain ⟨x, s1, h1, hf⟩ := bnd_some hf
    cases hf
    exact ⟨B, O, ρ, s, x, _, eo, hR, h1, fun H1 f1 R1 => h H1 f1 R1⟩
theorem ew_and {t u : Et S} {rest : List Expr} (ha : PT X a (tEt G Z W t)) (hb : PW X (.BoolOp .And (b :: rest) pos) (tEt G Z W u)) : PW X (.BoolOp .And (a :: b :: rest) pos) (tEt G Z W (qAnd t u)) :=
  imp_pw (pw_and ha hb) fun σ H Q ⟨B, O, ρ, s, d, s', eo, hR, hf, h⟩ => by
    unfold qAnd at hf
    obtain ⟨x, s1, h1, hf⟩ := bnd_some hf
    refine ⟨B, O, ρ, s, x, s1, eo, hR, h1, fun H1 f1 R1 => ?_⟩
    cases x with
    | true => exact ⟨B, O, ρ, s1, d, s', eo.fr f1, R1, hf, fun H2 f2 R2 => h H2 (f1.trans f2) R2⟩
    | false =>
      cases hf
      exact h H1 f1 R1
theorem ew_or {t u : Et S} {rest : List Expr} (ha : PT X a (tEt G Z W t)) (hb : PW X (.BoolOp .Or (b :: rest) pos) (tEt G Z W u)) : PW X (.BoolOp .Or (a :: b :: rest) pos) (tEt G Z W (qOr t u)) :=
  imp_pw (pw_or ha hb) fun σ H Q ⟨B, O, ρ, s, d, s', eo, hR, hf, h⟩ => by
    unfold qOr at hf
    obtain ⟨x, s1, h1, hf⟩ := bnd_some hf
    refine ⟨B, O, ρ, s, x, s1, eo, hR, h1, fun H1 f1 R1 => ?_⟩
    cases x with
    | false => exact ⟨B, O, ρ, s1, d, s', eo.fr f1, R1, hf, fun H2 f2 R2 => h H2 (f1.trans f2) R2⟩
    | true =>
      cases hf
      exact h H1 f1 R1
/-! and, or, not, if as values -/
theorem ex_one {op} (h : PE X a (tEx G Z W f)) : PE X (.BoolOp op [a] pos) (tEx G Z W f) := pe_one h
theorem ex_and {rest : List Expr} (ha : PE X a (tEx G Z W f)) (hb : PE X (.BoolOp .And (b :: rest) pos) (tEx G Z W g)) (hK : X.K = G.K := by rfl) : PE X (.BoolOp .And (a :: b :: rest) pos) (tEx G Z W (cAnd f g)) :=
  imp_pe (pe_andT ha hb) fun σ H Q ⟨B, O, ρ, s, d, s', eo, hR, hf, h⟩ => by
    unfold cAnd at hf
    obtain ⟨x, s1, h1, hf⟩ := bnd_some hf
    obtain ⟨k, s2, h2, hf⟩ := bnd_some hf
    obtain ⟨h3, rfl⟩ := put_some h2
    refine ⟨B, O, ρ, s, x, _, eo, hR, h1, fun v H1 f1 r1 R1 => ⟨k, by rw [hK]; exact tru_of r1 h3, ?_⟩⟩
    cases k with
    | true => exact ⟨B, O, ρ, _, d, s', eo.fr f1, R1, hf, fun w H2 f2 r2 R2 => h w H2 (f1.trans f2) r2 R2⟩
    | false =>
      cases hf
      exact h v H1 f1 r1 R1
theorem ex_or {rest : List Expr} (ha : PE X a (tEx G Z W f)) (hb : PE X (.BoolOp .Or (b :: rest) pos) (tEx G Z W g)) (hK : X.K = G.K := by rfl) : PE X (.BoolOp .Or (a :: b :: rest) pos) (tEx G Z W (cOr f g)) :=
  imp_pe (pe_orT ha hb) fun σ H Q ⟨B, O, ρ, s, d, s', eo, hR, hf, h⟩ => by
    unfold cOr at hf
    obtain ⟨x, s1, h1, hf⟩ := bnd_some hf
    obtain ⟨k, s2, h2, hf⟩ := bnd_some hf
    obtain ⟨h3, rfl⟩ := put_some h2
    refine ⟨B, O, ρ, s, x, _, eo, hR, h1, fun v H1 f1 r1 R1 => ⟨k, by rw [hK]; exact tru_of r1 h3, ?_⟩⟩
    cases k with
    | false => exact ⟨B, O, ρ, _, d, s', eo.fr f1, R1, hf, fun w H2 f2 r2 R2 => h w H2 (f1.trans f2) r2 R2⟩
    | true =>
      cases hf
      exact h v H1 f1 r1 R1
end
end Dl
set_option Elab.async false
set_option linter.all false
set_option maxRecDepth 100000
set_option maxHeartbeats 4000000
namespace Dl
open PySem PySem.Spec PyProof.Rows L2
/-! ### flat data: no list within -/
mutual
def flatD : D → Bool
  | .none => true
  | .bool _ => true
  | .int _ => true
  | .str _ => true
  | .list _ => false
  | .tuple ds => flatDs ds
  | .dict _ => true
def flatDs : List D → Bool
  | [] => true
  | d :: ds => flatD d && flatDs ds
end
section
variable {G : Kx} {B O : Bar} {H : Hp}
mutual
theorem Rep.flat (ol : ∀ a, O a → ∃ vs, H a = some (.lst vs)) : ∀ (d : D) (v : V), flatD d = true → Rep G B H d v → Rep G (fun a => B a ∨ O a) H d v
  | .none, _, _, h => by simpa only [Rep] using h
  | .bool _, _, _, h => by simpa only [Rep] using h
  | .int _, _, _, h => by simpa only [Rep] using h
  | .str _, _, _, h => by simpa only [Rep] using h
  | .list _, _, c, _ => by simp [flatD] at c
  | .tuple ds, v, c, h => by
    simp only [Rep] at h ⊢
    obtain ⟨a, vs, e, h1, h3⟩ := h
    refine ⟨a, vs, e, ?_, Reps.flat ol ds vs (by simpa only [flatD] using c) h3⟩
    rcases h1 with ⟨h1, h2⟩ | h1
    · refine .inl ⟨h1, fun z => z.elim h2 fun z => ?_⟩
      obtain ⟨us, z⟩ := ol a z
      rw [h1] at z
      cases z
    · exact .inr h1
  | .dict _, _, _, h => by
    simp only [Rep] at h ⊢
    obtain ⟨a, e, h⟩ := h
    refine ⟨a, e, h.imp id fun ⟨h1, h2, h3⟩ => ⟨h1, h2, fun z => z.elim h3 fun z => ?_⟩⟩
    obtain ⟨us, z⟩ := ol a z
    rw [h2] at z
    cases z
theorem Reps.flat (ol : ∀ a, O a → ∃ vs, H a = some (.lst vs)) : ∀ (ds : List D) (vs : List V), flatDs ds = true → Reps G B H ds vs → Reps G (fun a => B a ∨ O a) H ds vs
  | [], _, _, h => by simpa only [Reps] using h
  | d :: ds, vs, c, h => by
    simp only [Reps] at h ⊢
    obtain ⟨v, r, e, h1, h2⟩ := h
    have c' : flatD d = true ∧ flatDs ds = true := by simpa [flatDs] using c
    exact ⟨v, r, e, Rep.flat ol d v c'.1 h1, Reps.flat ol ds r c'.2 h2⟩
end
end
section
variable {S : Type} {G : Kx} {Z : Zk S} {W : List Nat} {B O : Bar} {H : Hp} {σ : L2.St} {ρ : Rho}
theorem Eo.weak (e : Eo G Z W B O H σ ρ) : Eo G Z [] B (fun _ => False) H σ ρ where
  er := by
    refine ⟨e.er.len, fun i d _ hd => ?_, fun _ => 0, (fun _ _ _ _ z => by cases z), (fun _ _ z => by cases z)⟩
    by_cases hi : i ∈ W
    · obtain ⟨om, _, h2⟩ := e.er.ow
      obtain ⟨ds, vs, rfl, a2, a3, a4, a5⟩ := h2 i d hi hd
      refine ⟨_, a2, ?_⟩
      simp only [Rep]
      exact ⟨_, vs, rfl, a4, fun z => z.elim (e.ob _ a3) id, a5.sub fun a z _ => .inl (z.elim id False.elim)⟩
    · obtain ⟨v, h1, h2⟩ := e.er.pl i d hi hd
      exact ⟨v, h1, h2.sub fun a z _ => .inl (z.elim id False.elim)⟩
  bd := e.bd
  ol := fun _ z => z.elim
  mb := e.mb
  ob := fun _ z => z.elim
end
def cFl {S : Type} (f : Ev S) : Ev S := fun ρ s => bnd (f ρ s) fun d s => if flatD d = true then some (d, s) else none
/-! ### statements -/
inductive Rs where
  | nx (ρ : Rho) | rt (d : D) | bk (ρ : Rho) | ct (ρ : Rho)
abbrev Sv (S : Type) := Rho → S → Option (Rs × S)
structure Sr {S : Type} (G : Kx) (Z : Zk S) (W : List Nat) (B : Bar) (H0 : Hp) (O : Bar) (H : Hp) (σ : L2.St) (ρ : Rho) (s : S) : Prop where
  eo : Eo G Z W B O H σ ρ
  fr : Lc.Fr Z.M H0 H
  b0 : ∀ a, B a → H0 a ≠ none
  o0 : ∀ a, O a → H0 a = none
  r : Z.R H s
/-- what a statement may have changed: what is shared, the own lists -/
structure Ch {S : Type} (Z : Zk S) (O O' : Bar) (H H' : Hp) : Prop where
  fr : Lc.Fr (fun a => Z.M a ∨ O a) H H'
  up : ∀ a, O a → O' a
  nw : ∀ a, O' a → O a ∨ H a = none
section
variable {S : Type} {G : Kx} {Z : Zk S} {W : List Nat} {B O O1 O2 : Bar} {H H1 H2 H0 : Hp} {σ σ1 : L2.St} {ρ ρ1 : Rho} {s s1 : S}
theorem Ch.refl : Ch Z O O H H := ⟨Lc.Fr.refl H, fun _ h => h, fun _ h => .inl h⟩
theorem Ch.of (f : Lc.Fr Z.M H H1) : Ch Z O O H H1 := ⟨fun b o e => by
  obtain ⟨o', h1, h2⟩ := f b o e
  exact ⟨o', h1, fun n => h2 fun z => n (.inl z)⟩, fun _ h => h, fun _ h => .inl h⟩
theorem Ch.trans (a : Ch Z O O1 H H1) (b : Ch Z O1 O2 H1 H2) : Ch Z O O2 H H2 where
  fr := fun c o e => by
    obtain ⟨o1, e1, k1⟩ := a.fr c o e
    obtain ⟨o2, e2, k2⟩ := b.fr c o1 e1
    refine ⟨o2, e2, fun n => (k2 fun z => ?_).trans (k1 n)⟩
    rcases z with z | z
    · exact n (.inl z)
    · rcases a.nw c z with z | z
      · exact n (.inr z)
      · rw [e] at z; cases z
  up := fun c h => b.up c (a.up c h)
  nw := fun c h => by
    rcases b.nw c h with h | h
    · exact a.nw c h
    · right
      cases q : H c with
      | none => rfl
      | some o =>
        obtain ⟨o1, e1, _⟩ := a.fr c o q
        rw [h] at e1
        cases e1
theorem Sr.mb (r : Sr G Z W B H0 O H σ ρ s) : ∀ a, Z.M a → B a := r.eo.mb
theorem Sr.step (r : Sr G Z W B H0 O H σ ρ s) (f : Lc.Fr Z.M H H1) (hs : Z.R H1 s1) : Sr G Z W B H0 O H1 σ ρ s1 := ⟨r.eo.fr f, r.fr.trans f, r.b0, r.o0, hs⟩
/-- a slot that is no own list is set -/
theorem Er.set (e : Er G W B O H σ ρ) {i : Nat} {d : D} {v : V} (hi : i ∉ W) (h : Rep G (fun a => B a ∨ O a) H d v) : Er G W B O H (σ.set i (some v)) (ρ.set i (some d)) where
  len := by simp [e.len]
  pl := fun j x hj hx => by
    by_cases hij : i = j
    · subst hij
      rw [List.getElem?_set] at hx
      simp only [if_true] at hx
      split at hx
      · cases hx
        refine ⟨v, ?_, h⟩
        rw [List.getElem?_set]
        simp only [if_true]
        rw [if_pos (by rw [e.len]; assumption)]
      · cases hx
    · rw [List.getElem?_set_ne hij] at hx
      obtain ⟨u, h1, h2⟩ := e.pl j x hj hx
      exact ⟨u, by rw [List.getElem?_set_ne hij]; exact h1, h2⟩
  ow := by
    obtain ⟨om, h1, h2⟩ := e.ow
    have ne : ∀ j, j ∈ W → i ≠ j := fun j hj z => hi (z ▸ hj)
    refine ⟨om, fun j k x y hj hk hx hy => ?_, fun j x hj hx => ?_⟩
    · rw [List.getElem?_set_ne (ne j hj)] at hx
      rw [List.getElem?_set_ne (ne k hk)] at hy
      exact h1 j k x y hj hk hx hy
    · rw [List.getElem?_set_ne (ne j hj)] at hx
      obtain ⟨ds, vs, a1, a2, a3, a4, a5⟩ := h2 j x hj hx
      exact ⟨ds, vs, a1, by rw [List.getElem?_set_ne (ne j hj)]; exact a2, a3, a4, a5⟩
theorem Eo.set (e : Eo G Z W B O H σ ρ) {i : Nat} {d : D} {v : V} (hi : i ∉ W) (h : Rep G (fun a => B a ∨ O a) H d v) : Eo G Z W B O H (σ.set i (some v)) (ρ.set i (some d)) := ⟨e.er.set hi h, e.bd, e.ol, e.mb, e.ob⟩
end
def tSt {S : Type} (G : Kx) (Z : Zk S) (W : List Nat) (F : Sv S) : TS := fun E σ H =>
  ∃ (B : Bar) (H0 : Hp) (O : Bar) (ρ : Rho) (s : S) (r : Rs) (s' : S), Sr G Z W B H0 O H σ ρ s ∧ F ρ s = some (r, s') ∧
    match r with
    | .nx ρ' => ∀ O' σ' H', Sr G Z W B H0 O' H' σ' ρ' s' → Ch Z O O' H H' → E.nx σ' H'
    | .rt d => ∀ v H', Lc.Fr Z.M H0 H' → Rep G B H' d v → Z.R H' s' → E.rt v H'
    | .bk ρ' => ∀ O' σ' H', Sr G Z W B H0 O' H' σ' ρ' s' → Ch Z O O' H H' → E.bk σ' H'
    | .ct ρ' => ∀ O' σ' H', Sr G Z W B H0 O' H' σ' ρ' s' → Ch Z O O' H H' → E.ct σ' H'
section
variable {S : Type}
def sNx : Sv S := fun ρ s => some (.nx ρ, s)
def sSeq (F F' : Sv S) : Sv S := fun ρ s => match F ρ s with
  | some (.nx ρ', s') => F' ρ' s'
  | r => r
def sSet (i : Nat) (f : Ev S) : Sv S := fun ρ s => bnd (f ρ s) fun d s => some (.nx (ρ.set i (some d)), s)
def sRet (f : Ev S) : Sv S := fun ρ s => bnd (f ρ s) fun d s => some (.rt d, s)
def sIf (c : Et S) (F F' : Sv S) : Sv S := fun ρ s => bnd (c ρ s) fun b s => if b = true then F ρ s else F' ρ s
/-- a target: how it sets slots -/
abbrev Tg := D → Rho → Option Rho
def gNm (i : Nat) : Tg := fun d ρ => some (ρ.set i (some d))
abbrev Tgs := List D → Rho → Option Rho
def gN0 : Tgs := fun ds ρ => match ds with
  | [] => some ρ
  | _ => none
def gC (t : Tg) (u : Tgs) : Tgs := fun ds ρ => match ds with
  | d :: ds => (t d ρ).bind fun ρ => u ds ρ
  | _ => none
def gTp (u : Tgs) : Tg := fun d ρ => match d with
  | .tuple ds => u ds ρ
  | _ => none
def sAsg (f : Ev S) (t : Tg) : Sv S := fun ρ s => bnd (f ρ s) fun d s => match t d ρ with
  | none => none
  | some ρ' => some (.nx ρ', s)
def loopF (t : Tg) (body : Sv S) : List D → Rho → S → Option (Rs × S)
  | [], ρ, s => some (.nx ρ, s)
  | d :: ds, ρ, s => match t d ρ with
    | none => none
    | some ρ1 => match body ρ1 s with
      | some (.nx ρ', s') => loopF t body ds ρ' s'
      | some (.ct ρ', s') => loopF t body ds ρ' s'
      | some (.bk ρ', s') => some (.nx ρ', s')
      | r => r
def sFor (fi : Ea S) (t : Tg) (body : Sv S) : Sv S := fun ρ s => bnd (fi ρ s) fun ds s => loopF t body ds ρ s
end
section
variable {S : Type} {X : Cx} {G : Kx} {Z : Zk S} {W : List Nat} {f g : Ev S} {F F' : Sv S} {a b c e : Expr} {es : List Expr} {st : Stmt} {rest : List Stmt} {pos p : Pos} {x : Str}
theorem es_nil : PSs X [] (tSt G Z W sNx) := imp_pss pss_nil fun E σ H ⟨B, H0, O, ρ, s, r, s', sr, hf, q⟩ => by
  cases hf
  exact q O σ H sr Ch.refl
theorem es_one (h : PS X st (tSt G Z W F)) : PSs X [st] (tSt G Z W F) := pss_one h
theorem es_cons (h : PS X st (tSt G Z W F)) (h2 : PSs X rest (tSt G Z W F')) : PSs X (st :: rest) (tSt G Z W (sSeq F F')) :=
  imp_pss (pss_cons h h2) fun E σ H ⟨B, H0, O, ρ, s, r, s', sr, hf, q⟩ => by
    unfold sSeq at hf
    split at hf
    · rename_i ρ1 s1 e1
      refine ⟨B, H0, O, ρ, s, .nx ρ1, s1, sr, e1, fun O1 σ1 H1 sr1 ch => ⟨B, H0, O1, ρ1, s1, r, s', sr1, hf, ?_⟩⟩
      cases r with
      | rt d => exact q
      | nx ρ2 => exact fun O2 σ2 H2 sr2 ch2 => q O2 σ2 H2 sr2 (ch.trans ch2)
      | bk ρ2 => exact fun O2 σ2 H2 sr2 ch2 => q O2 σ2 H2 sr2 (ch.trans ch2)
      | ct ρ2 => exact fun O2 σ2 H2 sr2 ch2 => q O2 σ2 H2 sr2 (ch.trans ch2)
    · rename_i hn
      refine ⟨B, H0, O, ρ, s, r, s', sr, hf, ?_⟩
      cases r with
      | rt d => exact q
      | nx ρ2 => exact absurd hf (hn ρ2 s')
      | bk ρ2 => exact q
      | ct ρ2 => exact q
theorem es_set {i : Nat} {pos' : Pos} (hN : X.N.Nodup) (hi : X.N[i]? = some x) (hx : Loc X.env.scope x) (he : PE X e (tEx G Z W f)) (hw : W.contains i = false := by rfl) (hs : swapsWith e (some (.Name x pos')) pos.line X.env = pure false := by rfl) (hf : X.fn x = true ∨ X.env.scope.names.lookup x = some .local := by first | exact .inl rfl | exact .inr rfl | assumption) :
    PS X (.Assign [.Name x pos'] e pos) (tSt G Z W (sSet i f)) :=
  imp_ps (ps_set hN hi hx he hs hf) fun E σ H ⟨B, H0, O, ρ, s, r, s', sr, hf, q⟩ => by
    unfold sSet at hf
    obtain ⟨d, s1, h1, hf⟩ := bnd_some hf
    cases hf
    refine ⟨B, O, ρ, s, d, _, sr.eo, sr.r, h1, fun v H1 f1 r1 R1 => ?_⟩
    have sr1 := sr.step f1 R1
    exact q O _ H1 ⟨sr1.eo.set (by simpa using hw) r1, sr1.fr, sr1.b0, sr1.o0, R1⟩ (Ch.of f1)
theorem es_ret (he : PE X e (tEx G Z [] f)) : PS X (.Return (some e) pos) (tSt G Z W (sRet f)) :=
  imp_ps (ps_ret he) fun E σ H ⟨B, H0, O, ρ, s, r, s', sr, hf, q⟩ => by
    unfold sRet at hf
    obtain ⟨d, s1, h1, hf⟩ := bnd_some hf
    cases hf
    exact ⟨B, fun _ => False, ρ, s, d, _, sr.eo.weak, sr.r, h1, fun v H1 f1 r1 R1 => q v H1 (sr.fr.trans f1) (r1.sub fun a z _ => .inl z) R1⟩
theorem es_if {t : Et S} {body orelse : List Stmt} (hc : PT X c (tEt G Z W t)) (ha : PSs X body (tSt G Z W F)) (hb : PSs X orelse (tSt G Z W F')) : PS X (.If c body orelse pos) (tSt G Z W (sIf t F F')) :=
  imp_ps (ps_if hc ha hb) fun E σ H ⟨B, H0, O, ρ, s, r, s', sr, hf, q⟩ => by
    unfold sIf at hf
    obtain ⟨d, s1, h1, hf⟩ := bnd_some hf
    refine ⟨B, O, ρ, s, d, s1, sr.eo, sr.r, h1, fun H1 f1 R1 => ?_⟩
    have sr1 := sr.step f1 R1
    have go : ∀ F : Sv S, F ρ s1 = some (r, s') → tSt G Z W F E σ H1 := fun F hF => by
      refine ⟨B, H0, O, ρ, s1, r, s', sr1, hF, ?_⟩
      cases r with
      | rt d => exact q
      | nx ρ2 => exact fun O2 σ2 H2 sr2 ch2 => q O2 σ2 H2 sr2 ((Ch.of f1).trans ch2)
      | bk ρ2 => exact fun O2 σ2 H2 sr2 ch2 => q O2 σ2 H2 sr2 ((Ch.of f1).trans ch2)
      | ct ρ2 => exact fun O2 σ2 H2 sr2 ch2 => q O2 σ2 H2 sr2 ((Ch.of f1).trans ch2)
    cases d with
    | true => exact go F hf
    | false => exact go F' hf
/-! targets -/
def tTg (G : Kx) (Z : Zk S) (W vs : List Nat) (t : Tg) : TG := fun v σ H Q => ∃ (B O : Bar) (ρ : Rho) (d : D) (ρ' : Rho), Eo G Z W B O H σ ρ ∧ Rep G (fun a => B a ∨ O a) H d v ∧ t d ρ = some ρ' ∧
  ∀ σ', Eo G Z W B O H σ' ρ' → (σ'.length = σ.length ∧ ∀ i, i ∉ vs → σ'[i]? = σ[i]?) → Q σ' H
def tTgs (G : Kx) (Z : Zk S) (W vs : List Nat) (t : Tgs) : TGs := fun v σ H Q => ∃ (B O : Bar) (ρ : Rho) (d : List D) (ρ' : Rho), Eo G Z W B O H σ ρ ∧ Reps G (fun a => B a ∨ O a) H d v ∧ t d ρ = some ρ' ∧
  ∀ σ', Eo G Z W B O H σ' ρ' → (σ'.length = σ.length ∧ ∀ i, i ∉ vs → σ'[i]? = σ[i]?) → Q σ' H
theorem imp_pg {t t' : TG} (h : PG X e t) (m : ∀ v σ H Q, t' v σ H Q → t v σ H Q) : PG X e t' := ⟨fun pins s σ H v u Q I r q => h.run pins s σ H v u Q I r (m v σ H Q q)⟩
theorem imp_pgs {t t' : TGs} (h : PGs X es t) (m : ∀ v σ H Q, t' v σ H Q → t v σ H Q) : PGs X es t' := ⟨fun pins s σ H v u Q I r q => h.run pins s σ H v u Q I r (m v σ H Q q)⟩
theorem eg_name {i : Nat} (hN : X.N.Nodup) (hi : X.N[i]? = some x) (hx : Loc X.env.scope x) (hw : W.contains i = false := by rfl) (hf : X.fn x = true ∨ X.env.scope.names.lookup x = some .local := by first | exact .inl rfl | exact .inr rfl | assumption) : PG X (.Name x pos) (tTg G Z W [i] (gNm i)) :=
  imp_pg (pg_name hN hi hx hf) fun v σ H Q ⟨B, O, ρ, d, ρ', eo, hr, ht, q⟩ => by
    cases ht
    exact q _ (eo.set (by simpa using hw) hr) ⟨by simp, fun j hj => List.getElem?_set_ne fun z => hj (by simp [z])⟩
theorem egs_nil : PGs X [] (tTgs G Z W [] gN0) := imp_pgs pgs_nil fun v σ H Q ⟨B, O, ρ, d, ρ', eo, hr, ht, q⟩ => by
  unfold gN0 at ht
  split at ht
  · cases ht
    simp only [Reps] at hr
    exact ⟨hr, q σ eo ⟨rfl, fun _ _ => rfl⟩⟩
  · cases ht
theorem egs_cons {t : Tg} {u : Tgs} {vs us : List Nat} (h1 : PG X e (tTg G Z W vs t)) (h2 : PGs X es (tTgs G Z W us u)) (hs : (assignEach (e :: es) X.env).map (·.2) = assign e X.env :: (assignEach es X.env).map (·.2) := by rfl) : PGs X (e :: es) (tTgs G Z W (vs ++ us) (gC t u)) :=
  imp_pgs (pgs_cons h1 h2 hs) fun v σ H Q ⟨B, O, ρ, d, ρ', eo, hr, ht, q⟩ => by
    unfold gC at ht
    split at ht
    · rename_i d ds
      simp only [Reps] at hr
      obtain ⟨w, r, rfl, hr1, hr2⟩ := hr
      cases e1 : t d ρ with
      | none => rw [e1] at ht; cases ht
      | some ρ1 =>
        rw [e1] at ht
        have ht : u ds ρ1 = some ρ' := ht
        refine ⟨w, r, rfl, B, O, ρ, d, ρ1, eo, hr1, e1, fun σ1 eo1 k1 => ⟨B, O, ρ1, ds, ρ', eo1, hr2, ht, fun σ2 eo2 k2 => q σ2 eo2 ⟨k2.1.trans k1.1, fun i hi => ?_⟩⟩⟩
        rw [k2.2 i fun z => hi (List.mem_append_right _ z), k1.2 i fun z => hi (List.mem_append_left _ z)]
    · cases ht
theorem eg_tup {k n : Nat} {u : Tgs} {vs : List Nat} (hc : X.calm = true) (h : PGs X es (tTgs G Z W vs u)) (hl : ∀ ds ρ ρ', u ds ρ = some ρ' → ds.length = n) (hK : X.K = G.K := by rfl)
    (hn : (assignEach es X.env).length = n := by rfl) (hst : (assignEach es X.env).findIdx? (·.1) = none := by rfl) : PG X (.Tuple es k pos) (tTg G Z W vs (gTp u)) :=
  imp_pg (pg_tup hc h hn hst) fun v σ H Q ⟨B, O, ρ, d, ρ', eo, hr, ht, q⟩ => by
    unfold gTp at ht
    split at ht
    · rename_i ds
      obtain ⟨a, xs, rfl, h1, h2⟩ := hr.sqT
      refine ⟨a, xs, rfl, by rw [hK]; exact h1, by rw [h2.len]; exact hl _ _ _ ht, B, O, ρ, ds, ρ', eo, h2, ht, q⟩
    · cases ht
theorem gl0 {ds : List D} {ρ ρ' : Rho} (h : gN0 ds ρ = some ρ') : ds.length = 0 := by
  unfold gN0 at h
  split at h
  · rfl
  · cases h
theorem glC {t : Tg} {u : Tgs} {n : Nat} (hu : ∀ ds ρ ρ', u ds ρ = some ρ' → ds.length = n) {ds : List D} {ρ ρ' : Rho} (h : gC t u ds ρ = some ρ') : ds.length = n + 1 := by
  unfold gC at h
  split at h
  · rename_i d ds
    cases e1 : t d ρ with
    | none => rw [e1] at h; cases h
    | some ρ1 =>
      rw [e1] at h
      have := hu ds ρ1 ρ' h
      simp [this]
  · cases h
end
end Dl
set_option Elab.async false
set_option linter.all false
set_option maxRecDepth 100000
set_option maxHeartbeats 4000000
namespace Dl
open PySem PySem.Spec PyProof.Rows L2
/-! ### what is walked -/
def Wk (G : Kx) (B : Bar) (H1 : Hp) (J : It) (ds : List D) : Prop := ∃ (Gd : Hp → Prop) (Y : Nat → Hp → V → Hp → Prop), Walk J ds.length Gd Y ∧
  ∀ (B2 : Bar) (H2 : Hp), (∀ a o, H1 a = some o → ¬ B a → H2 a = some o ∧ ¬ B2 a) → (∀ a, B2 a → H2 a ≠ none) → Gd H2 ∧ ∀ i d x H3, ds[i]? = some d → Y i H2 x H3 → Same H2 H3 ∧ Rep G B2 H3 d x
def tIt {S : Type} (G : Kx) (Z : Zk S) (W : List Nat) (f : Ea S) : TI := fun σ H R =>
  ∃ (B O : Bar) (ρ : Rho) (s : S) (d : List D) (s' : S), Eo G Z W B O H σ ρ ∧ Z.R H s ∧ f ρ s = some (d, s') ∧
    ∀ J H', Lc.Fr Z.M H H' → Wk G (fun a => B a ∨ O a) H' J d → Z.R H' s' → R J H'
theorem imp_pi {X : Cx} {tg e : Expr} {t t' : TI} (h : PI X tg e t) (m : ∀ σ H Q, t' σ H Q → t σ H Q) : PI X tg e t' := ⟨fun pins s σ H Q I q => h.run pins s σ H Q I (m σ H Q q)⟩
section
variable {S : Type} {X : Cx} {G : Kx} {Z : Zk S} {W : List Nat} {f g : Ev S} {F F' : Sv S} {a b c e tg : Expr} {es : List Expr} {st : Stmt} {rest : List Stmt} {pos p : Pos} {x : Str}
theorem es_for {iter : Expr} {body : List Stmt} {fi : Ea S} {t : Tg} {vs : List Nat} (hp : PassesOwn (model X.prog X.w) X.A X.env X.xe) (hc : X.calm = true) (hi : PI X tg iter (tIt G Z W fi)) (hg : PG X tg (tTg G Z W vs t)) (hb : PSs X body (tSt G Z W F))
    (hs : ∀ x, foldedSetIterable iter X.env x = pure x := by intro _; rfl) : PS X (.For tg iter body [] pos) (tSt G Z W (sFor fi t F)) :=
  imp_ps (ps_for hp hc hi hg hb hs) fun E σ H ⟨B, H0, O, ρ, s, r, s', sr, hf, q⟩ => by
    unfold sFor at hf
    obtain ⟨ds, s1, h1, hf⟩ := bnd_some hf
    refine ⟨B, O, ρ, s, ds, s1, sr.eo, sr.r, h1, fun J H1 f1 wk R1 => ?_⟩
    obtain ⟨Gd, Y, w, k⟩ := wk
    have sr1 := sr.step f1 R1
    have stay : ∀ {O2 : Bar} {H2 : Hp}, Ch Z O O2 H1 H2 → ∀ a o, H1 a = some o → ¬ (B a ∨ O a) → H2 a = some o ∧ ¬ (B a ∨ O2 a) := fun ch a o e n =>
      ⟨ch.fr.at e fun z => n (z.elim (fun z => .inl (sr.mb a z)) .inr), fun z => n (z.elim .inl fun z => (ch.nw a z).elim .inr fun z => by rw [e] at z; cases z)⟩
    have dom : ∀ {O2 : Bar} {H2 : Hp} {σ2 : L2.St} {ρ2 : Rho} {s2 : S}, Sr G Z W B H0 O2 H2 σ2 ρ2 s2 → ∀ a, (B a ∨ O2 a) → H2 a ≠ none := fun r a z => z.elim (r.eo.bd a) (r.eo.od a)
    refine for_it w (fun i σ2 H2 => ∃ O2 ρ2 s2, Sr G Z W B H0 O2 H2 σ2 ρ2 s2 ∧ Ch Z O O2 H1 H2 ∧ loopF t F (ds.drop i) ρ2 s2 = some (r, s')) ⟨O, ρ, s1, sr1, Ch.refl, hf⟩ ?_ ?_ ?_
    · rintro i σ2 H2 hi ⟨O2, ρ2, s2, sr2, ch, _⟩
      exact (k _ H2 (stay ch) (dom sr2)).1
    · rintro i x σ2 H2 H3 hi ⟨O2, ρ2, s2, sr2, ch, hl⟩ y
      have hd : ds[i]? = some ds[i] := by simp [hi]
      obtain ⟨sm, rp⟩ := (k _ H2 (stay ch) (dom sr2)).2 i ds[i] x H3 hd y
      rw [List.drop_eq_getElem_cons hi] at hl
      unfold loopF at hl
      split at hl
      · cases hl
      · rename_i ρ3 e1
        refine ⟨B, O2, ρ2, ds[i], ρ3, sr2.eo.fr (Lc.Fr.of sm), rp, e1, fun σ3 eo3 _ => ?_⟩
        have sr3 : Sr G Z W B H0 O2 H3 σ3 ρ3 s2 := ⟨eo3, sr2.fr.trans (Lc.Fr.of sm), sr2.b0, sr2.o0, Z.same sr2.r sm⟩
        have ch3 : Ch Z O O2 H1 H3 := ch.trans (Ch.of (Lc.Fr.of sm))
        split at hl
        · rename_i ρ4 s4 e4
          exact ⟨B, H0, O2, ρ3, s2, .nx ρ4, s4, sr3, e4, fun O5 σ5 H5 sr5 ch5 => ⟨O5, ρ4, s4, sr5, ch3.trans ch5, hl⟩⟩
        · rename_i ρ4 s4 e4
          exact ⟨B, H0, O2, ρ3, s2, .ct ρ4, s4, sr3, e4, fun O5 σ5 H5 sr5 ch5 => ⟨O5, ρ4, s4, sr5, ch3.trans ch5, hl⟩⟩
        · rename_i ρ4 s4 e4
          cases hl
          exact ⟨B, H0, O2, ρ3, s2, .bk ρ4, _, sr3, e4, fun O5 σ5 H5 sr5 ch5 => q O5 σ5 H5 sr5 ((Ch.of f1).trans (ch3.trans ch5))⟩
        · rename_i n1 n2 n3
          cases r with
          | rt d => exact ⟨B, H0, O2, ρ3, s2, .rt d, s', sr3, hl, q⟩
          | nx ρ4 => exact absurd hl (n1 ρ4 s')
          | ct ρ4 => exact absurd hl (n2 ρ4 s')
          | bk ρ4 => exact absurd hl (n3 ρ4 s')
    · rintro σ2 H2 ⟨O2, ρ2, s2, sr2, ch, hl⟩
      rw [List.drop_length] at hl
      cases hl
      exact q O2 σ2 H2 sr2 ((Ch.of f1).trans ch)
/-! what can be walked -/
def asL : D → Option (List D)
  | .list ds => some ds
  | _ => none
def asT : D → Option (List D)
  | .tuple ds => some ds
  | _ => none
/-- an iterable of an expression's value -/
def iOf (p : D → Option (List D)) (f : Ev S) : Ea S := fun ρ s => bnd (f ρ s) fun d s => put (p d) s
theorem wk_list {B : Bar} {H : Hp} {a : Addr} {vs : List V} {ds : List D} (hK : PySem.W.Frag) (h : H a = some (.lst vs)) (n : ¬ B a) (r : Reps G B H ds vs) : Wk G B H (Itl hK a) ds := by
  refine ⟨fun H => SqL hK H a vs, YAt vs, by rw [← r.len]; exact walk_list, fun B2 H2 st dm => ⟨.inl (.inl (st a _ h n).1), fun i d x H3 hd y => ?_⟩⟩
  obtain ⟨rfl, hx⟩ := y
  obtain ⟨v, h1, h2⟩ := (r.mv (B' := B2) (H' := H3) st).get hd
  rw [hx] at h1
  cases h1
  exact ⟨Same.refl _, h2⟩
theorem wk_tup {B : Bar} {H : Hp} {a : Addr} {vs : List V} {ds : List D} (h : (H a = some (.tup vs) ∧ ¬ B a) ∨ KT G.K a vs) (r : Reps G B H ds vs) : Wk G B H (Itt G.K a) ds := by
  refine ⟨fun H => SqT G.K H a vs, YAt vs, by rw [← r.len]; exact walk_tup, fun B2 H2 st dm => ⟨?_, fun i d x H3 hd y => ?_⟩⟩
  · rcases h with ⟨h, n⟩ | h
    · exact .inl (.inl (st a _ h n).1)
    · exact .inr h
  · obtain ⟨rfl, hx⟩ := y
    obtain ⟨v, h1, h2⟩ := (r.mv (B' := B2) (H' := H3) st).get hd
    rw [hx] at h1
    cases h1
    exact ⟨Same.refl _, h2⟩
theorem ei_list (he : PE X e (tEx G Z W f)) : PI X tg e (tIt G Z W (iOf asL f)) :=
  imp_pi (pi_list he) fun σ H Q ⟨B, O, ρ, s, d, s', eo, hR, hf, q⟩ => by
    unfold iOf at hf
    obtain ⟨y, s1, h1, hf⟩ := bnd_some hf
    obtain ⟨h3, rfl⟩ := put_some hf
    refine ⟨B, O, ρ, s, y, _, eo, hR, h1, fun v H1 f1 r1 R1 => ?_⟩
    unfold asL at h3
    split at h3
    · cases h3
      simp only [Rep] at r1
      obtain ⟨a, vs, rfl, h4, h5, h6⟩ := r1
      exact ⟨a, rfl, ⟨vs, .inl (.inl h4)⟩, q _ H1 f1 (wk_list _ h4 h5 h6) R1⟩
    · cases h3
theorem ei_tup (he : PE X e (tEx G Z W f)) (hK : X.K = G.K := by rfl) : PI X tg e (tIt G Z W (iOf asT f)) :=
  imp_pi (pi_tup he) fun σ H Q ⟨B, O, ρ, s, d, s', eo, hR, hf, q⟩ => by
    unfold iOf at hf
    obtain ⟨y, s1, h1, hf⟩ := bnd_some hf
    obtain ⟨h3, rfl⟩ := put_some hf
    refine ⟨B, O, ρ, s, y, _, eo, hR, h1, fun v H1 f1 r1 R1 => ?_⟩
    unfold asT at h3
    split at h3
    · cases h3
      obtain ⟨a0, vs0, e0, hT, _⟩ := r1.sqT
      simp only [Rep] at r1
      obtain ⟨a, vs, rfl, h4, h6⟩ := r1
      cases e0
      rw [hK]
      exact ⟨_, rfl, ⟨vs0, hT⟩, q _ H1 f1 (wk_tup h4 h6) R1⟩
    · cases h3
def asS : D → Option (List D)
  | .str z => some (z.cps.toList.map fun c => .str ⟨#[c]⟩)
  | _ => none
def rngD (lo : Int) (n : Nat) : List D := (List.range n).map fun (i : Nat) => .int (lo + i)
theorem wk_range {B : Bar} {H : Hp} {lo : Int} {n : Nat} : Wk G B H (Itr lo n) (rngD lo n) := by
  refine ⟨fun _ => True, _, by simp only [rngD, List.length_map, List.length_range]; exact walk_range, fun B2 H2 st dm => ⟨trivial, fun i d x H3 hd y => ?_⟩⟩
  obtain ⟨rfl, rfl⟩ := y
  simp only [rngD, List.getElem?_map] at hd
  by_cases hi : i < n
  · rw [List.getElem?_range hi] at hd
    cases hd
    exact ⟨Same.refl _, by simp only [Rep]⟩
  · rw [List.getElem?_eq_none (by simpa using hi)] at hd
    cases hd
def pR1 : List D → Option (List D)
  | [.int j] => if -(2 ^ 62) ≤ j ∧ j < 2 ^ 62 then some (rngD 0 j.toNat) else none
  | _ => none
def iOfA (p : List D → Option (List D)) (f : Ea S) : Ea S := fun ρ s => bnd (f ρ s) fun d s => put (p d) s
theorem ei_range1 {fa : Ea S} (h : PI X tg (.Call (.Name "range" p) [a] [] pos) (iRng1 (tEa G Z W fa))) : PI X tg (.Call (.Name "range" p) [a] [] pos) (tIt G Z W (iOfA pR1 fa)) :=
  imp_pi h fun σ H Q ⟨B, O, ρ, s, d, s', eo, hR, hf, q⟩ => by
    unfold iOfA at hf
    obtain ⟨y, s1, h1, hf⟩ := bnd_some hf
    obtain ⟨h3, rfl⟩ := put_some hf
    refine ⟨B, O, ρ, s, y, _, eo, hR, h1, fun v H1 f1 r1 R1 => ?_⟩
    unfold pR1 at h3
    split at h3
    · split at h3
      · rename_i j hj
        cases h3
        simp only [Reps, Rep] at r1
        obtain ⟨v, r, rfl, rfl, rfl⟩ := r1
        exact ⟨j, rfl, hj.1, hj.2, q _ H1 f1 wk_range R1⟩
      · cases h3
    · cases h3
/-! list comprehensions -/
def wipeR (ρ : Rho) : List Nat → Rho
  | [] => ρ
  | v :: vs => (wipeR ρ vs).set v none
def compF (t : Tg) (q : Et S) (f : Ev S) (ρ : Rho) : List D → S → Option (List D × S)
  | [], s => some ([], s)
  | d :: ds, s => match t d ρ with
    | none => none
    | some ρ1 => bnd (q ρ1 s) fun b s => if b = true then bnd (f ρ1 s) fun y s => bnd (compF t q f ρ ds s) fun ys s => some (y :: ys, s) else compF t q f ρ ds s
def lcF (fi : Ea S) (t : Tg) (q : Et S) (f : Ev S) (vs : List Nat) : Ea S := fun ρ s => bnd (fi ρ s) fun ds s => if ds.length ≤ sizeLine then compF t q f (wipeR ρ vs) ds s else none
def qYes : Et S := fun _ s => some (true, s)
theorem wipe_get {σ : L2.St} {i : Nat} : ∀ {vs : List Nat}, i ∉ vs → (wipe σ vs)[i]? = σ[i]?
  | [], _ => rfl
  | v :: vs, h => by
    unfold wipe
    rw [List.getElem?_set_ne fun z => h (by simp [z]), wipe_get fun z => h (List.mem_cons_of_mem _ z)]
theorem wipeR_get {ρ : Rho} {i : Nat} {d : D} : ∀ {vs : List Nat}, (wipeR ρ vs)[i]? = some (some d) → ρ[i]? = some (some d) ∧ i ∉ vs
  | [], h => ⟨h, by simp⟩
  | v :: vs, h => by
    unfold wipeR at h
    by_cases hi : v = i
    · subst hi
      rw [List.getElem?_set] at h
      simp only [if_true] at h
      split at h <;> cases h
    · rw [List.getElem?_set_ne hi] at h
      obtain ⟨h1, h2⟩ := wipeR_get h
      exact ⟨h1, fun z => (List.mem_cons.mp z).elim (fun z => hi z.symm) h2⟩
theorem wipeR_len {ρ : Rho} : ∀ {vs : List Nat}, (wipeR ρ vs).length = ρ.length
  | [] => rfl
  | v :: vs => by unfold wipeR; rw [List.length_set, wipeR_len]
theorem wipe_none {σ : L2.St} {i : Nat} : ∀ {vs : List Nat}, i ∈ vs → i < σ.length → (wipe σ vs)[i]? = some none
  | v :: vs, h, hl => by
    unfold wipe
    by_cases hi : v = i
    · subst hi
      rw [List.getElem?_set_self (by rw [wipe_length]; exact hl)]
    · rw [List.getElem?_set_ne hi]
      exact wipe_none ((List.mem_cons.mp h).elim (fun z => absurd z.symm hi) id) hl
theorem Eo.wipe {B O : Bar} {H : Hp} {σ : L2.St} {ρ : Rho} (e : Eo G Z W B O H σ ρ) (vs : List Nat) : Eo G Z W B O H (L2.wipe σ vs) (wipeR ρ vs) where
  er := by
    refine ⟨by rw [wipe_length, wipeR_len]; exact e.er.len, fun i d hi hd => ?_, ?_⟩
    · obtain ⟨h1, h2⟩ := wipeR_get hd
      rw [wipe_get h2]
      exact e.er.pl i d hi h1
    · obtain ⟨om, h1, h2⟩ := e.er.ow
      refine ⟨om, fun i j d d' hi hj hd hd' => h1 i j d d' hi hj (wipeR_get hd).1 (wipeR_get hd').1, fun i d hi hd => ?_⟩
      obtain ⟨h3, h4⟩ := wipeR_get hd
      rw [wipe_get h4]
      exact h2 i d hi h3
  bd := e.bd
  ol := e.ol
  mb := e.mb
  ob := e.ob
theorem wipe_ext {σ σ2 : L2.St} {us vs : List Nat} (hv : ∀ i ∈ us, i ∈ vs) (hl : σ2.length = σ.length) (k : ∀ i, i ∉ us → σ2[i]? = (wipe σ vs)[i]?) : wipe σ2 vs = wipe σ vs := by
  apply List.ext_getElem?
  intro i
  by_cases hi : i ∈ vs
  · by_cases hl2 : i < σ.length
    · rw [wipe_none hi (by omega), wipe_none hi hl2]
    · rw [List.getElem?_eq_none (by rw [wipe_length]; omega), List.getElem?_eq_none (by rw [wipe_length]; omega)]
  · rw [wipe_get hi, k i fun z => hi (hv i z)]
theorem Eo.bar {B O : Bar} {H : Hp} {σ : L2.St} {ρ : Rho} (e : Eo G Z W B O H σ ρ) {L : Addr} (h : H L = none) (o : HO) : Eo G Z W (fun a => B a ∨ a = L) O (upd H L o) σ ρ := by
  have k : ∀ a u, H a = some u → ¬ (B a ∨ O a) → upd H L o a = some u ∧ ¬ ((B a ∨ a = L) ∨ O a) := fun a u q n => by
    have ne : a ≠ L := ne_of_none q h
    exact ⟨by rw [upd_ne ne]; exact q, fun z => n (z.elim (fun z => z.elim .inl fun z => absurd z ne) .inr)⟩
  refine ⟨⟨e.er.len, fun i d hi hd => ?_, ?_⟩, fun a z => ?_, fun a z => ?_, fun a z => .inl (e.mb a z), fun a z y => ?_⟩
  · obtain ⟨v, h1, h2⟩ := e.er.pl i d hi hd
    exact ⟨v, h1, h2.mv k⟩
  · obtain ⟨om, h1, h2⟩ := e.er.ow
    refine ⟨om, h1, fun i d hi hd => ?_⟩
    obtain ⟨ds, vs, a1, a2, a3, a4, a5⟩ := h2 i d hi hd
    exact ⟨ds, vs, a1, a2, a3, by rw [upd_ne (ne_of_none a4 h)]; exact a4, a5.mv k⟩
  · rcases z with z | rfl
    · by_cases hq : a = L
      · subst hq; rw [upd_same]; simp
      · rw [upd_ne hq]; exact e.bd a z
    · rw [upd_same]; simp
  · obtain ⟨vs, hv⟩ := e.ol a z
    exact ⟨vs, by rw [upd_ne (ne_of_none hv h)]; exact hv⟩
  · rcases y with y | rfl
    · exact e.ob a z y
    · exact e.od a z h
theorem Eo.upd {B O : Bar} {H : Hp} {σ : L2.St} {ρ : Rho} (e : Eo G Z W B O H σ ρ) {L : Addr} (h : B L) (o : HO) : Eo G Z W B O (upd H L o) σ ρ := by
  have k : ∀ a u, H a = some u → ¬ (B a ∨ O a) → L2.upd H L o a = some u ∧ ¬ (B a ∨ O a) := fun a u q n => ⟨by rw [upd_ne fun z => n (.inl (by rw [z]; exact h))]; exact q, n⟩
  have nO : ∀ a, O a → a ≠ L := fun a z y => e.ob a z (by rw [y]; exact h)
  refine ⟨⟨e.er.len, fun i d hi hd => ?_, ?_⟩, fun a z => ?_, fun a z => ?_, e.mb, e.ob⟩
  · obtain ⟨v, h1, h2⟩ := e.er.pl i d hi hd
    exact ⟨v, h1, h2.mv k⟩
  · obtain ⟨om, h1, h2⟩ := e.er.ow
    refine ⟨om, h1, fun i d hi hd => ?_⟩
    obtain ⟨ds, vs, a1, a2, a3, a4, a5⟩ := h2 i d hi hd
    exact ⟨ds, vs, a1, a2, a3, by rw [upd_ne (nO _ a3)]; exact a4, a5.mv k⟩
  · by_cases hq : a = L
    · subst hq; rw [upd_same]; simp
    · rw [upd_ne hq]; exact e.bd a z
  · obtain ⟨vs, hv⟩ := e.ol a z
    exact ⟨vs, by rw [upd_ne (nO a z)]; exact hv⟩
/-- the core: a comprehension makes a new list -/
theorem lc_new {fi : Ea S} {t : Tg} {us vs : List Nat} {q : Et S} {tt : TT} {B O : Bar} {ρ : Rho} {s s' : S} {ds : List D} {σ : L2.St} {H : Hp} {Q : VK} (hu : ∀ i ∈ us, i ∈ vs) (hq : ∀ σ H Q, tEt G Z W q σ H Q → tt σ H Q) (eo : Eo G Z W B O H σ ρ) (hR : Z.R H s) (hf : lcF fi t q f vs ρ s = some (ds, s'))
    (h : ∀ p vs H', H p = none → Lc.Fr Z.M H H' → H' p = some (.lst vs) → Reps G (fun a => (B a ∨ a = p) ∨ O a) H' ds vs → Z.R H' s' → Q (.ref p) H') :
    tLc (tIt G Z W fi) (tTg G Z W us t) tt (tEx G Z W f) vs σ H Q := by
  unfold lcF at hf
  obtain ⟨xs, s1, h1, hf⟩ := bnd_some hf
  split at hf
  · rename_i hsz
    refine ⟨B, O, ρ, s, xs, s1, eo, hR, h1, fun J H1 f1 wk R1 => fun L hL => ?_⟩
    obtain ⟨Gd, Y, w, k⟩ := wk
    have eo1 := eo.fr f1
    have nL : ¬ (B L ∨ O L) := eo1.new hL
    have nM : ¬ Z.M L := fun z => nL (.inl (eo.mb L z))
    have hL0 : H L = none := f1.free hL
    have dm : ∀ {H2 : Hp}, Eo G Z W (fun a => B a ∨ a = L) O H2 σ ρ → ∀ a, ((B a ∨ a = L) ∨ O a) → H2 a ≠ none := fun e2 a z => z.elim (e2.bd a) (e2.od a)
    have st : ∀ {H2 : Hp}, Lc.Fr Z.M H1 H2 → ∀ a o, H1 a = some o → ¬ (B a ∨ O a) → H2 a = some o ∧ ¬ ((B a ∨ a = L) ∨ O a) := fun f2 a o e n =>
      ⟨f2.at e fun z => n (.inl (eo.mb a z)), fun z => n (z.elim (fun z => z.elim .inl fun z => absurd z (ne_of_none e hL)) .inr)⟩
    refine lc_it w (fun i H2 => ∃ acc as rest s2, Eo G Z W (fun a => B a ∨ a = L) O H2 σ ρ ∧ Lc.Fr Z.M H1 H2 ∧ H2 L = some (.lst as) ∧ Reps G (fun a => (B a ∨ a = L) ∨ O a) H2 acc as ∧ acc.length ≤ i ∧ Z.R H2 s2 ∧ compF t q f (wipeR ρ vs) (xs.drop i) s2 = some (rest, s') ∧ acc ++ rest = ds) ?_ ?_ ?_ ?_
    · exact ⟨[], [], ds, s1, eo1.bar hL _, Lc.Fr.new hL, upd_same, Reps.nil, Nat.le_refl _, Z.same R1 (Lc.same_new hL), hf, rfl⟩
    · rintro i H2 hi ⟨acc, as, rest, s2, eo2, f2, _⟩
      exact (k _ H2 (st f2) (dm eo2)).1
    · rintro i x H2 H3 hi ⟨acc, as, rest, s2, eo2, f2, hLs, ra, hn, R2, hc, hds⟩ y
      have hd : xs[i]? = some xs[i] := by simp [hi]
      obtain ⟨sm, rp⟩ := (k _ H2 (st f2) (dm eo2)).2 i xs[i] x H3 hd y
      rw [List.drop_eq_getElem_cons hi] at hc
      unfold compF at hc
      split at hc
      · cases hc
      · rename_i ρ3 e1
        have eo3 := (eo2.fr (Lc.Fr.of sm)).wipe vs
        refine ⟨_, O, wipeR ρ vs, xs[i], ρ3, eo3, rp, e1, fun σ3 eo4 kk => ⟨wipe_ext hu (by rw [kk.1, wipe_length]) kk.2, ?_⟩⟩
        obtain ⟨b, s3, h3, hc⟩ := bnd_some hc
        refine hq _ _ _ ⟨_, O, ρ3, s2, b, s3, eo4, Z.same R2 sm, h3, fun H4 f4 R4 => ?_⟩
        have f24 : Lc.Fr Z.M H2 H4 := (Lc.Fr.of sm).trans f4
        have mb : ∀ a, Z.M a → (B a ∨ a = L) ∨ O a := fun a z => .inl (.inl (eo.mb a z))
        have hL4 : H4 L = some (.lst as) := f24.at hLs nM
        cases b with
        | false =>
          rw [if_neg (by simp)] at hc
          refine iteF ?_
          exact ⟨acc, as, rest, s3, eo2.fr f24, f2.trans f24, hL4, ra.fr f24 mb, by omega, R4, hc, hds⟩
        | true =>
          rw [if_pos rfl] at hc
          refine iteT ?_
          obtain ⟨y1, s4, h4, hc⟩ := bnd_some hc
          obtain ⟨ys, s5, h5, hc⟩ := bnd_some hc
          cases hc
          refine ⟨_, O, ρ3, s3, y1, s4, eo4.fr f4, R4, h4, fun u H5 f5 r5 R5 => ?_⟩
          have f25 := f24.trans f5
          have hL5 : H5 L = some (.lst as) := f25.at hLs nM
          have ra5 := ra.fr f25 mb
          refine ⟨as, hL5, by have := ra.len; omega, ?_⟩
          have up : ∀ a o, H5 a = some o → ¬ ((B a ∨ a = L) ∨ O a) → L2.upd H5 L (.lst (as ++ [u])) a = some o ∧ ¬ ((B a ∨ a = L) ∨ O a) := fun a o e n => ⟨by rw [upd_ne fun z => n (.inl (.inr z))]; exact e, n⟩
          refine ⟨acc ++ [y1], as ++ [u], ys, s4, (eo2.fr f25).upd (.inr rfl) _, Lc.Fr.own (f2.trans f25) hL, upd_same, (ra5.append (Reps.cons r5 Reps.nil)).mv up, by simp; omega, Z.loc H5 _ s4 R5 fun a z => upd_ne fun e => nM (by rw [← e]; exact z), h5, by simpa using hds⟩
    · rintro H2 ⟨acc, as, rest, s2, eo2, f2, hLs, ra, hn, R2, hc, hds⟩
      rw [List.drop_length] at hc
      cases hc
      rw [List.append_nil] at hds
      subst hds
      exact h L as H2 hL0 (f1.trans f2) hLs ra R2
  · cases hf
end
end Dl
set_option Elab.async false
set_option linter.all false
set_option maxRecDepth 100000
set_option maxHeartbeats 4000000
namespace Dl
open PySem PySem.Spec PyProof.Rows L2
/-! ### new lists, and slots that own them -/
/-- a reading whose value is a new list -/
def tNl {S : Type} (G : Kx) (Z : Zk S) (W : List Nat) (f : Ea S) : TE := fun σ H Q =>
  ∃ (B O : Bar) (ρ : Rho) (s : S) (d : List D) (s' : S), Eo G Z W B O H σ ρ ∧ Z.R H s ∧ f ρ s = some (d, s') ∧
    ∀ p vs H', H p = none → Lc.Fr Z.M H H' → H' p = some (.lst vs) → Reps G (fun a => (B a ∨ a = p) ∨ O a) H' d vs → Z.R H' s' → Q (.ref p) H'
def cNl {S : Type} (f : Ea S) : Ev S := fun ρ s => bnd (f ρ s) fun ds s => some (.list ds, s)
section
variable {S : Type} {X : Cx} {G : Kx} {Z : Zk S} {W : List Nat} {f g : Ev S} {fa : Ea S} {F F' : Sv S} {a b c e tg : Expr} {es : List Expr} {st : Stmt} {rest : List Stmt} {pos p : Pos} {x : Str}
theorem ex_nl (h : PE X e (tNl G Z W fa)) : PE X e (tEx G Z W (cNl fa)) :=
  imp_pe h fun σ H Q ⟨B, O, ρ, s, d, s', eo, hR, hf, q⟩ => by
    unfold cNl at hf
    obtain ⟨y, s1, h1, hf⟩ := bnd_some hf
    cases hf
    refine ⟨B, O, ρ, s, y, _, eo, hR, h1, fun p vs H' hp f1 h2 h3 R1 => q _ H' f1 ?_ R1⟩
    simp only [Rep]
    exact ⟨p, vs, rfl, h2, eo.new hp, h3.sub fun a z _ => z.elim (fun z => .inl (.inl z)) .inr⟩
theorem nl_lc {iter : Expr} {ifs : List Expr} {scope : Scope} {own : List (Str × Nat)} {fi : Ea S} {t : Tg} {us : List Nat} {q : Et S} {tt : TT} (hc : X.calm = true) (hN : X.N.Nodup) (hi : PI X tg iter (tIt G Z W fi)) (ok : BlkOk X.N X.env.scope scope own)
    (hg : ∀ (s : Shared) (H : Hp) (C : Addr) (cl : List (Str × Addr)) (fp : List Addr), PG (X.blk s H scope (compEnvC scope cl C X.env) fp) tg (tTg G Z W us t)) (ht : ∀ (s : Shared) (H : Hp) (C : Addr) (cl : List (Str × Addr)) (fp : List Addr), PTs (X.blk s H scope (compEnvC scope cl C X.env) fp) ifs tt)
    (hq : ∀ σ H Q, tEt G Z W q σ H Q → tt σ H Q)
    (he : ∀ (s : Shared) (H : Hp) (C : Addr) (cl : List (Str × Addr)) (fp : List Addr), PE (X.blk s H scope (compEnvC scope cl C X.env) fp) e (tEx G Z W f)) (hu : ∀ i ∈ us, i ∈ own.map (·.2) := by decide) (hs : ∀ x, foldedSetIterable iter X.env x = pure x := by intro _; rfl) :
    PE X (.ListComp e [⟨tg, iter, ifs, 0⟩] scope pos) (tNl G Z W (lcF fi t q f (own.map (·.2)))) :=
  imp_pe (pe_lc hc hN hi ok hg ht he hs) fun σ H Q ⟨B, O, ρ, s, d, s', eo, hR, hf, k⟩ => lc_new hu hq eo hR hf k
theorem yes_of {σ : L2.St} {H : Hp} {Q : Bool → Hp → Prop} (h : tEt G Z W qYes σ H Q) : tYes σ H Q := by
  obtain ⟨B, O, ρ, s, d, s', eo, hR, hf, q⟩ := h
  cases hf
  exact q H (Lc.Fr.refl H) hR
/-- an own slot is set to a new list -/
theorem Sr.own {B O : Bar} {H0 H H' : Hp} {σ : L2.St} {ρ : Rho} {s s' : S} {P : Addr} {vs : List V} {ds : List D} {i : Nat} (sr : Sr G Z W B H0 O H σ ρ s) (hi : i ∈ W) (hp : H P = none) (f1 : Lc.Fr Z.M H H') (h1 : H' P = some (.lst vs))
    (h2 : Reps G (fun a => (B a ∨ a = P) ∨ O a) H' ds vs) (R1 : Z.R H' s') : Sr G Z W B H0 (fun a => O a ∨ a = P) H' (σ.set i (some (.ref P))) (ρ.set i (some (.list ds))) s' ∧ Ch Z O (fun a => O a ∨ a = P) H H' := by
  have eo1 := sr.eo.fr f1
  have nB : ¬ B P := fun z => sr.eo.bd P z hp
  have k : ∀ a o, H a = some o → ¬ (B a ∨ O a) → H' a = some o ∧ ¬ (B a ∨ (O a ∨ a = P)) := fun a o e n =>
    ⟨f1.at e fun z => n (.inl (sr.mb a z)), fun z => n (z.elim .inl fun z => z.elim .inr fun z => absurd z (ne_of_none e hp))⟩
  obtain ⟨om, o1, o2⟩ := sr.eo.er.ow
  refine ⟨⟨⟨?_, eo1.bd, fun a z => ?_, sr.mb, fun a z => ?_⟩, sr.fr.trans f1, sr.b0, fun a z => ?_, R1⟩, ⟨fun b o e => ?_, fun _ z => .inl z, fun a z => ?_⟩⟩
  · have base : Er G W B (fun a => O a ∨ a = P) H' (σ.set i (some (.ref P))) (ρ.set i (some (.list ds))) := by
      have e' : Er G W B O H' σ ρ := eo1.er
      -- the old slots, by what they were in H
      refine ⟨by simp [e'.len], fun j d hj hd => ?_, ?_⟩
      · have ne : i ≠ j := fun z => hj (z ▸ hi)
        rw [List.getElem?_set_ne ne] at hd
        obtain ⟨v, h3, h4⟩ := sr.eo.er.pl j d hj hd
        exact ⟨v, by rw [List.getElem?_set_ne ne]; exact h3, h4.mv k⟩
      · have at_ : ∀ j d, (ρ.set i (some (.list ds)))[j]? = some (some d) → (j = i ∧ i < ρ.length ∧ d = .list ds) ∨ (j ≠ i ∧ ρ[j]? = some (some d)) := fun j d hd => by
          by_cases hij : i = j
          · subst hij
            rw [List.getElem?_set] at hd
            simp only [if_true] at hd
            split at hd
            · cases hd
              exact .inl ⟨rfl, by assumption, rfl⟩
            · cases hd
          · rw [List.getElem?_set_ne hij] at hd
            exact .inr ⟨Ne.symm hij, hd⟩
        have old : ∀ j d, j ∈ W → ρ[j]? = some (some d) → om j ≠ P := fun j d hj hd z => by
          obtain ⟨ds', vs', a1, a2, a3, a4, a5⟩ := o2 j d hj hd
          rw [z, hp] at a4
          cases a4
        refine ⟨fun j => if j = i then P else om j, fun j m d d' hj hm hd hd' hh => ?_, fun j d hj hd => ?_⟩
        · rcases at_ j d hd with ⟨z1, z2, z3⟩ | ⟨z1, z2⟩
          · rcases at_ m d' hd' with ⟨y1, y2, y3⟩ | ⟨y1, y2⟩
            · rw [z1, y1]
            · simp only [if_pos z1, if_neg y1] at hh
              exact absurd hh.symm (old m d' hm y2)
          · rcases at_ m d' hd' with ⟨y1, y2, y3⟩ | ⟨y1, y2⟩
            · simp only [if_neg z1, if_pos y1] at hh
              exact absurd hh (old j d hj z2)
            · simp only [if_neg z1, if_neg y1] at hh
              exact o1 j m d d' hj hm z2 y2 hh
        · rcases at_ j d hd with ⟨rfl, z2, rfl⟩ | ⟨z1, z2⟩
          · simp only [if_true]
            refine ⟨ds, vs, rfl, ?_, (by first | exact .inr rfl | exact .inr trivial), h1, h2.sub fun a z _ => z.elim (fun z => .inl (.inl z)) fun z => z.elim .inr fun z => .inl (.inr z)⟩
            rw [List.getElem?_set_self (by rw [e'.len]; exact z2)]
          · simp only [if_neg z1]
            obtain ⟨ds', vs', a1, a2, a3, a4, a5⟩ := o2 j d hj z2
            exact ⟨ds', vs', a1, by rw [List.getElem?_set_ne (Ne.symm z1)]; exact a2, .inl a3, f1.at a4 fun z => sr.eo.ob _ a3 (sr.mb _ z), a5.mv k⟩
    exact base
  · rcases z with z | rfl
    · exact eo1.ol a z
    · exact ⟨vs, h1⟩
  · rcases z with z | rfl
    · exact sr.eo.ob a z
    · exact nB
  · rcases z with z | rfl
    · exact sr.o0 a z
    · exact sr.fr.free hp
  · obtain ⟨o', q1, q2⟩ := f1 b o e
    exact ⟨o', q1, fun n => q2 fun z => n (.inl z)⟩
  · rcases z with z | rfl
    · exact .inl z
    · exact .inr hp
def sOwn (i : Nat) (f : Ea S) : Sv S := fun ρ s => bnd (f ρ s) fun ds s => some (.nx (ρ.set i (some (.list ds))), s)
/-- the own list of slot i becomes another one -/
theorem Sr.mut {B O : Bar} {H0 H : Hp} {σ : L2.St} {ρ : Rho} {s : S} {i : Nat} {d : D} (sr : Sr G Z W B H0 O H σ ρ s) (hi : i ∈ W) (hd : ρ[i]? = some (some d)) : ∃ P ds vs, d = .list ds ∧ σ[i]? = some (some (.ref P)) ∧ H P = some (.lst vs) ∧ Reps G (fun a => B a ∨ O a) H ds vs ∧ O P ∧
    ∀ es us, Reps G (fun a => B a ∨ O a) H es us → Sr G Z W B H0 O (upd H P (.lst us)) σ (ρ.set i (some (.list es))) s ∧ Ch Z O O H (upd H P (.lst us)) := by
  obtain ⟨om, o1, o2⟩ := sr.eo.er.ow
  obtain ⟨ds, vs, a1, a2, a3, a4, a5⟩ := o2 i d hi hd
  refine ⟨om i, ds, vs, a1, a2, a4, a5, a3, fun es us hr => ?_⟩
  have k : ∀ a o, H a = some o → ¬ (B a ∨ O a) → upd H (om i) (.lst us) a = some o ∧ ¬ (B a ∨ O a) := fun a o e n => ⟨by rw [upd_ne fun z => n (.inr (by rw [z]; exact a3))]; exact e, n⟩
  have nM : ∀ a, Z.M a → a ≠ om i := fun a z y => sr.eo.ob _ a3 (sr.mb _ (by rw [← y]; exact z))
  have hl : i < ρ.length := by
    rcases Nat.lt_or_ge i ρ.length with h | h
    · exact h
    · rw [List.getElem?_eq_none h] at hd; cases hd
  refine ⟨⟨⟨⟨by simp [sr.eo.er.len], fun j d' hj hd' => ?_, om, ?_, ?_⟩, fun a z => ?_, fun a z => ?_, sr.mb, sr.eo.ob⟩, ?_, sr.b0, sr.o0, Z.loc H _ s sr.r fun a z => upd_ne (nM a z)⟩, ⟨Lc.Fr.mut (.inr a3), fun _ z => z, fun _ z => .inl z⟩⟩
  · have ne : i ≠ j := fun z => hj (z ▸ hi)
    rw [List.getElem?_set_ne ne] at hd'
    obtain ⟨v, h3, h4⟩ := sr.eo.er.pl j d' hj hd'
    exact ⟨v, h3, h4.mv k⟩
  · intro j m e1 e2 hj hm h1 h2 hh
    have g : ∀ j e, (ρ.set i (some (.list es)))[j]? = some (some e) → ∃ e', ρ[j]? = some (some e') := fun j e h => by
      by_cases hij : i = j
      · subst hij; exact ⟨d, hd⟩
      · rw [List.getElem?_set_ne hij] at h; exact ⟨e, h⟩
    obtain ⟨e1', h1⟩ := g j e1 h1
    obtain ⟨e2', h2⟩ := g m e2 h2
    exact o1 j m e1' e2' hj hm h1 h2 hh
  · intro j e hj h
    by_cases hij : i = j
    · subst hij
      rw [List.getElem?_set_self hl] at h
      cases h
      exact ⟨es, us, rfl, a2, a3, upd_same, hr.mv k⟩
    · rw [List.getElem?_set_ne hij] at h
      obtain ⟨ds', vs', b1, b2, b3, b4, b5⟩ := o2 j e hj h
      have ne : om j ≠ om i := fun z => hij (o1 j i e d hj hi h hd z).symm
      exact ⟨ds', vs', b1, b2, b3, by rw [upd_ne ne]; exact b4, b5.mv k⟩
  · by_cases hq : a = om i
    · subst hq; rw [upd_same]; simp
    · rw [upd_ne hq]; exact sr.eo.bd a z
  · by_cases hq : a = om i
    · subst hq; exact ⟨us, upd_same⟩
    · obtain ⟨ws, hw⟩ := sr.eo.ol a z
      exact ⟨ws, by rw [upd_ne hq]; exact hw⟩
  · exact Lc.Fr.own sr.fr (sr.o0 _ a3)
def sApp (i : Nat) (f : Ev S) : Sv S := fun ρ s => match ρ[i]? with
  | some (some (.list ds)) => bnd (f ρ s) fun d s => if ds.length < sizeLine then some (.nx (ρ.set i (some (.list (ds ++ [d])))), s) else none
  | _ => none
/-! ### a def -/
def startR (n : Nat) (ds : List D) : Rho := ds.map some ++ List.replicate (n - ds.length) none
/-- what a def computes: its body over n slots -/
def fnD (n : Nat) (F : Sv S) : Fn S := fun ds s => match F (startR n ds) s with
  | some (.rt d, s') => some (d, s')
  | some (.nx _, s') => some (.none, s')
  | _ => none
theorem eo_start {B : Bar} {H : Hp} {N : List Str} {vs : List V} {ds : List D} {n : Nat} (hn : N.length = n) (bd : ∀ a, B a → H a ≠ none) (mb : ∀ a, Z.M a → B a) (hr : Reps G B H ds vs) (hl : ds.length ≤ n) (hW : ∀ i ∈ W, ds.length ≤ i) : Eo G Z W B (fun _ => False) H (L2.start N vs) (startR n ds) where
  er := by
    have len := hr.len
    refine ⟨by unfold L2.start startR; simp [len, hn], fun i d hi hd => ?_, fun _ => 0, ?_, ?_⟩
    · unfold startR at hd
      by_cases h : i < ds.length
      · rw [List.getElem?_append_left (by simpa using h), List.getElem?_map] at hd
        cases hd' : ds[i]? with
        | none => rw [hd'] at hd; cases hd
        | some d' =>
          rw [hd'] at hd
          cases hd
          obtain ⟨v, h1, h2⟩ := hr.get hd'
          refine ⟨v, ?_, h2.sub fun a z _ => z.elim id False.elim⟩
          unfold L2.start
          rw [List.getElem?_append_left (by simpa [len] using h), List.getElem?_map, h1]
          rfl
      · rw [List.getElem?_append_right (by simpa using h), List.getElem?_replicate] at hd
        split at hd <;> cases hd
    · intro i j d e hi hj hd
      exfalso
      have := hW i hi
      unfold startR at hd
      rw [List.getElem?_append_right (by simpa using this), List.getElem?_replicate] at hd
      split at hd <;> cases hd
    · intro i d hi hd
      exfalso
      have := hW i hi
      unfold startR at hd
      rw [List.getElem?_append_right (by simpa using this), List.getElem?_replicate] at hd
      split at hd <;> cases hd
  bd := bd
  ol := fun _ z => z.elim
  mb := mb
  ob := fun _ z => z.elim
variable {P : Program} {w : World} {K : PySem.W.Frag} {mg : Str → Option Value} {base : Heap}
/-- THE RULE: a def whose body reads as F computes fnD F -/
theorem fn_ok {nm qual : Str} {st : Stmt} {fad : Addr} {fd : FuncData} {N ps : List Str} {k n m : Nat} (U : Fun K nm qual st fad fd) (sc : FnScope N ps (defScope st)) (hn : N.length = n) (hm : ps.length = m) (hmn : m ≤ n) (hW : ∀ i ∈ W, m ≤ i)
    (hb : ∀ (cdv : Value) (A : Around) (outer : List Env) (s : Shared) (H : Hp) (E : XK), Room k (A.deeper (envOfC qual (defScope st) s.heap.objs.size fad cdv)) → PSs (cxOf CX0 P w K mg base N qual (defScope st) fad cdv A outer s H E).nox (defBody st) (tSt G Z W F)) :
    FnOk P w K mg base CX0 (k + 1) fad fd ps (spD G Z m (fnD n F)) := by
  refine U.ok sc (fun vs H Q E h => ?_) (fun cdv A outer s H vs Q E hr h => ⟨_, hb cdv A outer s H E hr, ?_⟩)
  · obtain ⟨B, ds, s, d, s', h1, _, _, h2, _⟩ := h
    rw [h2.len, h1, hm]
  · obtain ⟨B, ds, s0, d, s', h1, bd, mb, h2, R0, hF, q⟩ := h
    have eo := eo_start (W := W) (Z := Z) (N := N) hn bd mb h2 (by omega) (by rw [h1]; exact hW)
    unfold fnD at hF
    have sr : Sr G Z W B H (fun _ => False) H (L2.start N vs) (startR n ds) s0 := ⟨eo, Lc.Fr.refl H, bd, fun _ z => z.elim, R0⟩
    split at hF
    · rename_i d' s1 e1
      cases hF
      exact ⟨B, H, fun _ => False, startR n ds, s0, .rt d, _, sr, e1, q⟩
    · rename_i ρ' s1 e1
      cases hF
      exact ⟨B, H, fun _ => False, startR n ds, s0, .nx ρ', _, sr, e1, fun O' σ' H' sr' _ => q .non H' sr'.fr (by simp only [Rep]) sr'.r⟩
    · cases hF
end
end Dl
set_option Elab.async false
set_option linter.all false
set_option maxRecDepth 100000
set_option maxHeartbeats 4000000
namespace Lc
open PySem PySem.Spec PyProof.Rows L2
/-! ### x == [], x != [], t == (), t != (), whatever the items are -/
section
variable {X : Cx}
theorem size_ne {xs : List V} {its : List Value} (r : Vals xs its) (h : xs ≠ []) : (its.toArray.size != (#[] : Array Value).size) = true := by
  have e := r.length
  have : xs.length ≠ 0 := fun z => h (List.length_eq_zero_iff.mp z)
  simp
  intro z
  rw [z] at e
  simp at e
  exact h e
def rEqNil (K : PySem.W.Frag) (neg : Bool) : R2 := fun x y H Q => ∃ a b xs, x = .ref a ∧ y = .ref b ∧ SqL K H a xs ∧ SqL K H b [] ∧ Q (.bl (xs.isEmpty != neg)) H
def rEqNilT (K : PySem.W.Frag) (neg : Bool) : R2 := fun x y H Q => ∃ a b xs, x = .ref a ∧ y = .ref b ∧ SqT K H a xs ∧ SqT K H b [] ∧ Q (.bl (xs.isEmpty != neg)) H
theorem op_eqNil (hu : X.A.units < cLine) : OpR X (compareOp .Eq) (rEqNil X.K false) := by
  intro pins s σ H x y v u Q I rx ry h
  obtain ⟨a, b, xs, rfl, rfl, ha, hb, q⟩ := h
  cases rx
  cases ry
  obtain ⟨its, r1, p1, _⟩ := I.list ha
  obtain ⟨its2, r2, p2, _⟩ := I.list hb
  cases r2
  by_cases hx : xs = []
  · subst hx
    cases r1
    exact SeqAt.eq_listAt (e := fun _ => true) p1.isList p2.isList rfl hu (fun j h1 _ => absurd h1 (by simp)) ⟨.bl true, H, I, rfl, q⟩
  · refine SeqAt.eq_list_lengthsAt p1.isList p2.isList (size_ne r1 hx) hu ⟨.bl false, H, I, rfl, ?_⟩
    cases xs with
    | nil => exact absurd rfl hx
    | cons _ _ => exact q
theorem op_neNil (hu : X.A.units < cLine) : OpR X (compareOp .NotEq) (rEqNil X.K true) := by
  intro pins s σ H x y v u Q I rx ry h
  obtain ⟨a, b, xs, rfl, rfl, ha, hb, q⟩ := h
  cases rx
  cases ry
  obtain ⟨its, r1, p1, _⟩ := I.list ha
  obtain ⟨its2, r2, p2, _⟩ := I.list hb
  cases r2
  by_cases hx : xs = []
  · subst hx
    cases r1
    exact SeqAt.RcNeAt.lists (e := fun _ => true) p1.isList p2.isList rfl hu (fun j h1 _ => absurd h1 (by simp)) _ _ _ _ ⟨.bl false, H, I, rfl, q⟩
  · refine SeqAt.RcNeAt.lists_lengths p1.isList p2.isList (size_ne r1 hx) hu _ _ _ _ ⟨.bl true, H, I, rfl, ?_⟩
    cases xs with
    | nil => exact absurd rfl hx
    | cons _ _ => exact q
theorem tup_empty {xs : List V} {its : List Value} (r : Vals xs its) : ((List.range (min its.toArray.size (#[] : Array Value).size)).all (fun _ => true) && its.toArray.size == (#[] : Array Value).size) = xs.isEmpty := by
  have e := r.length
  cases xs with
  | nil =>
    cases r
    rfl
  | cons a l =>
    cases r
    simp
theorem op_eqNilT (hu : X.A.units < cLine) : OpR X (compareOp .Eq) (rEqNilT X.K false) := by
  intro pins s σ H x y v u Q I rx ry h
  obtain ⟨a, b, xs, rfl, rfl, ha, hb, q⟩ := h
  cases rx
  cases ry
  obtain ⟨its, r1, p1, _⟩ := I.tuple ha
  obtain ⟨its2, r2, p2, _⟩ := I.tuple hb
  cases r2
  refine SeqAt.eq_tupleAt (e := fun _ => true) p1 p2 hu (fun j _ h2 => absurd h2 (by simp)) ?_
  rw [tup_empty r1]
  refine ⟨.bl xs.isEmpty, H, I, rfl, ?_⟩
  cases xs <;> exact q
theorem op_neNilT (hu : X.A.units < cLine) : OpR X (compareOp .NotEq) (rEqNilT X.K true) := by
  intro pins s σ H x y v u Q I rx ry h
  obtain ⟨a, b, xs, rfl, rfl, ha, hb, q⟩ := h
  cases rx
  cases ry
  obtain ⟨its, r1, p1, _⟩ := I.tuple ha
  obtain ⟨its2, r2, p2, _⟩ := I.tuple hb
  cases r2
  refine SeqAt.RcNeAt.tuples (e := fun _ => true) p1 p2 hu (fun j _ h2 => absurd h2 (by simp)) _ _ _ _ ?_
  rw [tup_empty r1]
  refine ⟨.bl (!xs.isEmpty), H, I, rfl, ?_⟩
  cases xs <;> exact q
end
end Lc
set_option Elab.async false
set_option linter.all false
set_option maxRecDepth 100000
set_option maxHeartbeats 4000000
namespace Dl
open PySem PySem.Spec PyProof.Rows L2
/-! ### operators on data -/
def orR (r1 r2 : R2) : R2 := fun x y H Q => r1 x y H Q ∨ r2 x y H Q
theorem or_op {X : Cx} {f : Value → Value → Sem Value} {r1 r2 : R2} (h1 : OpR X f r1) (h2 : OpR X f r2) : OpR X f (orR r1 r2) := fun pins s σ H x y v u Q I rx ry h => h.elim (h1 pins s σ H x y v u Q I rx ry) (h2 pins s σ H x y v u Q I rx ry)
def orC (r1 r2 : List V → Hp → VK → Prop) : List V → Hp → VK → Prop := fun x H Q => r1 x H Q ∨ r2 x H Q
theorem or_ca {X : Cx} {f : Value} {r1 r2 : List V → Hp → VK → Prop} (h1 : CallR X f r1) (h2 : CallR X f r2) : CallR X f (orC r1 r2) := fun pins s σ H x v Q I rx h => h.elim (h1 pins s σ H x v Q I rx) (h2 pins s σ H x v Q I rx)
def pAdd : D → D → Option D
  | .int i, .int j => some (.int (i + j))
  | .str a, .str b => if a.length + b.length ≤ sizeLine then some (.str (a ++ b)) else none
  | .list a, .list b => if a.length + b.length ≤ sizeLine then some (.list (a ++ b)) else none
  | .tuple a, .tuple b => if a.length + b.length ≤ sizeLine then some (.tuple (a ++ b)) else none
  | _, _ => none
abbrev rAddD (K : PySem.W.Frag) : R2 := orR (rI0 fun i j => .int (i + j)) (orR (fun x y H Q => ∃ i j, x = .str i ∧ y = .str j ∧ i.length + j.length ≤ sizeLine ∧ Q (.str (i ++ j)) H) (orR rCat (rCatA K)))
theorem od_add {X : Cx} : OpR X (binaryOp .Add) (rAddD X.K) := or_op op_add (or_op op_add_str (or_op op_cat op_catA))
theorem nb_of {B : Bar} {H : Hp} {p : Addr} (bd : ∀ a, B a → H a ≠ none) (hp : H p = none) : ¬ B p := fun z => bd p z hp
section
variable {G : Kx} {B : Bar} {H : Hp}
/-- a new list, a new tuple -/
theorem rep_lst {p : Addr} {vs : List V} {ds : List D} (bd : ∀ a, B a → H a ≠ none) (hp : H p = none) (h : Reps G B H ds vs) : Rep G B (upd H p (.lst vs)) (.list ds) (.ref p) := by
  simp only [Rep]
  exact ⟨p, vs, rfl, upd_same, nb_of bd hp, h.same (Lc.same_new hp)⟩
theorem rep_tup {p : Addr} {vs : List V} {ds : List D} (bd : ∀ a, B a → H a ≠ none) (hp : H p = none) (h : Reps G B H ds vs) : Rep G B (upd H p (.tup vs)) (.tuple ds) (.ref p) := by
  simp only [Rep]
  exact ⟨p, vs, rfl, .inl ⟨upd_same, nb_of bd hp⟩, h.same (Lc.same_new hp)⟩
theorem reps_nil_iff {vs : List V} (h : Reps G B H [] vs) : vs = [] := by simpa only [Reps] using h
theorem reps_ne {ds : List D} {vs : List V} (h : Reps G B H ds vs) : (vs = [] ↔ ds = []) := by
  have := h.len
  cases ds <;> cases vs <;> simp_all
end
theorem os_add {G : Kx} : OpS G (rAddD G.K) pAdd := by
  intro B H x y dx dy d Q bd hx hy hp q
  unfold pAdd at hp
  split at hp
  · cases hp
    simp only [Rep] at hx hy
    subst hx hy
    exact .inl ⟨_, _, rfl, rfl, q _ H (Same.refl H) (by simp only [Rep])⟩
  · split at hp
    · cases hp
      simp only [Rep] at hx hy
      subst hx hy
      exact .inr (.inl ⟨_, _, rfl, rfl, by assumption, q _ H (Same.refl H) (by simp only [Rep])⟩)
    · cases hp
  · split at hp
    · cases hp
      obtain ⟨a, us, rfl, h1, _, h2⟩ := hx.sqL
      obtain ⟨b, vs, rfl, h3, _, h4⟩ := hy.sqL
      exact .inr (.inr (.inl ⟨a, b, us, vs, rfl, rfl, h1, h3, by rw [h2.len, h4.len]; assumption, fun p hp => q _ _ (Lc.same_new hp) (rep_lst bd hp (h2.append h4))⟩))
    · cases hp
  · split at hp
    · cases hp
      rename_i as bs hsz
      obtain ⟨a, us, rfl, h1, h2⟩ := hx.sqT
      obtain ⟨b, vs, rfl, h3, h4⟩ := hy.sqT
      refine .inr (.inr (.inr ⟨a, b, us, vs, rfl, rfl, h1, h3, by rw [h2.len, h4.len]; assumption, fun e => ?_, fun _ e => ?_, fun _ _ p hp => q _ _ (Lc.same_new hp) (rep_tup bd hp (h2.append h4))⟩))
      · have : as = [] := (reps_ne h2).mp e
        subst this
        exact q _ H (Same.refl H) hy
      · have : bs = [] := (reps_ne h4).mp e
        subst this
        rw [List.append_nil] at q
        exact q _ H (Same.refl H) hx
    · cases hp
  · cases hp
/-- two dInts in -/
def pI (C : Int → Int → Bool) (g : Int → Int → D) : D → D → Option D
  | .int i, .int j => if C i j = true then some (g i j) else none
  | _, _ => none
theorem os_I {G : Kx} {C : Int → Int → Prop} {c : Int → Int → Bool} {g : Int → Int → V} {g' : Int → Int → D} (hc : ∀ i j, c i j = true → C i j) (hg : ∀ B H i j, Rep G B H (g' i j) (g i j)) : OpS G (rI C g) (pI c g') := by
  intro B H x y dx dy d Q bd hx hy hp q
  unfold pI at hp
  split at hp
  · split at hp
    · cases hp
      simp only [Rep] at hx hy
      subst hx hy
      exact ⟨_, _, rfl, rfl, hc _ _ (by assumption), q _ H (Same.refl H) (hg B H _ _)⟩
    · cases hp
  · cases hp
def pI0 (g : Int → Int → D) : D → D → Option D
  | .int i, .int j => some (g i j)
  | _, _ => none
theorem os_I0 {G : Kx} {g : Int → Int → V} {g' : Int → Int → D} (hg : ∀ B H i j, Rep G B H (g' i j) (g i j)) : OpS G (rI0 g) (pI0 g') := by
  intro B H x y dx dy d Q bd hx hy hp q
  unfold pI0 at hp
  split at hp
  · cases hp
    simp only [Rep] at hx hy
    subst hx hy
    exact ⟨_, _, rfl, rfl, q _ H (Same.refl H) (hg B H _ _)⟩
  · cases hp
def pSub : D → D → Option D := pI0 fun i j => .int (i - j)
theorem os_sub {G : Kx} : OpS G (rI0 fun i j => .int (i - j)) pSub := os_I0 fun B H i j => by simp only [Rep]
def pMod : D → D → Option D := pI (fun _ j => decide (0 < j)) fun i j => .int (i % j)
theorem os_mod {G : Kx} : OpS G (rI (fun _ j => 0 < j) fun i j => .int (i % j)) pMod := os_I (fun i j h => of_decide_eq_true h) fun B H i j => by simp only [Rep]
def pPow : D → D → Option D := pI (fun i j => decide (0 ≤ j ∧ j ≤ 1000000 ∧ i.natAbs < 2 ^ 64)) fun i j => .int (i ^ j.toNat)
/-! ### comparisons -/
def pEq : D → D → Option D
  | .int i, .int j => some (.bool (decide (i = j)))
  | .str i, .str j => some (.bool (decide (i = j)))
  | .bool i, .bool j => some (.bool (decide (i = j)))
  | .list a, .list [] => some (.bool a.isEmpty)
  | .tuple a, .tuple [] => some (.bool a.isEmpty)
  | x, y => if SeqAt.shaped x = true ∧ SeqAt.shaped y = true then some (.bool (PyData.eqv x y)) else none
def pNe (x y : D) : Option D := match pEq x y with
  | some (.bool b) => some (.bool (!b))
  | _ => none
abbrev rEqA (K : PySem.W.Frag) : R2 := orR rEq (orR (Lc.rEqNil K false) (orR (Lc.rEqNilT K false) (rEqD K)))
abbrev rNeA (K : PySem.W.Frag) : R2 := orR rNe (orR (Lc.rEqNil K true) (orR (Lc.rEqNilT K true) (rNeD K)))
theorem od_eq {X : Cx} (hu : X.A.units + 64 < cLine) : OpR X (compareOp .Eq) (rEqA X.K) := or_op op_eq (or_op (Lc.op_eqNil (by omega)) (or_op (Lc.op_eqNilT (by omega)) (op_eqD hu)))
theorem od_ne {X : Cx} (hu : X.A.units + 64 < cLine) : OpR X (compareOp .NotEq) (rNeA X.K) := or_op op_ne (or_op (Lc.op_neNil (by omega)) (or_op (Lc.op_neNilT (by omega)) (op_neD hu)))
theorem isEmpty_reps {G : Kx} {B : Bar} {H : Hp} {ds : List D} {vs : List V} (h : Reps G B H ds vs) : vs.isEmpty = ds.isEmpty := by
  have := h.len
  cases ds <;> cases vs <;> simp_all
theorem eq_core {G : Kx} {B : Bar} {H : Hp} {x y : V} {dx dy : D} {b : Bool} (hx : Rep G B H dx x) (hy : Rep G B H dy y) (hp : pEq dx dy = some (.bool b)) :
    (scal x y = true ∧ decide (x = y) = b) ∨ (∃ p q xs, x = .ref p ∧ y = .ref q ∧ SqL G.K H p xs ∧ SqL G.K H q [] ∧ xs.isEmpty = b) ∨ (∃ p q xs, x = .ref p ∧ y = .ref q ∧ SqT G.K H p xs ∧ SqT G.K H q [] ∧ xs.isEmpty = b) ∨
      (∃ d e, Dp G.K H x d ∧ Dp G.K H y e ∧ SeqAt.shaped d = true ∧ SeqAt.shaped e = true ∧ PyData.eqv d e = b) := by
  unfold pEq at hp
  split at hp
  · cases hp
    simp only [Rep] at hx hy
    subst hx hy
    exact .inl ⟨rfl, by simp only [V.int.injEq]⟩
  · cases hp
    simp only [Rep] at hx hy
    subst hx hy
    exact .inl ⟨rfl, by simp only [V.str.injEq]⟩
  · cases hp
    simp only [Rep] at hx hy
    subst hx hy
    exact .inl ⟨rfl, by simp only [V.bl.injEq]⟩
  · cases hp
    obtain ⟨p, xs, rfl, _, h1, h2⟩ := hx.sqL
    obtain ⟨q, ys, rfl, _, h3, h4⟩ := hy.sqL
    rw [reps_nil_iff h4] at h3
    exact .inr (.inl ⟨p, q, xs, rfl, rfl, h1, h3, isEmpty_reps h2⟩)
  · cases hp
    obtain ⟨p, xs, rfl, h1, h2⟩ := hx.sqT
    obtain ⟨q, ys, rfl, h3, h4⟩ := hy.sqT
    rw [reps_nil_iff h4] at h3
    exact .inr (.inr (.inl ⟨p, q, xs, rfl, rfl, h1, h3, isEmpty_reps h2⟩))
  · split at hp
    · rename_i h
      cases hp
      exact .inr (.inr (.inr ⟨_, _, hx.dp _ _ (SeqAt.canLay_of_shaped h.1), hy.dp _ _ (SeqAt.canLay_of_shaped h.2), h.1, h.2, rfl⟩))
    · cases hp
theorem pEq_bool {x y z : D} (h : pEq x y = some z) : ∃ k, z = .bool k := by
  unfold pEq at h
  split at h
  · cases h; exact ⟨_, rfl⟩
  · cases h; exact ⟨_, rfl⟩
  · cases h; exact ⟨_, rfl⟩
  · cases h; exact ⟨_, rfl⟩
  · cases h; exact ⟨_, rfl⟩
  · split at h
    · cases h; exact ⟨_, rfl⟩
    · cases h
theorem pNe_bool {x y z : D} (h : pNe x y = some z) : ∃ k, z = .bool k := by
  unfold pNe at h
  split at h
  · cases h; exact ⟨_, rfl⟩
  · cases h
theorem os_eq {G : Kx} : OpS G (rEqA G.K) pEq := by
  intro B H x y dx dy d Q bd hx hy hp q
  obtain ⟨b, rfl⟩ := pEq_bool hp
  have q := q (.bl b) H (Same.refl H) (by simp only [Rep])
  rcases eq_core hx hy hp with ⟨h1, rfl⟩ | ⟨p, r, xs, h1, h2, h3, h4, rfl⟩ | ⟨p, r, xs, h1, h2, h3, h4, rfl⟩ | ⟨d, e, h1, h2, h3, h4, rfl⟩
  · exact .inl ⟨h1, q⟩
  · exact .inr (.inl ⟨p, r, xs, h1, h2, h3, h4, by simpa using q⟩)
  · exact .inr (.inr (.inl ⟨p, r, xs, h1, h2, h3, h4, by simpa using q⟩))
  · exact .inr (.inr (.inr ⟨d, e, h1, h2, h3, h4, q⟩))
theorem os_ne {G : Kx} : OpS G (rNeA G.K) pNe := by
  intro B H x y dx dy d Q bd hx hy hp q
  unfold pNe at hp
  split at hp
  · rename_i b hb
    cases hp
    have q := q (.bl (!b)) H (Same.refl H) (by simp only [Rep])
    rcases eq_core hx hy hb with ⟨h1, rfl⟩ | ⟨p, r, xs, h1, h2, h3, h4, rfl⟩ | ⟨p, r, xs, h1, h2, h3, h4, rfl⟩ | ⟨d, e, h1, h2, h3, h4, rfl⟩
    · exact .inl ⟨h1, q⟩
    · exact .inr (.inl ⟨p, r, xs, h1, h2, h3, h4, by simpa using q⟩)
    · exact .inr (.inr (.inl ⟨p, r, xs, h1, h2, h3, h4, by simpa using q⟩))
    · exact .inr (.inr (.inr ⟨d, e, h1, h2, h3, h4, q⟩))
  · cases hp
def dInts : List D → Option (List Int)
  | [] => some []
  | .int i :: ds => (dInts ds).map (i :: ·)
  | _ => none
theorem ints_some : ∀ {ds : List D} {ns : List Int}, dInts ds = some ns → ds = ns.map .int
  | [], ns, h => by simp [dInts] at h; subst h; rfl
  | .int i :: ds, ns, h => by
    simp only [dInts, Option.map_eq_some_iff] at h
    obtain ⟨ms, h1, rfl⟩ := h
    rw [ints_some h1]
    rfl
  | .none :: _, _, h => by simp [dInts] at h
  | .bool _ :: _, _, h => by simp [dInts] at h
  | .str _ :: _, _, h => by simp [dInts] at h
  | .list _ :: _, _, h => by simp [dInts] at h
  | .tuple _ :: _, _, h => by simp [dInts] at h
  | .dict _ :: _, _, h => by simp [dInts] at h
def dStrs : List D → Option (List Str)
  | [] => some []
  | .str i :: ds => (dStrs ds).map (i :: ·)
  | _ => none
theorem strs_some : ∀ {ds : List D} {ns : List Str}, dStrs ds = some ns → ds = ns.map .str
  | [], ns, h => by simp [dStrs] at h; subst h; rfl
  | .str i :: ds, ns, h => by
    simp only [dStrs, Option.map_eq_some_iff] at h
    obtain ⟨ms, h1, rfl⟩ := h
    rw [strs_some h1]
    rfl
  | .none :: _, _, h => by simp [dStrs] at h
  | .bool _ :: _, _, h => by simp [dStrs] at h
  | .int _ :: _, _, h => by simp [dStrs] at h
  | .list _ :: _, _, h => by simp [dStrs] at h
  | .tuple _ :: _, _, h => by simp [dStrs] at h
  | .dict _ :: _, _, h => by simp [dStrs] at h
@[simp] theorem ints_map (ns : List Int) : dInts (ns.map .int) = some ns := by
  induction ns with
  | nil => rfl
  | cons n ns ih => simp [dInts, ih]
@[simp] theorem strs_map (ns : List Str) : dStrs (ns.map .str) = some ns := by
  induction ns with
  | nil => rfl
  | cons n ns ih => simp [dStrs, ih]
def pLt : D → D → Option D
  | .int i, .int j => some (.bool (decide (i < j)))
  | .str i, .str j => some (.bool (decide (i.cps.toList < j.cps.toList)))
  | .tuple a, .tuple b => match dInts a, dInts b with
    | some ns, some ms => some (.bool (HT.lexLt ns ms))
    | _, _ => none
  | _, _ => none
abbrev rLtA (K : PySem.W.Frag) : R2 := orR (rI0 fun i j => .bl (decide (i < j))) (orR (fun x y H Q => ∃ i j, x = .str i ∧ y = .str j ∧ Q (.bl (decide (i.cps.toList < j.cps.toList))) H) (rLtT K))
theorem od_lt {X : Cx} (hu : X.A.units + 64 < cLine) : OpR X (compareOp .Lt) (rLtA X.K) := or_op op_lt (or_op op_lt_str (op_ltT (by omega)))
theorem pLt_bool {x y z : D} (h : pLt x y = some z) : ∃ k, z = .bool k := by
  unfold pLt at h
  split at h
  · cases h; exact ⟨_, rfl⟩
  · cases h; exact ⟨_, rfl⟩
  · split at h
    · cases h; exact ⟨_, rfl⟩
    · cases h
  · cases h
theorem os_lt {G : Kx} : OpS G (rLtA G.K) pLt := by
  intro B H x y dx dy d Q bd hx hy hp q
  unfold pLt at hp
  split at hp
  · cases hp
    simp only [Rep] at hx hy
    subst hx hy
    exact .inl ⟨_, _, rfl, rfl, q _ H (Same.refl H) (by simp only [Rep])⟩
  · cases hp
    simp only [Rep] at hx hy
    subst hx hy
    exact .inr (.inl ⟨_, _, rfl, rfl, q _ H (Same.refl H) (by simp only [Rep])⟩)
  · split at hp
    · rename_i ns ms h1 h2
      cases hp
      obtain ⟨a, us, rfl, h3, h4⟩ := hx.sqT
      obtain ⟨b, vs, rfl, h5, h6⟩ := hy.sqT
      rw [ints_some h1] at h4
      rw [ints_some h2] at h6
      rw [h4.ints] at h3
      rw [h6.ints] at h5
      exact .inr (.inr ⟨a, b, ns, ms, rfl, rfl, h3, h5, q _ H (Same.refl H) (by simp only [Rep])⟩)
    · cases hp
  · cases hp
def pIB (g : Int → Int → Bool) : D → D → Option D
  | .int i, .int j => some (.bool (g i j))
  | _, _ => none
theorem pIB_bool {g : Int → Int → Bool} {x y z : D} (h : pIB g x y = some z) : ∃ k, z = .bool k := by
  unfold pIB at h
  split at h
  · cases h; exact ⟨_, rfl⟩
  · cases h
theorem os_IB {G : Kx} {g : Int → Int → Bool} : OpS G (rI0 fun i j => .bl (g i j)) (pIB g) := by
  intro B H x y dx dy d Q bd hx hy hp q
  unfold pIB at hp
  split at hp
  · cases hp
    simp only [Rep] at hx hy
    subst hx hy
    exact ⟨_, _, rfl, rfl, q _ H (Same.refl H) (by simp only [Rep])⟩
  · cases hp
def pLe : D → D → Option D := pIB fun i j => decide (i ≤ j)
def pGt : D → D → Option D := pIB fun i j => decide (j < i)
def pGe : D → D → Option D := pIB fun i j => decide (j ≤ i)
theorem os_gt {G : Kx} : OpS G (rI0 fun i j => .bl (decide (j < i))) pGt := os_IB
/-- x is None -/
def nonD : D → Bool
  | .none => true
  | _ => false
def pIs (x y : D) : Option D := match y with
  | .none => some (.bool (nonD x))
  | _ => none
def pIsNot (x y : D) : Option D := match y with
  | .none => some (.bool (!nonD x))
  | _ => none
end Dl
set_option Elab.async false
set_option linter.all false
set_option maxRecDepth 100000
set_option maxHeartbeats 4000000
namespace Dl
open PySem PySem.Spec PyProof.Rows L2
/-! ### in -/
def scalD : D → Bool
  | .none => true
  | .bool _ => true
  | .int _ => true
  | .str _ => true
  | _ => false
/-- == of plain things -/
def eqS : D → D → Bool
  | .none, .none => true
  | .bool a, .bool b => a == b
  | .bool a, .int b => (if a then 1 else 0) == b
  | .int a, .bool b => a == (if b then 1 else 0)
  | .int a, .int b => a == b
  | .str a, .str b => a == b
  | _, _ => false
theorem flat_of {G : Kx} {B : Bar} {H : Hp} {d : D} {v : V} (h : Rep G B H d v) (hs : scalD d = true) : flatV v = true := by
  cases d <;> simp only [Rep] at h <;> first
    | (subst h; rfl)
    | (simp [scalD] at hs)
theorem eqS_of {G : Kx} {B : Bar} {H : Hp} {d e : D} {v u : V} (h : Rep G B H d v) (g : Rep G B H e u) (hs : scalD d = true) (hs' : scalD e = true) : eqV v u = eqS d e := by
  cases d <;> simp only [Rep] at h <;> first
    | (subst h
       cases e <;> simp only [Rep] at g <;> first
         | (subst g; rfl)
         | (simp [scalD] at hs'))
    | (simp [scalD] at hs)
theorem any_of {G : Kx} {B : Bar} {H : Hp} {d : D} {v : V} (h : Rep G B H d v) (hs : scalD d = true) : ∀ {ds : List D} {vs : List V}, Reps G B H ds vs → ds.all scalD = true → vs.all flatV = true ∧ inV v vs = ds.any fun e => eqS e d
  | [], vs, hr, ha => by
    simp only [Reps] at hr
    subst hr
    exact ⟨rfl, rfl⟩
  | e :: ds, vs, hr, ha => by
    simp only [Reps] at hr
    obtain ⟨u, r, rfl, h1, h2⟩ := hr
    rw [List.all_cons, Bool.and_eq_true] at ha
    obtain ⟨g1, g2⟩ := any_of h hs h2 ha.2
    refine ⟨by rw [List.all_cons, flat_of h1 ha.1, g1]; rfl, ?_⟩
    unfold inV at g2 ⊢
    rw [List.any_cons, List.any_cons, g2, eqS_of h1 h ha.1 hs]
def sign1 (x : Str) : Option Nat := match x.cps.toList with
  | [c] => some c
  | _ => none
theorem sign1_some {x : Str} {c : Nat} (h : sign1 x = some c) : x = ⟨#[c]⟩ := by
  unfold sign1 at h
  split at h
  · rename_i c' e
    cases h
    obtain ⟨a⟩ := x
    have : a = #[c] := by
      apply Array.toList_inj.mp
      exact e
    rw [this]
  · cases h
def memD (x : D) (ds : List D) : Option Bool :=
  if scalD x = true ∧ ds.all scalD = true then some (ds.any fun e => eqS e x) else none
def deepIn (x : D) (ds : List D) : Option Bool :=
  if SeqAt.shaped x = true ∧ SeqAt.shaped (.list ds) = true then some (ds.any fun z => PyData.eqv z x) else none
def inD (x y : D) : Option Bool := match y with
  | .str z => match x with
    | .str c => (sign1 c).map fun c => decide (c ∈ z.cps.toList)
    | _ => none
  | .tuple ds => memD x ds
  | .list ds => match memD x ds with
    | some b => some b
    | none => deepIn x ds
  | _ => none
def pIn (x y : D) : Option D := (inD x y).map .bool
def pNotIn (x y : D) : Option D := (inD x y).map fun b => .bool (!b)
abbrev rInA (K : PySem.W.Frag) : R2 := orR (rIn K false) (orR (fun x y H Q => ∃ (c : Nat) (z : Str), x = .str ⟨#[c]⟩ ∧ y = .str z ∧ Q (.bl (decide (c ∈ z.cps.toList))) H) (rInD K))
theorem od_in {X : Cx} (hu : X.A.units + 65 < cLine) : OpR X (compareOp .In) (rInA X.K) := or_op op_in_seq (or_op op_in_sign (op_inD hu))
theorem pIn_bool {x y z : D} (h : pIn x y = some z) : ∃ k, z = .bool k := by
  unfold pIn at h
  rw [Option.map_eq_some_iff] at h
  obtain ⟨k, _, rfl⟩ := h
  exact ⟨k, rfl⟩
theorem in_core {G : Kx} {B : Bar} {H : Hp} {x y : V} {dx dy : D} {b : Bool} (hx : Rep G B H dx x) (hy : Rep G B H dy y) (hp : inD dx dy = some b) :
    (∃ p xs, y = .ref p ∧ (SqL G.K H p xs ∨ SqT G.K H p xs) ∧ flatV x = true ∧ xs.all flatV = true ∧ inV x xs = b) ∨ (∃ (c : Nat) (z : Str), x = .str ⟨#[c]⟩ ∧ y = .str z ∧ decide (c ∈ z.cps.toList) = b) ∨
      (∃ d ds, Dp G.K H x d ∧ Dp G.K H y (.list ds) ∧ SeqAt.shaped d = true ∧ SeqAt.shaped (.list ds) = true ∧ (ds.any fun z => PyData.eqv z d) = b) := by
  unfold inD at hp
  split at hp
  · split at hp
    · rw [Option.map_eq_some_iff] at hp
      obtain ⟨c, hc, rfl⟩ := hp
      simp only [Rep] at hx hy
      subst hx hy
      exact .inr (.inl ⟨c, _, by rw [sign1_some hc], rfl, rfl⟩)
    · cases hp
  · obtain ⟨a, vs, rfl, h1, h2⟩ := hy.sqT
    unfold memD at hp
    split at hp
    · rename_i hc
      cases hp
      obtain ⟨g1, g2⟩ := any_of hx hc.1 h2 hc.2
      exact .inl ⟨a, vs, rfl, .inr h1, flat_of hx hc.1, g1, g2⟩
    · cases hp
  · rename_i ds
    split at hp
    · rename_i b' hm
      cases hp
      obtain ⟨a, vs, rfl, _, h1, h2⟩ := hy.sqL
      unfold memD at hm
      split at hm
      · rename_i hc
        cases hm
        obtain ⟨g1, g2⟩ := any_of hx hc.1 h2 hc.2
        exact .inl ⟨a, vs, rfl, .inl h1, flat_of hx hc.1, g1, g2⟩
      · cases hm
    · unfold deepIn at hp
      split at hp
      · rename_i hc
        cases hp
        exact .inr (.inr ⟨dx, ds, hx.dp _ _ (SeqAt.canLay_of_shaped hc.1), hy.dp _ _ (SeqAt.canLay_of_shaped hc.2), hc.1, hc.2, rfl⟩)
      · cases hp
  · cases hp
theorem os_in {G : Kx} : OpS G (rInA G.K) pIn := by
  intro B H x y dx dy d Q bd hx hy hp q
  unfold pIn at hp
  rw [Option.map_eq_some_iff] at hp
  obtain ⟨b, hb, rfl⟩ := hp
  have q := q (.bl b) H (Same.refl H) (by simp only [Rep])
  rcases in_core hx hy hb with ⟨p, xs, h1, h2, h3, h4, rfl⟩ | ⟨c, z, h1, h2, rfl⟩ | ⟨d, ds, h1, h2, h3, h4, rfl⟩
  · exact .inl ⟨p, xs, h1, h2, h3, h4, q⟩
  · exact .inr (.inl ⟨c, z, h1, h2, q⟩)
  · exact .inr (.inr ⟨d, ds, h1, h2, h3, h4, q⟩)
/-! ### subscripts, slices -/
def pIx : D → D → Option D
  | .list ds, .int i => atI ds i
  | .tuple ds, .int i => atI ds i
  | .str z, .int i => if z.length ≤ sizeLine then (atI z.cps.toList i).map fun c => .str ⟨#[c]⟩ else none
  | _, _ => none
theorem Reps.atI {G : Kx} {B : Bar} {H : Hp} {ds : List D} {vs : List V} {i : Int} {d : D} (h : Reps G B H ds vs) (e : L2.atI ds i = some d) : ∃ v, L2.atI vs i = some v ∧ Rep G B H d v := by
  unfold L2.atI at e ⊢
  rw [h.len]
  rw [Option.bind_eq_some_iff] at e
  obtain ⟨j, h1, h2⟩ := e
  obtain ⟨v, h3, h4⟩ := h.get h2
  exact ⟨v, by rw [h1]; exact h3, h4⟩
theorem os_ix {G : Kx} : OpS G (rIx G.K) pIx := by
  intro B H x y dx dy d Q bd hx hy hp q
  unfold pIx at hp
  split at hp
  · simp only [Rep] at hy
    obtain ⟨a, vs, rfl, _, h1, h2⟩ := hx.sqL
    obtain ⟨v, h3, h4⟩ := h2.atI hp
    exact .inl ⟨a, vs, _, v, rfl, hy, h1, h3, q _ H (Same.refl H) h4⟩
  · simp only [Rep] at hy
    obtain ⟨a, vs, rfl, h1, h2⟩ := hx.sqT
    obtain ⟨v, h3, h4⟩ := h2.atI hp
    exact .inr (.inl ⟨a, vs, _, v, rfl, hy, h1, h3, q _ H (Same.refl H) h4⟩)
  · split at hp
    · rw [Option.map_eq_some_iff] at hp
      obtain ⟨c, hc, rfl⟩ := hp
      simp only [Rep] at hx hy
      exact .inr (.inr ⟨_, _, c, hx, hy, by assumption, hc, q _ H (Same.refl H) (by simp only [Rep])⟩)
    · cases hp
  · cases hp
def cutD (ds : List D) (lo hi : Option Int) : List D := (ds.drop (HT.sIx ds.length 0 lo)).take (HT.sIx ds.length ds.length hi - HT.sIx ds.length 0 lo)
theorem Reps.cut {G : Kx} {B : Bar} {H : Hp} {ds : List D} {vs : List V} (h : Reps G B H ds vs) (lo hi : Option Int) : Reps G B H (cutD ds lo hi) (cutV vs lo hi) := by
  unfold cutD cutV
  rw [h.len]
  exact (h.drop _).take _
def pSl (x : D) (lo hi : Option Int) : Option D := match x with
  | .list ds => some (.list (cutD ds lo hi))
  | .tuple ds => some (.tuple (cutD ds lo hi))
  | .str z => if z.length ≤ sizeLine then some (.str (cutS z lo hi)) else none
  | _ => none
abbrev rSlD (K : PySem.W.Frag) : V → Option Int → Option Int → Hp → VK → Prop := fun x lo hi H Q => rSlL K x lo hi H Q ∨ rSlA K x lo hi H Q ∨ rSlS x lo hi H Q
theorem or_sl {X : Cx} {r1 r2 : V → Option Int → Option Int → Hp → VK → Prop} (h1 : SlR X r1) (h2 : SlR X r2) : SlR X (fun x lo hi H Q => r1 x lo hi H Q ∨ r2 x lo hi H Q) :=
  fun pins s σ H x v vl vu lo hi sl Q I rx i p1 p2 h => h.elim (h1 pins s σ H x v vl vu lo hi sl Q I rx i p1 p2) (h2 pins s σ H x v vl vu lo hi sl Q I rx i p1 p2)
theorem od_sl {X : Cx} : SlR X (rSlD X.K) := or_sl sl_list (or_sl sl_tupA sl_str)
theorem cutD_whole {ds : List D} {lo hi : Option Int} (h : HT.sIx ds.length 0 lo = 0 ∧ HT.sIx ds.length ds.length hi = ds.length) : cutD ds lo hi = ds := by
  unfold cutD
  rw [h.1, h.2, List.drop_zero, Nat.sub_zero, List.take_length]
def SlS (G : Kx) (r : V → Option Int → Option Int → Hp → VK → Prop) (p : D → Option Int → Option Int → Option D) : Prop := ∀ (B : Bar) (H : Hp) (x : V) (lo hi : Option Int) (dx d : D) (Q : VK), (∀ a, B a → H a ≠ none) → Rep G B H dx x → p dx lo hi = some d →
  (∀ v H', Same H H' → Rep G B H' d v → Q v H') → r x lo hi H Q
theorem os_sl {G : Kx} : SlS G (rSlD G.K) pSl := by
  intro B H x lo hi dx d Q bd hx hp q
  unfold pSl at hp
  split at hp
  · cases hp
    obtain ⟨a, vs, rfl, _, h1, h2⟩ := hx.sqL
    exact .inl ⟨a, vs, rfl, h1, fun p hp => q _ _ (Lc.same_new hp) (rep_lst bd hp (h2.cut lo hi))⟩
  · cases hp
    rename_i ds
    obtain ⟨a, vs, rfl, h1, h2⟩ := hx.sqT
    refine .inr (.inl ⟨a, vs, rfl, h1, fun e => ?_, fun _ p hp => q _ _ (Lc.same_new hp) (rep_tup bd hp (h2.cut lo hi))⟩)
    rw [h2.len] at e
    rw [cutD_whole e] at q
    exact q _ H (Same.refl H) hx
  · split at hp
    · cases hp
      simp only [Rep] at hx
      exact .inr (.inr ⟨_, hx, by assumption, q _ H (Same.refl H) (by simp only [Rep])⟩)
    · cases hp
  · cases hp
/-- a slice's end: left out, or an int -/
abbrev Eo' (S : Type) := Rho → S → Option (Option Int × S)
def oNo {S : Type} : Eo' S := fun _ s => some (none, s)
def asI : D → Option Int
  | .int i => some i
  | _ => none
def oOf {S : Type} (f : Ev S) : Eo' S := fun ρ s => bnd (f ρ s) fun d s => put ((asI d).map some) s
def tEp {S : Type} (G : Kx) (Z : Zk S) (W : List Nat) (f : Eo' S) : TO := fun σ H Q =>
  ∃ (B O : Bar) (ρ : Rho) (s : S) (d : Option Int) (s' : S), Eo G Z W B O H σ ρ ∧ Z.R H s ∧ f ρ s = some (d, s') ∧
    ∀ H', Lc.Fr Z.M H H' → Z.R H' s' → Q d H'
def cSl {S : Type} (p : D → Option Int → Option Int → Option D) (f : Ev S) (l h : Eo' S) : Ev S := fun ρ s => bnd (f ρ s) fun x s => bnd (l ρ s) fun lo s => bnd (h ρ s) fun hi s => put (p x lo hi) s
section
variable {S : Type} {X : Cx} {G : Kx} {Z : Zk S} {W : List Nat} {f g : Ev S} {fa : Ea S} {a b c e tg : Expr} {es : List Expr} {pos p p2 : Pos} {x : Str} {lo hi : Option Expr}
theorem imp_po {e : Option Expr} {t t' : TO} (h : PO X e t) (m : ∀ σ H Q, t' σ H Q → t σ H Q) : PO X e t' := ⟨fun pins s σ H Q I q => h.run pins s σ H Q I (m σ H Q q)⟩
theorem eo_none : PO X none (tEp G Z W oNo) := imp_po po_none fun σ H Q ⟨B, O, ρ, s, d, s', eo, hR, hf, q⟩ => by
  cases hf
  exact q H (Lc.Fr.refl H) hR
theorem eo_some (he : PE X e (tEx G Z W f)) : PO X (some e) (tEp G Z W (oOf f)) := imp_po (po_some he) fun σ H Q ⟨B, O, ρ, s, d, s', eo, hR, hf, q⟩ => by
  unfold oOf at hf
  obtain ⟨y, s1, h1, hf⟩ := bnd_some hf
  obtain ⟨h3, rfl⟩ := put_some hf
  refine ⟨B, O, ρ, s, y, _, eo, hR, h1, fun v H1 f1 r1 R1 => ?_⟩
  unfold asI at h3
  split at h3
  · cases h3
    simp only [Rep] at r1
    exact ⟨_, r1, q H1 f1 R1⟩
  · cases h3
theorem ex_slice {l h : Eo' S} {r : V → Option Int → Option Int → Hp → VK → Prop} {q : D → Option Int → Option Int → Option D} (hr : SlR X r) (hs : SlS G r q) (he : PE X e (tEx G Z W f)) (hl : PO X lo (tEp G Z W l)) (hh : PO X hi (tEp G Z W h)) : PE X (.Subscript e (.Slice lo hi none p2) pos) (tEx G Z W (cSl q f l h)) :=
  imp_pe (pe_slice hr he hl hh) fun σ H Q ⟨B, O, ρ, s, d, s', eo, hR, hf, k⟩ => by
    unfold cSl at hf
    obtain ⟨y, s1, h1, hf⟩ := bnd_some hf
    obtain ⟨i, s2, h2, hf⟩ := bnd_some hf
    obtain ⟨j, s3, h3, hf⟩ := bnd_some hf
    obtain ⟨h4, rfl⟩ := put_some hf
    refine ⟨B, O, ρ, s, y, s1, eo, hR, h1, fun v H1 f1 r1 R1 => ⟨B, O, ρ, s1, i, s2, eo.fr f1, R1, h2, fun H2 f2 R2 => ⟨B, O, ρ, s2, j, _, (eo.fr f1).fr f2, R2, h3, fun H3 f3 R3 => ?_⟩⟩⟩
    have e3 := ((eo.fr f1).fr f2).fr f3
    refine hs _ H3 v i j y d Q (fun a z => z.elim (e3.bd a) (e3.od a)) (r1.fr (f2.trans f3) fun a z => .inl (eo.mb a z)) h4 fun w H4 sm r4 => ?_
    exact k w H4 (((f1.trans f2).trans f3).trans (Lc.Fr.of sm)) r4 (Z.same R3 sm)
/-! ### new lists -/
/-- a call that makes a new list -/
def CaN (G : Kx) (r : List V → Hp → VK → Prop) (p : List D → Option (List D)) : Prop := ∀ (B : Bar) (H : Hp) (xs : List V) (ds es : List D) (Q : VK), (∀ a, B a → H a ≠ none) → Reps G B H ds xs → p ds = some es →
  (∀ q vs, H q = none → Reps G B H es vs → Q (.ref q) (upd H q (.lst vs))) → r xs H Q
def aN (p : List D → Option (List D)) (f : Ea S) : Ea S := fun ρ s => bnd (f ρ s) fun xs s => put (p xs) s
theorem nl_of {p : Addr} {B O : Bar} {H : Hp} {es : List D} {vs : List V} (hp : H p = none) (h : Reps G (fun a => B a ∨ O a) H es vs) (o : HO) : Reps G (fun a => (B a ∨ a = p) ∨ O a) (upd H p o) es vs :=
  h.mv fun a u e n => ⟨by rw [upd_ne (ne_of_none e hp)]; exact e, fun z => n (z.elim (fun z => z.elim .inl fun z => absurd z (ne_of_none e hp)) .inr)⟩
theorem tcb_nl {r : List V → Hp → VK → Prop} {p : List D → Option (List D)} (hs : CaN G r p) {σ : L2.St} {H : Hp} {Q : VK} (h : tNl G Z W (aN p fa) σ H Q) : tCB r (tEa G Z W fa) σ H Q := by
  obtain ⟨B, O, ρ, s, d, s', eo, hR, hf, q⟩ := h
  unfold aN at hf
  obtain ⟨x, s1, h1, hf⟩ := bnd_some hf
  obtain ⟨h3, rfl⟩ := put_some hf
  refine ⟨B, O, ρ, s, x, _, eo, hR, h1, fun v H1 f1 r1 R1 => ?_⟩
  have e2 := eo.fr f1
  refine hs _ H1 v x d Q (fun a z => z.elim (e2.bd a) (e2.od a)) r1 h3 fun l vs hl hv => ?_
  exact q l vs _ (f1.free hl) (f1.trans (Lc.Fr.new hl)) upd_same (nl_of hl hv _) (Z.same R1 (Lc.same_new hl))
theorem nl_callTy {T : String} {r : List V → Hp → VK → Prop} {q : List D → Option (List D)} (hc : CallR X (.type T) r) (hS : CaN G r q) (hg : Gl X x) (hm : X.mg x = none) (hv : bootBuiltins x = some (.type T)) (ha : PA X (e :: es) (tEa G Z W fa)) (hn : x ≠ "__name__" := by decide) (hdb : (x == ("__debug__" : Str)) = false := by decide)
    (he : starEach (e :: es) X.env = (false, eval e X.env) :: starEach es X.env := by rfl) (hpl : (backTo pos (starEach es X.env)).any (·.1) = false := by rfl) : PE X (.Call (.Name x p) (e :: es) [] pos) (tNl G Z W (aN q fa)) :=
  imp_pe (pe_callTy hc hg hm hv ha hn hdb he hpl) fun σ H Q h => tcb_nl hS h
def lenOk (ds : List D) : Option (List D) := if ds.length ≤ sizeLine then some ds else none
/-! ### what is built in -/
def pLen : List D → Option D
  | [.list ds] => some (.int ds.length)
  | [.tuple ds] => some (.int ds.length)
  | [.str z] => if z.length ≤ sizeLine then some (.int z.length) else none
  | _ => none
theorem od_len : CallR X (.builtin "len") (orC (Lc.rLenQ X.K) (fun xs H Q => ∃ z, xs = [.str z] ∧ z.length ≤ sizeLine ∧ Q (.int z.length) H)) := or_ca call_len_seq call_len_str
theorem os_len : CaS G (orC (Lc.rLenQ G.K) (fun xs H Q => ∃ z, xs = [.str z] ∧ z.length ≤ sizeLine ∧ Q (.int z.length) H)) pLen := by
  intro B H xs ds d Q bd hr hp q
  unfold pLen at hp
  split at hp
  · cases hp
    simp only [Reps] at hr
    obtain ⟨v, r, rfl, h1, rfl⟩ := hr
    obtain ⟨a, vs, rfl, _, h2, h3⟩ := h1.sqL
    exact .inl ⟨a, vs, rfl, .inl h2, q _ H (Same.refl H) (by simp only [Rep]; rw [h3.len])⟩
  · cases hp
    simp only [Reps] at hr
    obtain ⟨v, r, rfl, h1, rfl⟩ := hr
    obtain ⟨a, vs, rfl, h2, h3⟩ := h1.sqT
    exact .inl ⟨a, vs, rfl, .inr h2, q _ H (Same.refl H) (by simp only [Rep]; rw [h3.len])⟩
  · split at hp
    · cases hp
      simp only [Reps, Rep] at hr
      obtain ⟨v, r, rfl, rfl, rfl⟩ := hr
      exact .inr ⟨_, rfl, by assumption, q _ H (Same.refl H) (by simp only [Rep])⟩
    · cases hp
  · cases hp
def pList : List D → Option (List D)
  | [.list ds] => some ds
  | [.tuple ds] => some ds
  | _ => none
def rListQ (K : PySem.W.Frag) : List V → Hp → VK → Prop := fun xs H Q => ∃ p ys, xs = [.ref p] ∧ (SqL K H p ys ∨ SqT K H p ys) ∧ ∀ l, H l = none → Q (.ref l) (upd H l (.lst ys))
theorem od_list : CallR X (.type "list") (rListQ X.K) := call_list_of
theorem on_list : CaN G (rListQ G.K) pList := by
  intro B H xs ds es Q bd hr hp q
  unfold pList at hp
  split at hp
  · cases hp
    simp only [Reps] at hr
    obtain ⟨v, r, rfl, h1, rfl⟩ := hr
    obtain ⟨a, vs, rfl, _, h2, h3⟩ := h1.sqL
    exact ⟨a, vs, rfl, .inl h2, fun l hl => q l vs hl h3⟩
  · cases hp
    simp only [Reps] at hr
    obtain ⟨v, r, rfl, h1, rfl⟩ := hr
    obtain ⟨a, vs, rfl, h2, h3⟩ := h1.sqT
    exact ⟨a, vs, rfl, .inr h2, fun l hl => q l vs hl h3⟩
  · cases hp
def pTuple : List D → Option D
  | [.list ds] => some (.tuple ds)
  | [.tuple ds] => some (.tuple ds)
  | _ => none
def rTupQ (K : PySem.W.Frag) : List V → Hp → VK → Prop := fun xs H Q => ∃ p ys, xs = [.ref p] ∧ ((SqL K H p ys ∧ ∀ l, H l = none → Q (.ref l) (upd H l (.tup ys))) ∨ (SqT K H p ys ∧ Q (.ref p) H))
theorem od_tuple : CallR X (.type "tuple") (rTupQ X.K) := call_tuple_of
theorem os_tuple : CaS G (rTupQ G.K) pTuple := by
  intro B H xs ds d Q bd hr hp q
  unfold pTuple at hp
  split at hp
  · cases hp
    simp only [Reps] at hr
    obtain ⟨v, r, rfl, h1, rfl⟩ := hr
    obtain ⟨a, vs, rfl, _, h2, h3⟩ := h1.sqL
    exact ⟨a, vs, rfl, .inl ⟨h2, fun l hl => q _ _ (Lc.same_new hl) (rep_tup bd hl h3)⟩⟩
  · cases hp
    simp only [Reps] at hr
    obtain ⟨v, r, rfl, h1, rfl⟩ := hr
    obtain ⟨a, vs, rfl, h2, h3⟩ := h1.sqT
    exact ⟨a, vs, rfl, .inr ⟨h2, q _ H (Same.refl H) h1⟩⟩
  · cases hp
def pInt : List D → Option D
  | [.int i] => some (.int i)
  | [.bool k] => some (.int (if k then 1 else 0))
  | _ => none
theorem os_int : CaS G (fun xs H Q => (∃ i, xs = [.int i] ∧ Q (.int i) H) ∨ ∃ k, xs = [.bl k] ∧ Q (.int (if k then 1 else 0)) H) pInt := by
  intro B H xs ds d Q bd hr hp q
  unfold pInt at hp
  split at hp
  · cases hp
    simp only [Reps, Rep] at hr
    obtain ⟨v, r, rfl, rfl, rfl⟩ := hr
    exact .inl ⟨_, rfl, q _ H (Same.refl H) (by simp only [Rep])⟩
  · cases hp
    simp only [Reps, Rep] at hr
    obtain ⟨v, r, rfl, rfl, rfl⟩ := hr
    exact .inr ⟨_, rfl, q _ H (Same.refl H) (by simp only [Rep])⟩
  · cases hp
def dBools : List D → Option (List Bool)
  | [] => some []
  | .bool i :: ds => (dBools ds).map (i :: ·)
  | _ => none
@[simp] theorem dBools_map (ns : List Bool) : dBools (ns.map .bool) = some ns := by
  induction ns with
  | nil => rfl
  | cons n ns ih => simp [dBools, ih]
/-! isinstance of a class that is built in -/
def tyN : D → Option String
  | .none => some "NoneType"
  | .bool _ => some "bool"
  | .int _ => some "int"
  | .str _ => some "str"
  | .list _ => some "list"
  | .tuple _ => some "tuple"
  | .dict [] => some "dict"
  | .dict _ => none
def pIsi (T : String) (d : D) : Option D := (tyN d).bind fun t => (L2.kitB t T).map .bool
theorem tyX_of {B : Bar} {H : Hp} {d : D} {v : V} {t : String} (h : Rep G B H d v) (e : tyN d = some t) : TyX G.K H v (.type t) := by
  cases d with
  | none => simp only [Rep] at h; subst h; cases e; exact .base .non
  | bool b => simp only [Rep] at h; subst h; cases e; exact .base (.bl b)
  | int i => simp only [Rep] at h; subst h; cases e; exact .base (.int i)
  | str i => simp only [Rep] at h; subst h; cases e; exact .base (.str i)
  | list ds =>
    obtain ⟨a, vs, rfl, h1, _⟩ := h.sqL
    cases e
    exact .base (.lst h1)
  | tuple ds =>
    simp only [Rep] at h
    obtain ⟨a, vs, rfl, h1, _⟩ := h
    cases e
    rcases h1 with ⟨h1, _⟩ | ⟨o, its, n, h1, h2, _⟩
    · exact .base (.tup h1)
    · exact .kTuple h1 h2
  | dict kvs =>
    cases kvs with
    | nil =>
      cases e
      simp only [Rep] at h
      obtain ⟨a, rfl, ⟨n, z, _⟩ | ⟨_, h1, _⟩⟩ := h
      · cases z
      · exact .base (.dK h1)
    | cons x xs => cases e
theorem ex_isi {Ts : String} (hg : Gl X "isinstance") (hm : X.mg "isinstance" = none) (ha : PE X a (tEx G Z W f)) (hb : PE X b (tC (.ty Ts)))
    (hK : X.K = G.K := by rfl) (he : starEach [a, b] X.env = (false, eval a X.env) :: starEach [b] X.env := by rfl) (he2 : starEach [b] X.env = (false, eval b X.env) :: starEach [] X.env := by rfl) (hpl : (backTo pos (starEach [b] X.env)).any (·.1) = false := by rfl) (hv : bootBuiltins "isinstance" = some (.builtin "isinstance") := by decide +kernel) :
    PE X (.Call (.Name "isinstance" p) [a, b] [] pos) (tEx G Z W (cU (pIsi Ts) f)) :=
  imp_pe (pe_callB call_isi hg hm hv (pa_cons ha (pa_cons hb pa_nil he2) he) (by decide) (by decide) he hpl) fun σ H Q ⟨B, O, ρ, s, d, s', eo, hR, hf, q⟩ => by
    unfold cU at hf
    obtain ⟨y, s1, h1, hf⟩ := bnd_some hf
    obtain ⟨h3, rfl⟩ := put_some hf
    unfold pIsi at h3
    rw [Option.bind_eq_some_iff] at h3
    obtain ⟨t, h4, h5⟩ := h3
    rw [Option.map_eq_some_iff] at h5
    obtain ⟨k, h6, rfl⟩ := h5
    refine ⟨B, O, ρ, s, y, _, eo, hR, h1, fun v H1 f1 r1 R1 => ?_⟩
    refine ⟨v, .ty Ts, .type t, .type Ts, k, rfl, .ty Ts, by rw [hK]; exact tyX_of r1 h4, kit_ty h6, q _ H1 f1 (by simp only [Rep]) R1⟩
/-! methods of texts -/
def pJoin : D → D → Option D
  | .str a, .list ds => match dStrs ds with
    | some ys => if (ys.map (·.length)).sum + ys.length * a.length ≤ 16777216 then some (.str (Txt.join a ys)) else none
    | none => none
  | .str a, .tuple ds => match dStrs ds with
    | some ys => if (ys.map (·.length)).sum + ys.length * a.length ≤ 16777216 then some (.str (Txt.join a ys)) else none
    | none => none
  | _, _ => none
theorem ex_join {o : Expr} {apos : Pos} (ho : PE X o (tEx G Z W f)) (he : PE X e (tEx G Z W g)) (hK : X.K = G.K := by rfl) (hs : starEach [e] X.env = [(false, eval e X.env)] := by rfl) (hbase : attributeBase o "join" X.env (eval o X.env) = eval o X.env := by rfl) (hline : (apos.endLine == pos.line) = true := by rfl) :
    PE X (.Call (.Attribute o "join" apos) [e] [] pos) (tEx G Z W (cB pJoin f g)) :=
  imp_pe (pe_join ho he hs hbase hline) fun σ H Q ⟨B, O, ρ, s, d, s', eo, hR, hf, q⟩ => by
    unfold cB at hf
    obtain ⟨x, s1, h1, hf⟩ := bnd_some hf
    obtain ⟨y, s2, h2, hf⟩ := bnd_some hf
    obtain ⟨h3, rfl⟩ := put_some hf
    refine ⟨B, O, ρ, s, x, s1, eo, hR, h1, fun v H1 f1 r1 R1 => ?_⟩
    unfold pJoin at h3
    split at h3
    · split at h3
      · split at h3
        · rename_i hy hl
          cases h3
          simp only [Rep] at r1
          refine ⟨⟨_, r1⟩, B, O, ρ, s1, _, _, eo.fr f1, R1, h2, fun u H2 f2 r2 R2 => ?_⟩
          obtain ⟨b1, vs, rfl, _, h5, h6⟩ := r2.sqL
          rw [strs_some hy] at h6
          rw [h6.strs] at h5
          exact ⟨_, b1, _, r1, rfl, .inl (by rw [hK]; exact h5), hl, q _ H2 (f1.trans f2) (by simp only [Rep]) R2⟩
        · cases h3
      · cases h3
    · split at h3
      · split at h3
        · rename_i hy hl
          cases h3
          simp only [Rep] at r1
          refine ⟨⟨_, r1⟩, B, O, ρ, s1, _, _, eo.fr f1, R1, h2, fun u H2 f2 r2 R2 => ?_⟩
          obtain ⟨b1, vs, rfl, h5, h6⟩ := r2.sqT
          rw [strs_some hy] at h6
          rw [h6.strs] at h5
          exact ⟨_, b1, _, r1, rfl, .inr (by rw [hK]; exact h5), hl, q _ H2 (f1.trans f2) (by simp only [Rep]) R2⟩
        · cases h3
      · cases h3
    · cases h3
def aSplit (f g : Ev S) : Ea S := fun ρ s => bnd (f ρ s) fun x s => bnd (g ρ s) fun y s => match x, y with
  | .str a, .str b => if (b.length == 0) = false ∧ a.length + 2 ≤ sizeLine then some ((Txt.split a b).map .str, s) else none
  | _, _ => none
end
end Dl
set_option Elab.async false
set_option linter.all false
set_option maxRecDepth 100000
set_option maxHeartbeats 4000000
/-! enumerate(t), t a tuple -/
namespace Lc
open PySem PySem.Spec PyProof.Rows L2
open AutoSeq1 (wpAny_loadPart')
section
variable {prog : Program} {w : World} {A : Around} {E : Value → Shared → Prop} {s : Shared}
end
/-! ### the rule -/
end Lc
set_option Elab.async false
set_option linter.all false
set_option maxRecDepth 100000
set_option maxHeartbeats 4000000
/-! list(s), s a text: its signs -/
namespace Lc
open PySem PySem.Spec PyProof.Rows L2
end Lc
set_option Elab.async false
set_option linter.all false
set_option maxRecDepth 100000
set_option maxHeartbeats 4000000
namespace Dl
open PySem PySem.Spec PyProof.Rows L2
section
variable {S : Type} {X : Cx} {G : Kx} {Z : Zk S} {W : List Nat} {f g : Ev S} {fa : Ea S} {F F' : Sv S} {a b c e tg : Expr} {es : List Expr} {st : Stmt} {rest : List Stmt} {pos p : Pos} {x : Str}
/-! ### own lists read -/
def aFl (f : Ea S) : Ea S := fun ρ s => bnd (f ρ s) fun ds s => if flatDs ds = true then some (ds, s) else none
/-! a name set to a new list, however it is made -/
theorem es_setNl {i : Nat} {t : TE} (h : PS X st (tAsg t (gName i))) (hn : ∀ σ H Q, tNl G Z W fa σ H Q → t σ H Q) (hw : W.contains i = false := by rfl) : PS X st (tSt G Z W (sSet i (cNl fa))) :=
  imp_ps h fun E σ H ⟨B, H0, O, ρ, s, r, s', sr, hf, k⟩ => by
    unfold sSet cNl at hf
    obtain ⟨d, s1, h1, hf⟩ := bnd_some hf
    obtain ⟨y, s2, h2, h1⟩ := bnd_some h1
    cases h1
    cases hf
    refine hn σ H _ ⟨B, O, ρ, s, y, _, sr.eo, sr.r, h2, fun p vs H' hp f1 h2 h3 R1 => ?_⟩
    have sr1 := sr.step f1 R1
    refine k O _ H' ⟨sr1.eo.set (by simpa using hw) ?_, sr1.fr, sr1.b0, sr1.o0, R1⟩ (Ch.of f1)
    simp only [Rep]
    exact ⟨p, vs, rfl, h2, sr.eo.new hp, h3.sub fun a z _ => z.elim (fun z => .inl (.inl z)) .inr⟩
/-! x op= e -/
/-! told.extend(..) -/
/-! ### pairs: enumerate, zip -/
def pairD (x y : D) : D := .tuple [x, y]
theorem pair_rep {B : Bar} {H : Hp} {T : Addr} {v u : V} {x y : D} (bd : ∀ a, B a → H a ≠ none) (hT : H T = none) (hx : Rep G B H x v) (hy : Rep G B H y u) : Rep G B (upd H T (.tup [v, u])) (pairD x y) (.ref T) :=
  rep_tup bd hT (Reps.cons hx (Reps.cons hy Reps.nil))
/-! ### max, min of a list of ints; sorted -/
/-- texts in order -/
def leS (a b : Str) : Bool := !decide (b.cps.toList < a.cps.toList)
def sortS (xs : List Str) : List Str := xs.mergeSort leS
end
end Dl
set_option Elab.async false
set_option linter.all false
set_option maxRecDepth 100000
set_option maxHeartbeats 4000000
namespace Dl
open PySem PySem.Spec PyProof.Rows L2
theorem Room_units65 {A : Around} {k : Nat} (hr : Room k A) : A.units + 65 < cLine := by have := hr.un; omega
section
variable {S : Type} {X : Cx} {G : Kx} {Z : Zk S} {W : List Nat} {f g h : Ev S} {fa : Ea S} {F F' : Sv S} {a b c e tg : Expr} {es : List Expr} {st : Stmt} {rest : List Stmt} {pos p : Pos} {x : Str}
theorem es_asgT {t : Tg} {vs : List Nat} (h : PS X st (tAsg (tEx G Z W f) (tTg G Z W vs t))) : PS X st (tSt G Z W (sAsg f t)) :=
  imp_ps h fun E σ H ⟨B, H0, O, ρ, s, r, s', sr, hf, q⟩ => by
    unfold sAsg at hf
    obtain ⟨d, s1, h1, hf⟩ := bnd_some hf
    split at hf
    · cases hf
    · rename_i ρ1 e1
      cases hf
      refine ⟨B, O, ρ, s, d, _, sr.eo, sr.r, h1, fun v H1 f1 r1 R1 => ?_⟩
      have sr1 := sr.step f1 R1
      exact ⟨B, O, ρ, d, ρ1, sr1.eo, r1, e1, fun σ2 eo2 _ => q O _ H1 ⟨eo2, sr1.fr, sr1.b0, sr1.o0, R1⟩ (Ch.of f1)⟩
theorem nl_lcT {fi : Ea S} {t : Tg} {us vs : List Nat} {q : Et S} {tt : TT} {σ : L2.St} {H : Hp} {Q : VK} (hu : ∀ i ∈ us, i ∈ vs) (hq : ∀ σ H Q, tEt G Z W q σ H Q → tt σ H Q) (h : tNl G Z W (lcF fi t q f vs) σ H Q) : tLc (tIt G Z W fi) (tTg G Z W us t) tt (tEx G Z W f) vs σ H Q := by
  obtain ⟨B, O, ρ, s, d, s', eo, hR, hf, k⟩ := h
  exact lc_new hu hq eo hR hf k
def pNeg : D → Option D
  | .int i => some (.int (-i))
  | _ => none
/-! list of a text -/
/-! sorted of texts -/
theorem ltCps_lt (a b : List Nat) : ltCps a b = decide (a < b) := by
  induction a generalizing b with
  | nil => cases b <;> simp [ltCps]
  | cons x a ih =>
    cases b with
    | nil => simp [ltCps]
    | cons y b =>
      simp only [ltCps, ih]
      by_cases h1 : x < y
      · simp [h1, List.cons_lt_cons_iff]
      · by_cases h2 : x = y
        · subst h2; simp [List.cons_lt_cons_iff]
        · simp [h1, h2, List.cons_lt_cons_iff]
theorem leS_tr {a b c : Str} (h : leS a b = true) (g : leS b c = true) : leS a c = true := by
  simp only [leS, Bool.not_eq_true', decide_eq_false_iff_not, List.not_lt] at *
  exact List.le_trans h g
theorem leS_tot (a b : Str) : (leS a b || leS b a) = true := by
  simp only [leS, Bool.or_eq_true, Bool.not_eq_true', decide_eq_false_iff_not, List.not_lt]
  exact List.le_total _ _
theorem leS_anti {a b : Str} (h : leS a b = true) (g : leS b a = true) : a = b := by
  simp only [leS, Bool.not_eq_true', decide_eq_false_iff_not, List.not_lt] at *
  have := List.le_antisymm h g
  obtain ⟨a⟩ := a
  obtain ⟨b⟩ := b
  have e : a = b := Array.toList_inj.mp this
  rw [e]
theorem rising_pw : ∀ {p : Str} {r : List Str}, risingS p r = true → (p :: r).Pairwise (fun a b => leS a b = true)
  | p, [], _ => by simp
  | p, x :: r, h => by
    unfold risingS at h
    rw [Bool.and_eq_true] at h
    have ih := rising_pw h.2
    have hpx : leS p x = true := by
      unfold leS
      rw [← ltCps_lt]
      exact h.1
    refine List.pairwise_cons.mpr ⟨fun y hy => ?_, ih⟩
    rcases List.mem_cons.mp hy with rfl | hy
    · exact hpx
    · exact leS_tr hpx ((List.pairwise_cons.mp ih).1 y hy)
theorem sorted_pw {xs : List Str} (h : sortedS xs = true) : xs.Pairwise (fun a b => leS a b = true) := by
  cases xs with
  | nil => simp
  | cons x r => exact rising_pw h
theorem pw_unique {le : Str → Str → Bool} (anti : ∀ a b, le a b = true → le b a = true → a = b) : ∀ {xs ys : List Str}, xs.Perm ys → xs.Pairwise (fun a b => le a b = true) → ys.Pairwise (fun a b => le a b = true) → xs = ys
  | [], ys, h, _, _ => (List.nil_perm.mp h).symm
  | x :: xs, [], h, _, _ => absurd h.length_eq (by simp)
  | x :: xs, y :: ys, h, h1, h2 => by
    have h1' := List.pairwise_cons.mp h1
    have h2' := List.pairwise_cons.mp h2
    have e : x = y := by
      have hx : x ∈ y :: ys := h.mem_iff.mp List.mem_cons_self
      have hy : y ∈ x :: xs := h.mem_iff.mpr List.mem_cons_self
      rcases List.mem_cons.mp hx with hx | hx
      · exact hx
      · rcases List.mem_cons.mp hy with hy | hy
        · exact hy.symm
        · exact anti x y (h1'.1 y hy) (h2'.1 x hx)
    subst e
    rw [pw_unique anti ((List.perm_cons x).mp h) h1'.2 h2'.2]
theorem sortS_eq {xs ys : List Str} (h : ys.Perm xs) (hs : sortedS ys = true) : ys = sortS xs := by
  refine pw_unique (le := leS) (fun a b => leS_anti) (h.trans (List.mergeSort_perm xs leS).symm) (sorted_pw hs) ?_
  exact List.pairwise_mergeSort (le := leS) (fun a b c h g => leS_tr h g) (fun a b => leS_tot a b) xs
theorem sortS_perm (xs : List Str) : (sortS xs).Perm xs := List.mergeSort_perm xs leS
theorem sortS_pw (xs : List Str) : (sortS xs).Pairwise (fun a b => leS a b = true) := List.pairwise_mergeSort (le := leS) (fun a b c h g => leS_tr h g) (fun a b => leS_tot a b) xs
def pSorted : List D → Option (List D)
  | [.list ds] => match dStrs ds with
    | some xs => if xs.length < 64 then some ((sortS xs).map .str) else none
    | none => none
  | _ => none
end
end Dl
set_option Elab.async false
set_option linter.all false
set_option maxRecDepth 100000
set_option maxHeartbeats 4000000
/-! all(x in y for x in e): e a text, y a captured name that holds a text -/
namespace Lc
open PySem PySem.Spec PyProof.Rows L2 GxR
section
variable {X : Cx} {pins : List (Addr × Obj)} {σ : L2.St} {H : Hp} {s : Shared}
end
end Lc
set_option Elab.async false
set_option linter.all false
set_option maxRecDepth 100000
set_option maxHeartbeats 4000000
/-! all / any (elt for tg in it if ..), anything in elt -/
namespace Dl
open PySem PySem.Spec PyProof.Rows L2 GxR
theorem over_gx {A : Around} {elt tg iter : Expr} {ifs : List Expr} {scope : Scope} {pos : Pos} {it acc : Value} {env : Env} :
    A.over (.compLoop (.GeneratorExp elt [⟨tg, iter, ifs, 0⟩] scope pos) 0 it acc env) [] = A.deeper env := rfl
theorem inv_gens {X : Cx} {pins : List (Addr × Obj)} {σ : L2.St} {H : Hp} {s : Shared} {g' : Array GenState} (I : Inv X pins σ H s) (hb : AllBare g') : Inv X pins σ H { s with gens := g' } :=
  ⟨I.ok, I.os, hb, I.base, I.loc, I.cell, I.free, I.freeC, I.pin, I.hok, I.len⟩
theorem bare_set {gs : Array GenState} {g : Nat} {x : GenState} (h : AllBare gs) (hx : x.bare = true) : AllBare (gs.setIfInBounds g x) := fun y hy => by
  obtain ⟨i, hi, rfl⟩ := Array.mem_iff_getElem.mp hy
  have hi' : i < gs.size := by simpa using hi
  rw [Array.getElem_setIfInBounds hi']
  split
  · exact hx
  · exact h _ (Array.getElem_mem _)
abbrev gxE (X : Cx) (scope : Scope) (C : Addr) (cv : Value) : Env := genEnv scope (cloFrom X.env.cells scope.names []) C cv builtinsNs X.env
/-- the context of a generator expression's body -/
abbrev gxC (X : Cx) (s : Shared) (H : Hp) (scope : Scope) (C : Addr) (cv : Value) (fp : List Addr) (pn : List (Addr × Obj)) : Cx :=
  { X with A := X.A.in1.in1.deeper (gxE X scope C cv), s_0 := s, H_0 := H, env := gxE X scope C cv, outer := X.stack, stack := gxE X scope C cv :: X.stack, ex := fp, fn := fun _ => false, pn := pn, xe := fun _ _ => False }
section
variable {X : Cx} {pins : List (Addr × Obj)} {σ : L2.St} {H : Hp} {s : Shared}
/-- a name that the body takes from around has a cell there -/
theorem blk_free {scope : Scope} {own : List (Str × Nat)} (I : Inv X pins σ H s) (ok : BlkOk X.N X.env.scope scope own) (y : Str × NameKind) (hy : y ∈ scope.names) (e : y.2 = .free) : ∃ c, X.env.cells.lookup y.1 = some c :=
  I.ok.has y.1 ((ok.free y hy e).imp id id)
theorem gen_start {scope : Scope} {own : List (Str × Nat)} {fp : List Addr} {h' : Heap} {m : Str → Option Value} {gs : Array GenState} {tk : Nat} {a : Addr} {go : Obj} {cv : Value} (I : Inv X pins σ H s) (ok : BlkOk X.N X.env.scope scope own) (hcell : ∀ y ∈ scope.names, y.2 ≠ .cell) (hN : X.N.Nodup)
    (hfp : ∀ b ∈ fp, FpOk X pins H b ∧ b < s.heap.objs.size) (hn : h'.Ns s.heap.objs.size m) (kp : ∀ b o, s.heap.get? b = some o → h'.get? b = some o) (hb : AllBare gs) (ha : s.heap.objs.size < a) (hgo : h'.get? a = some go) (hgd : ∀ v, go.data ≠ .cell v) :
    Inv (gxC X s H scope s.heap.objs.size cv fp [(a, go)]) [] (wipe σ (own.map (·.2))) H { s with heap := h', gens := gs, toks := tk } := by
  have hfree := blk_free I ok
  have cm : ∀ {y c}, (cloFrom X.env.cells scope.names []).lookup y = some c → X.env.cells.lookup y = some c ∧ c < s.heap.objs.size := fun {y c} hm => by
    rcases cloFrom_mem (PySem.mem_of_lookup hm) with hm | ⟨h1, rfl⟩
    · cases hm
    · obtain ⟨c, hc⟩ := hfree _ h1 rfl
      rw [hc]
      obtain ⟨w, z⟩ := I.cell _ _ hc
      exact ⟨rfl, z.lt⟩
  have look : ∀ {y}, scope.names.lookup y = some .free → ∃ c, (cloFrom X.env.cells scope.names []).lookup y = some c ∧ X.env.cells.lookup y = some c := fun {y} hl => by
    obtain ⟨c', e'⟩ := mem_lookup (cloFrom_has (cells := X.env.cells) (acc := []) (PySem.mem_of_lookup hl))
    exact ⟨c', e', (cm e').1⟩
  have okB : (gxC X s H scope s.heap.objs.size cv fp [(a, go)]).Ok := by
    refine ⟨I.ok.mod, ok.kind, I.ok.glob, rfl, Nat.le_refl _, fun y z c e1 e2 => I.ok.inj y z c (cm e1).1 (cm e2).1, fun y hy => ?_, fun y c z e => (nomatch z), I.ok.hd, ?_, .inr ⟨rfl, rfl⟩, fun b hb => ⟨Nat.ne_of_lt (hfp b hb).2, fun y c e z => ?_⟩, I.bs, Nat.le_trans I.ok.bsz I.sz, fun b o e hb => ?_, fun b hb z => ?_, I.stack, I.stkFree⟩
    · rcases hy with hy | hy
      · exact absurd rfl (hcell _ (PySem.mem_of_lookup hy))
      · obtain ⟨c, h1, _⟩ := look hy
        exact ⟨c, h1⟩
    · show (X.A.frames).map _ = _
      rw [I.ok.frames]
      rfl
    · exact (hfp b hb).1.2.2.2.2.1 y c (cm e).1 z
    · rcases (hfp b hb).1.2.2.2.1 with z | z
      · exact I.ok.noex b o e z
      · have young := Nat.le_trans I.ok.bsz z
        have old := Heap.lt_size e
        exact Nat.not_lt.mpr young old
    · exact (List.mem_cons.mp (I.stkSub b z)).elim (hfp b hb).1.2.1 (hfp b hb).1.2.2.1
  refine ⟨okB, rfl, hb, Un.kept kp, ⟨_, hn, fun i y av e1 e2 e3 => ?_⟩, fun y c e => ?_, I.hok.fresh (Nat.le_refl _), fun y c e => I.freeC y c (cm e).1, fun p hp => ?_, I.hok.kept kp, by rw [wipe_length]; exact I.len⟩
  · obtain ⟨e2, hne⟩ := wipe_some e2
    have hfr : scope.names.lookup y = some .free := by
      have no : ∀ k, scope.names.lookup y = some k → ¬ (k = .local ∨ k = .cell) := fun k e hh => by
        refine (ok.own _ (PySem.mem_of_lookup e) hh).elim (fun mine => ?_) fun other => other (List.mem_of_getElem? e1)
        obtain ⟨p, hp, rfl⟩ := List.mem_map.mp mine
        exact hne (List.mem_map.mpr ⟨p, hp, nodup_ix hN (ok.ix p hp) e1⟩)
      have e3 : Vis scope y := e3
      rcases e3 with e3 | e3 | e3
      · exact absurd (.inl rfl) (no _ e3)
      · exact absurd (.inr rfl) (no _ e3)
      · exact e3
    obtain ⟨m, hn, hl⟩ := I.loc
    have hvis : Vis X.env.scope y := (ok.free _ (PySem.mem_of_lookup hfr) rfl).elim (fun k => .inr (.inl k)) (fun k => .inr (.inr k))
    obtain ⟨w, r, q⟩ := hl i y av e1 e2 hvis
    refine ⟨w, r, .inr ⟨.inr hfr, ?_⟩⟩
    obtain ⟨c, h1, h2⟩ := look hfr
    rcases q with ⟨k, _⟩ | ⟨_, c', e', z⟩
    · have away := ok.free _ (PySem.mem_of_lookup hfr) rfl
      rw [show X.env.scope.names.lookup y = some .local from k] at away
      exact away.elim (fun z => nomatch z) fun z => nomatch z
    · rw [h2] at e'; cases e'
      exact ⟨c, h1, z.keeps kp⟩
  · obtain ⟨w, z⟩ := I.cell y c (cm e).1
    exact ⟨w, z.keeps kp⟩
  · have hp : p ∈ [(a, go)] ++ ([] : List (Addr × Obj)) := hp
    rw [List.append_nil] at hp
    rw [List.mem_singleton.mp hp]
    refine ⟨hgo, I.hok.fresh (Nat.le_of_lt ha), Nat.ne_of_gt ha, fun z => ?_, hgd⟩
    rcases List.mem_cons.mp (I.stkSub a z) with z | z
    · exact absurd (Nat.lt_trans I.lt ha) (by rw [z]; exact Nat.lt_irrefl _)
    · exact I.nofs (Nat.le_of_lt ha) z
end
end Dl
set_option Elab.async false
set_option linter.all false
set_option maxRecDepth 100000
set_option maxHeartbeats 4000000
namespace Dl
open PySem PySem.Spec PyProof.Rows L2 GxR
def gxR (Y : Cx) (σw : L2.St) (st : Bool) (Q : VK) (g0 : Nat) : Nat → Shared → Shared → Prop := fun _ _ s₁ => ∃ H, Inv Y [] σw H s₁ ∧ Q (.bl (!st)) H ∧ g0 < s₁.gens.size
def gxY (Y : Cx) (st : Bool) (Q : VK) (g0 : Nat) : Protocol := fun _ _ v s kap => ∃ (k : Bool) (H : Hp) (pins : List (Addr × Obj)) (σ : L2.St), v = .bool k ∧ Inv Y pins σ H s ∧ g0 < s.gens.size ∧ (if k = st then Q (.bl st) H else ∀ gs, AllBare gs → g0 < gs.size → kap (.send .none) { s with gens := gs })
/-- a turn's reading -/
def gxT (J : It) (g : TG) (tt : TT) (te : TE) (σw : L2.St) (vs : List Nat) (st : Bool) (Q : VK) (W : Nat → Nat → Hp → Prop) : Prop := ∀ i m H, W i m H → (J.stop i H ∧ Q (.bl (!st)) H) ∨ (J.go i H ∧ ∃ Nx : Hp → Prop, (∀ H', Nx H' → ∃ m', m' < m ∧ W (i + 1) m' H') ∧
  ∀ x H', J.yld i H x H' → g x σw H' fun σ2 H2 => wipe σ2 vs = σw ∧ tt σ2 H2 fun b H3 => if b = true then te σ2 H3 fun y H4 => ∃ k : Bool, y = .bl k ∧ (if k = st then Q (.bl st) H4 else Nx H4) else Nx H3)
section
variable {Y : Cx} {elt tg iter : Expr} {ifs : List Expr} {scope : Scope} {pos : Pos} {it : Addr} {fp : List Addr} {tn : Nat → Heap → Prop} {J : It} {g : TG} {tt : TT} {te : TE} {σw : L2.St} {vs : List Nat} {st : Bool} {Q : VK} {W : Nat → Nat → Hp → Prop} {g0 : Nat} {A' : Around}
theorem seg_gx (hA : Y.A = A'.deeper Y.env) (hxe : ∀ e s, Y.xe e s → False) (hc : Y.calm = true) (hco : Y.env.scope.isCoroutine = false) (T : Turn Y.prog Y.w Y.K tg J fp it tn) (pg : PG Y tg g) (pt : PTs Y ifs tt) (pe : PE Y elt te)
    (stat : ∀ (σ' : L2.St) (H' : Hp) (s' : Shared), Inv Y [] σ' H' s' → (∀ b ∈ fp, H' b = none) → ∀ b ∈ fp, FpOk Y [] H' b) (turn : gxT J g tt te σw vs st Q W) :
    ∀ (m n i : Nat) (H : Hp) (s₀ s : Shared), m < n → Inv Y [] σw H s → tn i s.heap → (∀ b ∈ fp, H b = none) → W i m H → g0 < s.gens.size →
      Seg (model Y.prog Y.w) A' (fun n s₀ r s₁ => r = .ok .next ∧ gxR Y σw st Q g0 n s₀ s₁) (gxY Y st Q g0) n s₀ (.compLoop (.GeneratorExp elt [⟨tg, iter, ifs, 0⟩] scope pos) 0 (.ref it) .none Y.env)
        ((model Y.prog Y.w).den (.compLoop (.GeneratorExp elt [⟨tg, iter, ifs, 0⟩] scope pos) 0 (.ref it) .none Y.env)) [] s := by
  intro m
  induction m using Nat.strongRecOn with
  | _ m ih =>
    intro n i H s₀ s hmn I st' hn w hg
    show Seg _ A' _ _ _ s₀ _ ((compTurn (.GeneratorExp elt [⟨tg, iter, ifs, 0⟩] scope pos) 0 (.ref it) .none Y.env).onRaise (leaving Y.env)) [] s
    rw [compTurn_gen, Sem.onRaise_eq_wrap]
    refine seg_bind_wrap (wpAny_standAt ?_)
    rcases turn i m H w with ⟨stop, qq⟩ | ⟨go, Nx, hNx, step⟩
    · refine seg_bind_wrap ?_
      rw [over_gx, ← hA]
      refine GenW.wpAny_gsz (n := g0 + 1) hg (thnF (T.done Y rfl rfl rfl hc i [] s _ H (fun _ _ => False) I (stat _ _ _ I hn) st' stop) fun r s6 ⟨hr, I6⟩ hg6 => ?_)
      subst hr
      exact seg_end (.ok .next) ⟨rfl, H, I6, qq, hg6⟩
    · refine seg_bind_wrap ?_
      rw [over_gx, ← hA]
      refine GenW.wpAny_gsz (n := g0 + 1) hg (thnF (T.item Y rfl rfl rfl hc i [] s _ H (fun _ _ => False) I (stat _ _ _ I hn) st' go) fun r s6 ⟨u, hr, h6⟩ hg6 => ?_)
      subst hr
      refine seg_bind_wrap ?_
      rw [over_gx, ← hA]
      refine GenW.wpAny_gsz (n := g0 + 1) hg6 (thnF h6 fun _ s7 ⟨x, H7, I7, r7, y7, st7, n7⟩ hg7 => ?_)
      have I7' := I7.pinned (stat _ _ _ I7 n7) (T.obj _ _ st7)
      refine seg_bind_wrap ?_
      rw [over_gx, ← hA]
      refine GenW.wpAny_gsz (n := g0 + 1) hg7 (wpAny_mono (pg.run _ s7 _ H7 x u _ I7' r7 (step x H7 y7)) (fun _ s8 ⟨σ8, H8, I8, hw8, q8⟩ hg8 => ?_) fun e s' z => (hxe e s' z).elim)
      refine seg_bind_wrap ?_
      rw [over_gx, ← hA]
      refine GenW.wpAny_gsz (n := g0 + 1) hg8 (wpAny_mono (pt.run _ s8 σ8 H8 _ I8 q8) (fun b s9 ⟨H9, I9, q9⟩ hg9 => ?_) fun e s' z => (hxe e s' z).elim)
      have fin : ∀ {s' : Shared} {H' : Hp} {n' : Nat} {s₀' : Shared}, Inv Y ([] ++ pinsAt fp s7.heap) σ8 H' s' → Nx H' → m ≤ n' → g0 < s'.gens.size → Seg (model Y.prog Y.w) A' (fun n s₀ r s₁ => r = .ok .next ∧ gxR Y σw st Q g0 n s₀ s₁) (gxY Y st Q g0) n' s₀' (.compLoop (.GeneratorExp elt [⟨tg, iter, ifs, 0⟩] scope pos) 0 (.ref it) .none Y.env)
        ((model Y.prog Y.w).den (.compLoop (.GeneratorExp elt [⟨tg, iter, ifs, 0⟩] scope pos) 0 (.ref it) .none Y.env)) [] s' := fun {s' H' n' s₀'} I' nx hmn' hg' => by
        obtain ⟨m', hm, w'⟩ := hNx H' nx
        have pin' : ∀ b ∈ fp, ∀ o, s7.heap.get? b = some o → s'.heap.get? b = some o ∧ H' b = none := fun b hb o eo => by
          have hp := I'.pin (b, o) (List.mem_append_right _ (List.mem_append_right _ (mem_pinsAt hb eo)))
          exact ⟨hp.1, hp.2.1⟩
        have hl : σw.length = σ8.length := by rw [← hw8, wipe_length]
        refine ih m' hm n' (i + 1) H' s₀' s' (by omega) ((I'.unpinned (pins := [])).weak hl (fun j v e => ?_)) (T.keep _ _ _ st7 fun b hb o e => (pin' b hb o e).1) (fun b hb => ?_) w' hg'
        · rw [← hw8] at e
          exact (wipe_some e).1
        · obtain ⟨o, e, _⟩ := T.obj _ _ st7 b hb
          exact (pin' b hb o e).2
      cases b with
      | false =>
        simp only [Bool.false_eq_true, if_false] at q9 ⊢
        exact seg_again rfl (fin I9 q9 (Nat.le_of_lt hmn) hg9)
      | true =>
        simp only [if_true] at q9 ⊢
        obtain ⟨n', rfl⟩ : ∃ n', n = n' + 1 := ⟨n - 1, by omega⟩
        have hy : ∀ v, yieldOut Y.env v = yieldValue v := fun v => by simp only [yieldOut, hco, Bool.false_eq_true, if_false]
        simp only [hy]
        rw [Sem.bind_eq_wrap', Sem.bind_eq_wrap', Sem.wrap_wrap, Sem.wrap_wrap]
        refine seg_wrap ?_
        rw [over_gx, ← hA]
        refine GenW.wpAny_gsz (n := g0 + 1) hg9 (wpAny_mono (pe.run _ s9 σ8 H9 _ I9 q9) (fun z s10 ⟨yv, H10, I10, r10, k, ey, qk⟩ hg10 => ?_) fun e s' z => (hxe e s' z).elim)
        subst ey
        have ez : z = .bool k := r10
        subst ez
        refine seg_at (seg_yield rfl rfl rfl ⟨k, H10, _, _, rfl, I10, hg10, ?_⟩)
        by_cases hk : k = st
        · rw [if_pos hk] at qk ⊢
          exact qk
        · rw [if_neg hk] at qk ⊢
          intro gs hb hgs
          exact seg_again rfl (fin (inv_gens I10 hb) qk (by omega) hgs)
theorem seg_gs (hA : Y.A = A'.deeper Y.env) (hxe : ∀ e s, Y.xe e s → False) (hc : Y.calm = true) (hco : Y.env.scope.isCoroutine = false) (T : Turn Y.prog Y.w Y.K tg J fp it tn) (pg : PG Y tg g) (pt : PTs Y ifs tt) (pe : PE Y elt te)
    (stat : ∀ (σ' : L2.St) (H' : Hp) (s' : Shared), Inv Y [] σ' H' s' → (∀ b ∈ fp, H' b = none) → ∀ b ∈ fp, FpOk Y [] H' b) (turn : gxT J g tt te σw vs st Q W)
    (m : Nat) (H : Hp) (s₀ s : Shared) (I : Inv Y [] σw H s) (st' : tn 0 s.heap) (hn : ∀ b ∈ fp, H b = none) (w : W 0 m H) (hg : g0 < s.gens.size) :
      Seg (model Y.prog Y.w) A' (fun n s₀ r s₁ => r = .ok .next ∧ gxR Y σw st Q g0 n s₀ s₁) (gxY Y st Q g0) (m + 1) s₀ (.compStart (.GeneratorExp elt [⟨tg, iter, ifs, 0⟩] scope pos) 0 (.ref it) .none Y.env)
        ((model Y.prog Y.w).den (.compStart (.GeneratorExp elt [⟨tg, iter, ifs, 0⟩] scope pos) 0 (.ref it) .none Y.env)) [] s := by
  have loop := seg_gx (iter := iter) (scope := scope) (pos := pos) (g0 := g0) hA hxe hc hco T pg pt pe stat turn m (m + 1) 0 H s₀ s (Nat.lt_succ_self m) I st' hn w hg
  show Seg _ A' _ _ _ s₀ _ ((compStart (.GeneratorExp elt [⟨tg, iter, ifs, 0⟩] scope pos) 0 (.ref it) .none Y.env).onRaise (leaving Y.env)) [] s
  unfold compStart
  rw [Sem.onRaise_eq_wrap]
  show Seg _ A' _ _ _ s₀ _ ((ask >>= _).wrap _ _ _ _) [] s
  refine seg_bind_wrap (wpAny_askSetting ?_)
  split
  · exact seg_again rfl loop
  · first
      | exact seg_bind_wrap (wpAny_rule (seg_bind_wrap (wpAny_standAt (seg_bind_wrap (T.self _ 0 s _ _ st' (seg_again rfl loop))))))
      | (refine seg_bind_wrap (wpAny_rule ?_); show Seg _ A' _ _ _ s₀ _ ((standAt iter.pos >>= _).wrap _ _ _ _) [] s; exact seg_bind_wrap (wpAny_standAt (seg_bind_wrap (T.self _ 0 s _ _ st' (seg_again rfl loop)))))
end
end Dl
set_option Elab.async false
set_option linter.all false
set_option maxRecDepth 100000
set_option maxHeartbeats 4000000
namespace Dl
open PySem PySem.Spec PyProof.Rows L2 GxR
section
variable {Y : Cx} {σw : L2.St} {Q : VK} {g0 : Nat} {A : Around} {a : Addr} {go : Obj} {R : Result → Shared → Prop}
theorem gx_all (hh : A.handled = none) (hroom : A.depth < recursionLimit) (hp : (a, go) ∈ Y.pn) (hgen : ∀ h : Heap, h.get? a = some go → h.IsGen a g0)
    (hE : ∀ H s₁ h', Inv Y [] σw H s₁ → Q (.bl true) H → (∀ b o, s₁.heap.get? b = some o → h'.get? b = some o) → R (.ok (.ret (.bool true))) { s₁.setGen g0 .finished with heap := h' })
    (hS : ∀ H pins σ s₁ gs', gs'.bare = true → Inv Y pins σ H s₁ → Q (.bl false) H → R (.ok (.ret (.bool false))) (s₁.setGen g0 gs')) :
    ∀ (n : Nat) (s : Shared) (gs : GenState) (H : Hp) (pins : List (Addr × Obj)) (σ : L2.St), Inv Y pins σ H s → s.gens[g0]? = some gs →
      gs.Goes (model Y.prog Y.w) A.in1.in1 (fun n s₀ r s₁ => r = .ok .next ∧ gxR Y σw false Q g0 n s₀ s₁) (gxY Y false Q g0) n (.send .none) (s.setGen g0 .running) →
      codeAny (model Y.prog Y.w) A (.builtin "all.loop" ⟨[.ref a], []⟩) R s := by
  intro n
  induction n with
  | zero =>
    intro s gs H pins σ I hgs hgo
    refine codeAny_builtin F.entry_all_loop ?_
    rw [Around.under_plainId F.plain_all_loop _]
    show wpAny _ A.in1 (pyNext (.ref a) >>= _) _ _ s
    refine wpAny_bind (wpAny_pyNext_genexpQ (P := gxR Y σw false Q g0) hh I.nolimit hroom (hgen _ (I.pin (a, go) (List.mem_append_left _ hp)).1) hgs hgo (fun v s₁ gs' hb hv => ?_) (fun s₁ hp h' hk => ?_))
    · obtain ⟨k, H', pins', σ', rfl, I', hg', q⟩ := hv
      refine wpAny_bind (wpAny_holding (wpAny_truthy_bool (wpAny_bind (wpAny_letGo ?_))))
      cases k with
      | true =>
        rw [if_neg (by decide)] at q
        exact (q s₁.gens I'.bare hg').elim
      | false =>
        rw [if_pos rfl] at q
        simp only [Bool.false_eq_true, if_false]
        refine wpAny_bind (wpAny_rule (wpAny_pure ?_))
        exact hS H' pins' σ' s₁ gs' hb I' q
    · obtain ⟨H', I', qq, hg'⟩ := hp
      refine wpAny_bind (wpAny_rule (wpAny_pure ?_))
      exact hE H' s₁ h' I' qq hk
  | succ n ih =>
    intro s gs H pins σ I hgs hgo
    refine codeAny_builtin F.entry_all_loop ?_
    rw [Around.under_plainId F.plain_all_loop _]
    show wpAny _ A.in1 (pyNext (.ref a) >>= _) _ _ s
    refine wpAny_bind (wpAny_pyNext_genexpQ (P := gxR Y σw false Q g0) hh I.nolimit hroom (hgen _ (I.pin (a, go) (List.mem_append_left _ hp)).1) hgs hgo (fun v s₁ gs' hb hv => ?_) (fun s₁ hp h' hk => ?_))
    · obtain ⟨k, H', pins', σ', rfl, I', hg', q⟩ := hv
      refine wpAny_bind (wpAny_holding (wpAny_truthy_bool (wpAny_bind (wpAny_letGo ?_))))
      cases k with
      | true =>
        rw [if_neg (by decide)] at q
        simp only [if_true]
        refine wpAny_pure ⟨plainId_quiet F.plain_all_loop _, ih (s₁.setGen g0 gs') gs' H' pins' σ' (inv_gens I' (bare_set I'.bare hb)) ?_ (q _ (bare_set (bare_set I'.bare hb) rfl) ?_)⟩
        · simp [Shared.setGen, hg']
        · simpa [Shared.setGen] using hg'
      | false =>
        rw [if_pos rfl] at q
        simp only [Bool.false_eq_true, if_false]
        refine wpAny_bind (wpAny_rule (wpAny_pure ?_))
        exact hS H' pins' σ' s₁ gs' hb I' q
    · obtain ⟨H', I', qq, hg'⟩ := hp
      refine wpAny_bind (wpAny_rule (wpAny_pure ?_))
      exact hE H' s₁ h' I' qq hk
end
/-- all (st = false), any (st = true) -/
def tGx (st : Bool) (P : Addr) (wi : TI) (g : TG) (tt : TT) (te : TE) (vs : List Nat) : TE := fun σ H Q => wi σ H fun J H1 => TabG H1 P ∧ ∀ H2, Tabbed P H1 H2 → ∃ W : Nat → Nat → Hp → Prop, (∃ m, W 0 m H2) ∧ gxT J g tt te (wipe σ vs) vs st Q W
section
variable {X : Cx} {pins : List (Addr × Obj)} {σ : L2.St} {H : Hp} {s : Shared} {Q : VK} {c P : Addr} {elt tg iter : Expr} {ifs : List Expr} {scope : Scope} {gp : Pos} {own : List (Str × Nat)} {wi : TI} {g : TG} {tt : TT} {te : TE} {st : Bool}
theorem gx_core {Q' : Value → Shared → Prop} (hd : X.A.handled = none) (hroom : X.A.depth < recursionLimit) (hc : X.calm = true) (hN : X.N.Nodup) (TB : TabB X.base X.mg c P) (hcode : X.env.code = .ref c) (ok : BlkOk X.N X.env.scope scope own) (co : scope.isCoroutine = false)
    (hcell : ∀ y ∈ scope.names, y.2 ≠ .cell) (dot : scope.names.lookup (".0" : Str) = some NameKind.local) (hi : PI X tg iter wi)
    (hg : ∀ (s : Shared) (H : Hp) (C : Addr) (cv : Value) (fp : List Addr) (pn : List (Addr × Obj)), PG (gxC X s H scope C cv fp pn) tg g) (ht : ∀ (s : Shared) (H : Hp) (C : Addr) (cv : Value) (fp : List Addr) (pn : List (Addr × Obj)), PTs (gxC X s H scope C cv fp pn) ifs tt)
    (he : ∀ (s : Shared) (H : Hp) (C : Addr) (cv : Value) (fp : List Addr) (pn : List (Addr × Obj)), PE (gxC X s H scope C cv fp pn) elt te) (hs : ∀ v, genFold iter X.env v = pure v) (I : Inv X pins σ H s) (h : tGx st P wi g tt te (own.map (·.2)) σ H Q)
    (hQ : ∀ (s4 : Shared) (H2 : Hp) (cv : Value) (fp : List Addr) (a : Addr) (go : Obj) (g0 : Nat) (s5 : Shared) (gs : GenState) (n : Nat), Inv X pins σ H2 s4 → (∀ b ∈ fp, FpOk X pins H2 b) → (∀ h : Heap, h.get? a = some go → h.IsGen a g0) →
      Inv (gxC X s4 H2 scope s4.heap.objs.size cv fp [(a, go)]) [] (wipe σ (own.map (·.2))) H2 s5 → s5.gens[g0]? = some gs →
      gs.Goes (model X.prog X.w) X.A.in1.in1 (fun n s₀ r s₁ => r = .ok .next ∧ gxR (gxC X s4 H2 scope s4.heap.objs.size cv fp [(a, go)]) (wipe σ (own.map (·.2))) st Q g0 n s₀ s₁) (gxY (gxC X s4 H2 scope s4.heap.objs.size cv fp [(a, go)]) st Q g0) n (.send .none) (s5.setGen g0 .running) → Q' (.ref a) s5) :
    wpAny (model X.prog X.w) X.A (eval (.GeneratorExp elt [⟨tg, iter, ifs, 0⟩] scope gp) X.env) Q' X.xe s := by
  have hfree := blk_free I ok
  refine wpAny_GeneratorExp_make co (closure_ok fun y hy e => hfree y hy e) hcell dot ok.kind hroom (thn (hi.run pins s σ H _ I h) fun xv s1 hx => thn hx fun itv s2 h2 => ?_) hs
  obtain ⟨it, fp, tn, J, H2, e, I2, T, st2, f2, ⟨tb, hP, ht'⟩, q⟩ := h2
  subst e
  refine ⟨I2.nolimit, ?_⟩
  have atP : s2.heap.get? P = some { cls := .none, data := .fields tb } := I2.hok P _ hP
  have cd : PySem.W.CodeHd s2.heap c P := TB.code.keeps I2.bk
  have main : ∀ (cv : Value) (h3 : Heap) (tk : Nat) (tb' : Array Value), Heap.ExtBut P s2.heap h3 → s2.heap.objs.size ≤ h3.objs.size → h3.get? P = some { cls := .none, data := .fields tb' } → (∃ more, tb' = tb ++ more) → TriplesOk tb'.toList →
      wpAny (model X.prog X.w) X.A (builtinsFor X.env.globals X.env.builtins) (fun bi s4 => ∀ h', h'.Ns s4.heap.objs.size (fun y => if y = ".0" then some (.ref it) else none) → Heap.SameBut s4.heap.objs.size (s4.heap.push { cls := .type "frame", data := .dict #[] }) h' →
          Q' (.ref h'.objs.size) { s4 with
            gens := s4.gens.push (.fresh (.compStart (.GeneratorExp elt [⟨tg, iter, ifs, 0⟩] scope gp) 0 (.ref it) .none (genEnv scope (cloFrom X.env.cells scope.names []) s4.heap.objs.size cv bi X.env))),
            toks := s4.toks + 1 + 1 + 1,
            heap := h'.push { cls := .type "generator", data := .fields #[.int s4.gens.size 0, .str "<genexpr>" (s4.toks + 1), .str (X.env.qual ++ "<genexpr>") (s4.toks + 1 + 1)] } }) X.xe { s2 with heap := h3, toks := tk } := by
    rintro cv h3 tk tb' hx hsz hP3 ⟨more, rfl⟩ ht3
    have I3 : Inv X pins σ (upd H2 P (.tbl (tb ++ more))) { s2 with heap := h3, toks := tk } := inv_tab (g' := s2.gens) (d' := s2.drawn) I2 hP (fun b o nb e => hx b o nb e) hP3 I2.bare
    obtain ⟨W, ⟨m0, w0⟩, turn⟩ := q _ ⟨⟨tb ++ more, upd_same, ht3⟩, fun b hb => upd_ne hb⟩
    obtain ⟨bm, _, b1, b2, _, _, b5, b6, b7, b8⟩ := TB.bm
    have nfp : ∀ b ∈ fp, b ≠ P := fun b hb z => by
      have := (f2 b hb).1
      rw [z, hP] at this
      cases this
    have f3 : ∀ b ∈ fp, FpOk X pins (upd H2 P (.tbl (tb ++ more))) b := fun b hb => ⟨by rw [upd_ne (nfp b hb)]; exact (f2 b hb).1, (f2 b hb).2⟩
    have sz : ∀ b ∈ fp, b < h3.objs.size := fun b hb => by
      obtain ⟨o, e, _⟩ := T.obj _ _ st2 b hb
      exact Nat.lt_of_lt_of_le (Heap.lt_size e) hsz
    have st3 : tn 0 h3 := T.keep _ _ _ st2 fun b hb o e => hx b o (nfp b hb) e
    refine wpAny_builtinsFor (m := X.mg) (by rw [I3.ok.glob]; exact I3.mod.glob.keeps I3.bk) b1 b2 (I3.bk _ _ b5) b6 b7 b8 ?_
    generalize hs4 : ({ s2 with heap := h3, toks := tk } : Shared) = s4 at I3 ⊢
    have e43 : s4.heap = h3 := by rw [← hs4]
    intro h' hn' hs'
    generalize hH3 : upd H2 P (.tbl (tb ++ more)) = H3 at I3 w0 f3
    have hsz' : h'.objs.size = s4.heap.objs.size + 1 := by rw [hs'.1, Heap.size_push]
    have keep' : ∀ b o, s4.heap.get? b = some o → h'.get? b = some o := fun b o e => hs'.extBut b o (Nat.ne_of_lt (Heap.lt_size e)) (Heap.get?_push_of_some _ e)
    generalize hgo : ({ cls := .type "generator", data := .fields #[.int s4.gens.size 0, .str "<genexpr>" (s4.toks + 1), .str (X.env.qual ++ "<genexpr>") (s4.toks + 1 + 1)] } : Obj) = go
    have hgen : ∀ h : Heap, h.get? h'.objs.size = some go → h.IsGen h'.objs.size s4.gens.size := fun h e => by
      rw [← hgo] at e
      exact ⟨_, _, _, e, rfl, rfl, rfl⟩
    have hgd : ∀ v, go.data ≠ .cell v := fun v z => by rw [← hgo] at z; cases z
    have hga : (h'.push go).get? h'.objs.size = some go := by rw [← hgo]; exact Heap.get?_push_size _ rfl
    have kp : ∀ b o, s4.heap.get? b = some o → (h'.push go).get? b = some o := fun b o e => Heap.get?_push_of_some _ (keep' b o e)
    have f4 : ∀ b ∈ fp, FpOk X pins H3 b ∧ b < s4.heap.objs.size := fun b hb => ⟨f3 b hb, by rw [e43]; exact sz b hb⟩
    generalize hgs : GenState.fresh (.compStart (.GeneratorExp elt [⟨tg, iter, ifs, 0⟩] scope gp) 0 (.ref it) .none (genEnv scope (cloFrom X.env.cells scope.names []) s4.heap.objs.size cv builtinsNs X.env)) = gs
    have hbare : gs.bare = true := by rw [← hgs]; rfl
    have I5 := gen_start (tk := s4.toks + 1 + 1 + 1) (gs := s4.gens.push gs) (cv := cv) I3 ok hcell hN f4 (hn'.push go) kp (I3.bare.push hbare) (by rw [hsz']; exact Nat.lt_succ_self _) hga hgd
    refine hQ s4 H3 cv fp h'.objs.size go s4.gens.size _ gs (m0 + 1) I3 f3 hgen I5 (Array.getElem?_push_size ..) ?_
    subst hgs
    refine ⟨rfl, ?_⟩
    have stat : ∀ (σ' : L2.St) (H' : Hp) (s' : Shared), Inv (gxC X s4 H3 scope s4.heap.objs.size cv fp [(h'.objs.size, go)]) [] σ' H' s' → (∀ b ∈ fp, H' b = none) → ∀ b ∈ fp, FpOk (gxC X s4 H3 scope s4.heap.objs.size cv fp [(h'.objs.size, go)]) [] H' b := fun σ' H' s' I' hn b hb =>
      ⟨hn b hb, (I'.ok.exf b hb).1, I'.ok.exfs b hb, .inl hb, fun x c e => (I'.ok.exf b hb).2 x c e, fun p hp => by
        have hp : p ∈ [(h'.objs.size, go)] ++ ([] : List (Addr × Obj)) := hp
        rw [List.append_nil] at hp
        rw [List.mem_singleton.mp hp]
        have := (f4 b hb).2
        exact Nat.ne_of_gt (by rw [hsz']; exact Nat.lt_succ_of_lt this)⟩
    have h5 : tn 0 (h'.push go) := T.keep _ _ _ st3 fun b hb o e => kp b o (by rw [e43]; exact e)
    exact seg_gs (Y := gxC X s4 H3 scope s4.heap.objs.size cv fp [(h'.objs.size, go)]) (A' := X.A.in1.in1) (st := st) (Q := Q) (W := W) (vs := own.map (·.2)) rfl (fun _ _ z => z) hc co T (hg ..) (ht ..) (he ..) stat turn m0 H3 _ _ (inv_gens I5 (bare_set I5.bare rfl)) h5 (fun b hb => (f3 b hb).1) w0 (by
      show s4.gens.size < ((s4.gens.push _).setIfInBounds _ _).size
      simp)
  cases hf : codeAmong gp tb.toList with
  | none =>
    refine wpAny_genexprCodeX hcode (cd.code atP ht') (cd.tab atP) hf fun c9 h9 tk hx hge hlt hco _ htab _ => ?_
    obtain ⟨o1, vs, f1, tf, fl, tg, inF, tx, tt, op, _, _, _, _, _, _, _, _, _, htr, _⟩ := hco
    exact main _ h9 tk _ hx (Nat.le_trans hge (Nat.le_of_lt hlt)) htab.2 ⟨_, rfl⟩ htr
  | some cv => exact wpAny_genexprCode_hit hcode (cd.code atP ht') hf (main cv s2.heap s2.toks tb (Heap.ExtBut.refl _ _) (Nat.le_refl _) atP ⟨#[], by simp⟩ ht')
end
end Dl
set_option Elab.async false
set_option linter.all false
set_option maxRecDepth 100000
set_option maxHeartbeats 4000000
namespace Dl
open PySem PySem.Spec PyProof.Rows L2 GxR
section
variable {X : Cx} {c P : Addr} {elt tg iter : Expr} {ifs : List Expr} {scope : Scope} {p gp pos : Pos} {own : List (Str × Nat)} {wi : TI} {g : TG} {tt : TT} {te : TE} {k : Nat}
theorem gx_back {pins : List (Addr × Obj)} {σ σ' : L2.St} {H2 H' : Hp} {s4 s1 : Shared} {cv : Value} {fp : List Addr} {pn pins' : List (Addr × Obj)} (I4 : Inv X pins σ H2 s4) (f4 : ∀ b ∈ fp, FpOk X pins H2 b) (I : Inv (gxC X s4 H2 scope s4.heap.objs.size cv fp pn) pins' σ' H' s1) : Inv X pins σ H' s1 :=
  I4.call' (ch := fp) I.os I.base I.hok I.bare fun b hb => ⟨(f4 b hb).2.2.2.1, (f4 b hb).2.1, (f4 b hb).2.2.2.2.1, (f4 b hb).2.2.2.2.2⟩
theorem pe_all (hr : Room k X.A) (hgl : Gl X "all") (hm : X.mg "all" = none) (hc : X.calm = true) (hN : X.N.Nodup) (TB : TabB X.base X.mg c P) (hcode : X.env.code = .ref c) (ok : BlkOk X.N X.env.scope scope own) (co : scope.isCoroutine = false)
    (hcell : ∀ y ∈ scope.names, y.2 ≠ .cell) (dot : scope.names.lookup (".0" : Str) = some NameKind.local) (hi : PI X tg iter wi)
    (hg : ∀ (s : Shared) (H : Hp) (C : Addr) (cv : Value) (fp : List Addr) (pn : List (Addr × Obj)), PG (gxC X s H scope C cv fp pn) tg g) (ht : ∀ (s : Shared) (H : Hp) (C : Addr) (cv : Value) (fp : List Addr) (pn : List (Addr × Obj)), PTs (gxC X s H scope C cv fp pn) ifs tt)
    (he : ∀ (s : Shared) (H : Hp) (C : Addr) (cv : Value) (fp : List Addr) (pn : List (Addr × Obj)), PE (gxC X s H scope C cv fp pn) elt te) (hs : ∀ v, genFold iter X.env v = pure v := by intro _; rfl)
    (hse : starEach [.GeneratorExp elt [⟨tg, iter, ifs, 0⟩] scope gp] X.env = (false, eval (.GeneratorExp elt [⟨tg, iter, ifs, 0⟩] scope gp) X.env) :: starEach [] X.env := by rfl) :
    PE X (.Call (.Name "all" p) [.GeneratorExp elt [⟨tg, iter, ifs, 0⟩] scope gp] [] pos) (tGx false P wi g tt te (own.map (·.2))) := by
  have hbb : bootBuiltins "all" = some (.builtin "all") := by decide +kernel
  refine ⟨fun pins s σ H Q I h => wpAny_Call_Name_kw (ld_blt I hgl hm hbb (PyProof.Rows.callWith_builtin1 ?_ hse (by rfl)))⟩
  rw [hse] -- all
  show wpAny _ _ (spliced ((false, eval (.GeneratorExp elt [⟨tg, iter, ifs, 0⟩] scope gp) X.env) :: backTo pos (starEach [] X.env))) _ _ s
  have hroom : X.A.depth < recursionLimit := by have := hr.dp; omega
  refine Calls.spliced_cons (gx_core hr.hd hroom hc hN TB hcode ok co hcell dot hi hg ht he hs I h fun s4 H2 cv fp a go g0 s5 gs n I4 f4 hgen I5 hgs hgo => Calls.spliced_nil ?_)
  refine call_function_tree F.kind_all F.plain_all F.entry_all (F.args_all1 _) ?_
  unfold Builtin.«all»
  refine wpAny_bind (m := oneArg "all" _) (wpAny_pure ?_)
  refine wpAny_bind (wpAny_pyIter_gen (hgen _ (I5.pin (a, go) (by simp)).1) ?_)
  refine wpAny_pure ⟨plainId_quiet F.plain_all_loop _, gx_all (Y := gxC X s4 H2 scope s4.heap.objs.size cv fp [(a, go)]) (go := go) (Q := Q) (σw := wipe σ (own.map (·.2))) hr.hd hroom (by simp) hgen (fun H' s1 h' I1 q hk => ?_) (fun H' pins' σ' s1 gs' hb I1 q => ?_) n s5 gs H2 _ _ I5 hgs hgo⟩
  · exact ⟨.bl true, H', inv_gens ((gx_back I4 f4 I1).kept (t' := s1.toks) hk) (bare_set I1.bare rfl), rfl, q⟩
  · exact ⟨.bl false, H', inv_gens (gx_back I4 f4 I1) (bare_set I1.bare hb), rfl, q⟩
/-- room for what the element calls -/
theorem Room_gx {k : Nat} {scope : Scope} {C : Addr} {cv : Value} (hr : Room (k + 1) X.A) : Room k (X.A.in1.in1.deeper (gxE X scope C cv)) :=
  ⟨hr.hd, by have := hr.dp; show X.A.depth + 1 + 3 * k + 5 < _; omega, by have := hr.un; show X.A.units + 1 + 1 + 3 + 16 * k + 200 < _; omega⟩
end
/-! ### on data -/
/-- the table of code objects at P is among what is shared -/
structure ZTab {S : Type} (Z : Zk S) (P : Addr) : Prop where
  m : Z.M P
  tab : ∀ H s, Z.R H s → TabG H P
  put : ∀ H H' s, Z.R H s → Tabbed P H H' → Z.R H' s
section
variable {S : Type}
/-- all (st = false), any (st = true) -/
def quF (st : Bool) (t : Tg) (q : Et S) (f : Ev S) (ρ : Rho) : List D → S → Option (Bool × S)
  | [], s => some (!st, s)
  | d :: ds, s => match t d ρ with
    | none => none
    | some ρ1 => bnd (q ρ1 s) fun b s => if b = true then bnd (f ρ1 s) fun y s => bnd (put (asB y) s) fun k s => if k = st then some (st, s) else quF st t q f ρ ds s else quF st t q f ρ ds s
def cQu (st : Bool) (fi : Ea S) (t : Tg) (q : Et S) (f : Ev S) (vs : List Nat) : Ev S := fun ρ s => bnd (fi ρ s) fun ds s => bnd (quF st t q f (wipeR ρ vs) ds s) fun b s => some (.bool b, s)
variable {X : Cx} {G : Kx} {Z : Zk S} {W : List Nat} {f : Ev S}
theorem tabbed_fr {M : Bar} {P : Addr} {H H' : Hp} (h : Tabbed P H H') (m : M P) : Lc.Fr M H H' := fun b o e => by
  by_cases hb : b = P
  · subst hb
    obtain ⟨ps, q, _⟩ := h.1
    exact ⟨_, q, fun z => absurd m z⟩
  · exact ⟨o, (h.2 b hb).trans e, fun _ => rfl⟩
theorem qu_at {P : Addr} (zt : ZTab Z P) {fi : Ea S} {t : Tg} {us vs : List Nat} {q : Et S} {tt : TT} {st : Bool} {σ : L2.St} {H : Hp} {Q : VK} (hu : ∀ i ∈ us, i ∈ vs) (hq : ∀ σ H Q, tEt G Z W q σ H Q → tt σ H Q)
    (h : tEx G Z W (cQu st fi t q f vs) σ H Q) : tGx st P (tIt G Z W fi) (tTg G Z W us t) tt (tEx G Z W f) vs σ H Q := by
  obtain ⟨B, O, ρ, s, d, s', eo, hR, hf, hQ⟩ := h
  unfold cQu at hf
  obtain ⟨xs, s1, h1, hf⟩ := bnd_some hf
  obtain ⟨b, s2, h2, hf⟩ := bnd_some hf
  cases hf
  refine ⟨B, O, ρ, s, xs, s1, eo, hR, h1, fun J H1 f1 wk R1 => ⟨zt.tab _ _ R1, fun H2 tb => ?_⟩⟩
  obtain ⟨Gd, Y, w, k⟩ := wk
  have fT : Lc.Fr Z.M H1 H2 := tabbed_fr tb zt.m
  have R2 := zt.put _ _ _ R1 tb
  have eo2 := (eo.fr f1).fr fT
  have st0 : ∀ {H3 : Hp}, Lc.Fr Z.M H1 H3 → ∀ a o, H1 a = some o → ¬ (B a ∨ O a) → H3 a = some o ∧ ¬ (B a ∨ O a) := fun f2 a o e n => ⟨f2.at e fun z => n (.inl (eo.mb a z)), n⟩
  have dm : ∀ {H3 : Hp}, Eo G Z W B O H3 σ ρ → ∀ a, (B a ∨ O a) → H3 a ≠ none := fun e2 a z => z.elim (e2.bd a) (e2.od a)
  refine ⟨fun i m H3 => m = xs.length - i ∧ i ≤ xs.length ∧ ∃ s3, Eo G Z W B O H3 σ ρ ∧ Lc.Fr Z.M H1 H3 ∧ Z.R H3 s3 ∧ quF st t q f (wipeR ρ vs) (xs.drop i) s3 = some (b, s'), ⟨_, rfl, Nat.zero_le _, s1, eo2, fT, R2, h2⟩, ?_⟩
  rintro i m H3 ⟨rfl, hi, s3, eo3, f3, R3, hl⟩
  have gd := (k _ H3 (st0 f3) (dm eo3)).1
  by_cases hlt : i < xs.length
  · refine .inr ⟨w.goes i H3 hlt gd, fun H4 => ∃ s4, Eo G Z W B O H4 σ ρ ∧ Lc.Fr Z.M H1 H4 ∧ Z.R H4 s4 ∧ quF st t q f (wipeR ρ vs) (xs.drop (i + 1)) s4 = some (b, s'), fun H4 p4 => ⟨xs.length - (i + 1), by omega, rfl, hlt, p4⟩, fun x H4 y => ?_⟩
    have y := w.yields i H3 x H4 hlt gd y
    have hd : xs[i]? = some xs[i] := by simp [hlt]
    obtain ⟨sm, rp⟩ := (k _ H3 (st0 f3) (dm eo3)).2 i xs[i] x H4 hd y
    rw [List.drop_eq_getElem_cons hlt] at hl
    unfold quF at hl
    split at hl
    · cases hl
    · rename_i ρ3 e1
      have eo4 := (eo3.fr (Lc.Fr.of sm)).wipe vs
      refine ⟨_, O, wipeR ρ vs, xs[i], ρ3, eo4, rp, e1, fun σ3 eo5 kk => ⟨wipe_ext hu (by rw [kk.1, wipe_length]) kk.2, ?_⟩⟩
      obtain ⟨b1, s4, h4, hl⟩ := bnd_some hl
      refine hq _ _ _ ⟨_, O, ρ3, s3, b1, s4, eo5, Z.same R3 sm, h4, fun H5 f5 R5 => ?_⟩
      have f35 : Lc.Fr Z.M H3 H5 := (Lc.Fr.of sm).trans f5
      cases b1 with
      | false =>
        rw [if_neg (by simp)] at hl
        refine iteF ?_
        exact ⟨s4, eo3.fr f35, f3.trans f35, R5, hl⟩
      | true =>
        rw [if_pos rfl] at hl
        refine iteT ?_
        obtain ⟨y1, s5, h5, hl⟩ := bnd_some hl
        obtain ⟨kb, s6, h6, hl9⟩ := bnd_some hl
        obtain ⟨h6, rfl⟩ := put_some h6
        refine ⟨_, O, ρ3, s4, y1, _, eo5.fr f5, R5, h5, fun u H6 f6 r6 R6 => ?_⟩
        have f36 := f35.trans f6
        unfold asB at h6
        split at h6
        · cases h6
          simp only [Rep] at r6
          refine ⟨kb, r6, ?_⟩
          by_cases hk : kb = st
          · rw [if_pos hk] at hl9 ⊢
            cases hl9
            exact hQ _ H6 (f1.trans (f3.trans f36)) (by simp only [Rep]) R6
          · rw [if_neg hk] at hl9 ⊢
            exact ⟨_, eo3.fr f36, f3.trans f36, R6, hl9⟩
        · cases h6
  · have e : i = xs.length := by omega
    subst e
    rw [List.drop_length] at hl
    cases hl
    exact .inl ⟨w.stops H3 gd, hQ _ H3 (f1.trans f3) (by simp only [Rep]) R3⟩
end
end Dl
set_option Elab.async false
set_option linter.all false
set_option maxRecDepth 100000
set_option maxHeartbeats 4000000
/-! the deck that a law draws from -/
namespace Dl
open PySem PySem.Spec PyProof.Rows L2
/-- cells, seed, how many were drawn -/
abbrev DS := List Int × Int × Int
abbrev MD (d c : Addr) : Addr → Prop := fun b => b = d ∨ b = c
abbrev hdD (d : Addr) : Nat → Addr → Prop := fun n a => n = 0 ∧ a = d
end Dl
set_option Elab.async false
set_option linter.all false
set_option maxRecDepth 100000
set_option maxHeartbeats 4000000
/-! functions on data: what they come to -/
namespace Dl
open PySem PySem.Spec PyProof.Rows L2
def Ok {α S : Type} (o : Option (α × S)) (Q : α → S → Prop) : Prop := ∃ a s, o = some (a, s) ∧ Q a s
section
variable {α β S : Type}
theorem Ok.imp {o : Option (α × S)} {Q R : α → S → Prop} (h : Ok o Q) (k : ∀ a s, Q a s → R a s) : Ok o R := let ⟨a, s, e, q⟩ := h; ⟨a, s, e, k a s q⟩
theorem Ok.of {o : Option (α × S)} {Q : α → S → Prop} {a : α} {s : S} (e : o = some (a, s)) (q : Q a s) : Ok o Q := ⟨a, s, e, q⟩
theorem ok_bnd {f : Option (α × S)} {k : α → S → Option (β × S)} {Q : β → S → Prop} : Ok (bnd f k) Q ↔ Ok f fun a s => Ok (k a s) Q := by
  constructor
  · rintro ⟨b, s, e, q⟩
    obtain ⟨a, s1, h1, h2⟩ := bnd_some e
    exact ⟨a, s1, h1, b, s, h2, q⟩
  · rintro ⟨a, s1, rfl, b, s, h2, q⟩
    exact ⟨b, s, h2, q⟩
@[simp] theorem ok_some {a : α} {s : S} {Q : α → S → Prop} : Ok (some (a, s)) Q ↔ Q a s := by
  constructor
  · rintro ⟨b, s', e, q⟩
    cases e
    exact q
  · intro q
    exact ⟨a, s, rfl, q⟩
@[simp] theorem ok_none {Q : α → S → Prop} : Ok (none : Option (α × S)) Q ↔ False := by
  constructor
  · rintro ⟨b, s', e, q⟩
    cases e
  · exact False.elim
theorem ok_put {o : Option α} {s : S} {Q : α → S → Prop} : Ok (put o s) Q ↔ ∃ a, o = some a ∧ Q a s := by
  constructor
  · rintro ⟨b, s', e, q⟩
    obtain ⟨h1, rfl⟩ := put_some e
    exact ⟨b, h1, q⟩
  · rintro ⟨a, rfl, q⟩
    exact ⟨a, s, rfl, q⟩
/-! how combinators come to something -/
variable {ρ : Rho} {s : S} {f g : Ev S} {fa : Ea S}
theorem k_qAnd {q r : Et S} {Q : Bool → S → Prop} (h : Ok (q ρ s) fun b s => if b = true then Ok (r ρ s) Q else Q false s) : Ok (qAnd q r ρ s) Q := by
  unfold qAnd
  rw [ok_bnd]
  refine h.imp fun b s h => ?_
  cases b <;> simpa using h
theorem k_qOr {q r : Et S} {Q : Bool → S → Prop} (h : Ok (q ρ s) fun b s => if b = true then Q true s else Ok (r ρ s) Q) : Ok (qOr q r ρ s) Q := by
  unfold qOr
  rw [ok_bnd]
  refine h.imp fun b s h => ?_
  cases b <;> simpa using h
/-! statements -/
variable {F F' : Sv S} {Q : Rs → S → Prop}
theorem k_seq (h : Ok (F ρ s) fun r s => match r with | .nx ρ' => Ok (F' ρ' s) Q | r => Q r s) : Ok (sSeq F F' ρ s) Q := by
  obtain ⟨r, s', e, h⟩ := h
  unfold sSeq
  rw [e]
  cases r with
  | nx ρ' => exact h
  | rt d => exact ⟨_, _, rfl, h⟩
  | bk d => exact ⟨_, _, rfl, h⟩
  | ct d => exact ⟨_, _, rfl, h⟩
theorem k_set {i : Nat} (h : Ok (f ρ s) fun d s => Q (.nx (ρ.set i (some d))) s) : Ok (sSet i f ρ s) Q := by
  unfold sSet
  rw [ok_bnd]
  exact h.imp fun x s h => ok_some.mpr h
theorem k_own {i : Nat} (h : Ok (fa ρ s) fun d s => Q (.nx (ρ.set i (some (.list d)))) s) : Ok (sOwn i fa ρ s) Q := by
  unfold sOwn
  rw [ok_bnd]
  exact h.imp fun x s h => ok_some.mpr h
theorem k_ret (h : Ok (f ρ s) fun d s => Q (.rt d) s) : Ok (sRet f ρ s) Q := by
  unfold sRet
  rw [ok_bnd]
  exact h.imp fun x s h => ok_some.mpr h
theorem k_sIf {q : Et S} (h : Ok (q ρ s) fun b s => if b = true then Ok (F ρ s) Q else Ok (F' ρ s) Q) : Ok (sIf q F F' ρ s) Q := by
  unfold sIf
  rw [ok_bnd]
  refine h.imp fun b s h => ?_
  cases b <;> simpa using h
theorem k_nx (h : Q (.nx ρ) s) : Ok (sNx ρ s) Q := ⟨_, _, rfl, h⟩
theorem k_asg {t : Tg} (h : Ok (f ρ s) fun d s => ∃ ρ', t d ρ = some ρ' ∧ Q (.nx ρ') s) : Ok (sAsg f t ρ s) Q := by
  unfold sAsg
  rw [ok_bnd]
  refine h.imp fun x s ⟨ρ', e, h⟩ => ?_
  rw [e]
  exact ok_some.mpr h
theorem k_app {i : Nat} {ds : List D} (hd : ρ[i]? = some (some (.list ds))) (hl : ds.length < sizeLine) (h : Ok (f ρ s) fun d s => Q (.nx (ρ.set i (some (.list (ds ++ [d]))))) s) : Ok (sApp i f ρ s) Q := by
  unfold sApp
  rw [hd]
  simp only
  rw [ok_bnd]
  refine h.imp fun x s h => ?_
  rw [if_pos hl]
  exact ok_some.mpr h
theorem k_loop {t : Tg} {body : Sv S} (Iv : Nat → Rho → S → Prop) : ∀ (ds : List D) (i : Nat) (ρ : Rho) (s : S), Iv i ρ s →
    (∀ j d ρ s, ds[j]? = some d → Iv (i + j) ρ s → ∃ ρ1, t d ρ = some ρ1 ∧ Ok (body ρ1 s) fun r s => match r with | .nx ρ => Iv (i + j + 1) ρ s | .ct ρ => Iv (i + j + 1) ρ s | .bk ρ => Q (.nx ρ) s | .rt d => Q (.rt d) s) →
    (∀ ρ s, Iv (i + ds.length) ρ s → Q (.nx ρ) s) → Ok (loopF t body ds ρ s) Q
  | [], i, ρ, s, h, _, e => ⟨_, _, rfl, e ρ s h⟩
  | d :: ds, i, ρ, s, h, k, e => by
    obtain ⟨ρ1, h1, r, s1, h2, h3⟩ := k 0 d ρ s rfl h
    unfold loopF
    rw [h1]
    simp only
    rw [h2]
    have go : ∀ ρ s, Iv (i + 1) ρ s → Ok (loopF t body ds ρ s) Q := fun ρ s h => k_loop Iv ds (i + 1) ρ s h (fun j d' ρ s hd hI => by
      have := k (j + 1) d' ρ s (by simpa using hd) (by rw [show i + (j + 1) = i + 1 + j by omega]; exact hI)
      rw [show i + (j + 1) + 1 = i + 1 + j + 1 by omega] at this
      exact this) (fun ρ s hI => e ρ s (by rw [List.length_cons, show i + (ds.length + 1) = i + 1 + ds.length by omega]; exact hI))
    cases r with
    | nx ρ' => exact go ρ' s1 h3
    | ct ρ' => exact go ρ' s1 h3
    | bk ρ' => exact ⟨_, _, rfl, h3⟩
    | rt d => exact ⟨_, _, rfl, h3⟩
theorem k_for {fi : Ea S} {t : Tg} {body : Sv S} (h : Ok (fi ρ s) fun ds s => ∃ Iv : Nat → Rho → S → Prop, Iv 0 ρ s ∧
    (∀ j d ρ s, ds[j]? = some d → Iv j ρ s → ∃ ρ1, t d ρ = some ρ1 ∧ Ok (body ρ1 s) fun r s => match r with | .nx ρ => Iv (j + 1) ρ s | .ct ρ => Iv (j + 1) ρ s | .bk ρ => Q (.nx ρ) s | .rt d => Q (.rt d) s) ∧
    (∀ ρ s, Iv ds.length ρ s → Q (.nx ρ) s)) : Ok (sFor fi t body ρ s) Q := by
  unfold sFor
  rw [ok_bnd]
  refine h.imp fun ds s ⟨Iv, h0, h1, h2⟩ => ?_
  exact k_loop Iv ds 0 ρ s h0 (fun j d ρ s hd hI => by rw [Nat.zero_add] at *; exact h1 j d ρ s hd hI) (fun ρ s hI => h2 ρ s (by rw [Nat.zero_add] at hI; exact hI))
theorem k_fn {n : Nat} {ds : List D} {Q : D → S → Prop} (h : Ok (F (startR n ds) s) fun r s => match r with | .rt d => Q d s | .nx _ => Q .none s | _ => False) : Ok (fnD n F ds s) Q := by
  obtain ⟨r, s', e, h⟩ := h
  unfold fnD
  rw [e]
  cases r with
  | rt d => exact ⟨_, _, rfl, h⟩
  | nx ρ => exact ⟨_, _, rfl, h⟩
  | bk _ => exact h.elim
  | ct _ => exact h.elim
/-- a comprehension by an invariant of what is made so far -/
theorem k_comp {t : Tg} {q : Et S} (P : Nat → List D → S → Prop) {Q : List D → S → Prop} : ∀ (ds : List D) (i : Nat) (acc : List D) (s : S), P i acc s →
    (∀ j d acc s, ds[j]? = some d → P (i + j) acc s → ∃ ρ1, t d ρ = some ρ1 ∧ Ok (q ρ1 s) fun b s => if b = true then Ok (f ρ1 s) fun y s => P (i + j + 1) (acc ++ [y]) s else P (i + j + 1) acc s) →
    (∀ acc s, P (i + ds.length) acc s → Q acc s) → Ok (compF t q f ρ ds s) fun ys s => Q (acc ++ ys) s
  | [], i, acc, s, h, _, e => ⟨_, _, rfl, by show Q (acc ++ []) s; rw [List.append_nil]; exact e acc s h⟩
  | d :: ds, i, acc, s, h, k, e => by
    obtain ⟨ρ1, h1, b, s1, h2, h3⟩ := k 0 d acc s rfl h
    unfold compF
    rw [h1]
    simp only
    rw [h2, bnd_of]
    have go : ∀ acc s, P (i + 1) acc s → Ok (compF t q f ρ ds s) fun ys s => Q (acc ++ ys) s := fun acc s h => k_comp P ds (i + 1) acc s h (fun j d' acc s hd hI => by
      have := k (j + 1) d' acc s (by simpa using hd) (by rw [show i + (j + 1) = i + 1 + j by omega]; exact hI)
      rw [show i + (j + 1) + 1 = i + 1 + j + 1 by omega] at this
      exact this) (fun acc s hI => e acc s (by rw [List.length_cons, show i + (ds.length + 1) = i + 1 + ds.length by omega]; exact hI))
    cases b with
    | false => exact go acc s1 (by simpa using h3)
    | true =>
      simp only [if_true] at h3 ⊢
      obtain ⟨y, s2, h4, h5⟩ := h3
      rw [h4, bnd_of, ok_bnd]
      refine (go (acc ++ [y]) s2 h5).imp fun ys s hq => ok_some.mpr ?_
      rw [List.append_assoc] at hq
      exact hq
theorem k_lc {fi : Ea S} {t : Tg} {q : Et S} {vs : List Nat} {Q : List D → S → Prop} (h : Ok (fi ρ s) fun ds s => ds.length ≤ sizeLine ∧ ∃ P : Nat → List D → S → Prop, P 0 [] s ∧
    (∀ j d acc s, ds[j]? = some d → P j acc s → ∃ ρ1, t d (wipeR ρ vs) = some ρ1 ∧ Ok (q ρ1 s) fun b s => if b = true then Ok (f ρ1 s) fun y s => P (j + 1) (acc ++ [y]) s else P (j + 1) acc s) ∧
    (∀ acc s, P ds.length acc s → Q acc s)) : Ok (lcF fi t q f vs ρ s) Q := by
  unfold lcF
  rw [ok_bnd]
  refine h.imp fun ds s ⟨hl, P, h0, h1, h2⟩ => ?_
  rw [if_pos hl]
  have := k_comp (ρ := wipeR ρ vs) (t := t) (q := q) (f := f) P (Q := Q) ds 0 [] s h0 (fun j d acc s hd hI => by rw [Nat.zero_add] at *; exact h1 j d acc s hd hI) (fun acc s hI => h2 acc s (by rw [Nat.zero_add] at hI; exact hI))
  simpa using this
end
/-! the same as equations, for simp -/
section
variable {α β S : Type} {ρ : Rho} {s : S} {f g : Ev S} {fa : Ea S} {F F' : Sv S} {Q : Rs → S → Prop}
end
section
variable {S : Type} {ρ : Rho} {s : S} {f : Ev S} {Q : Rs → S → Prop}
/-- a for: what is walked is told by P -/
theorem k_forP {fi : Ea S} {t : Tg} {body : Sv S} (P : List D → S → Prop) (h : Ok (fi ρ s) P) (k : ∀ ds s, P ds s → ∃ Iv : Nat → Rho → S → Prop, Iv 0 ρ s ∧
    (∀ j d ρ s, ds[j]? = some d → Iv j ρ s → ∃ ρ1, t d ρ = some ρ1 ∧ Ok (body ρ1 s) fun r s => match r with | .nx ρ => Iv (j + 1) ρ s | .ct ρ => Iv (j + 1) ρ s | .bk ρ => Q (.nx ρ) s | .rt d => Q (.rt d) s) ∧
    (∀ ρ s, Iv ds.length ρ s → Q (.nx ρ) s)) : Ok (sFor fi t body ρ s) Q := k_for (h.imp k)
theorem k_lcP {fi : Ea S} {t : Tg} {q : Et S} {vs : List Nat} {Q : List D → S → Prop} (P : List D → S → Prop) (h : Ok (fi ρ s) P) (k : ∀ ds s, P ds s → ds.length ≤ sizeLine ∧ ∃ P : Nat → List D → S → Prop, P 0 [] s ∧
    (∀ j d acc s, ds[j]? = some d → P j acc s → ∃ ρ1, t d (wipeR ρ vs) = some ρ1 ∧ Ok (q ρ1 s) fun b s => if b = true then Ok (f ρ1 s) fun y s => P (j + 1) (acc ++ [y]) s else P (j + 1) acc s) ∧
    (∀ acc s, P ds.length acc s → Q acc s)) : Ok (lcF fi t q f vs ρ s) Q := k_lc (h.imp k)
end
/-! draws -/
/-- the n-th of a list, told by an int in its bounds -/
theorem atI_lt {α : Type} {xs : List α} {r : Int} (h0 : 0 ≤ r) (h : r < xs.length) : ∃ v, v ∈ xs ∧ xs[r.toNat]? = some v ∧ atI xs r = some v := by
  have hn : r.toNat < xs.length := by omega
  refine ⟨xs[r.toNat], List.getElem_mem hn, List.getElem?_eq_getElem hn, ?_⟩
  have := atI_nat (xs := xs) (j := r.toNat) (List.getElem?_eq_getElem hn)
  rw [show ((r.toNat : Nat) : Int) = r by omega] at this
  exact this
end Dl
set_option Elab.async false
set_option linter.all false
set_option maxRecDepth 100000
set_option maxHeartbeats 4000000
/-! the end of a law one of whose defs has a generator expression -/
namespace Lc
open PySem PySem.Spec PyProof.Rows L2
theorem walk_tab {l : PySem.W.OpenLaw} {n k : Nat} {q : Program} {loose : List Str} {XP : (Str → Option Value) → Heap → Prop} {YP : World → Heap → Prop} {d : DefRec} {K : Params → PySem.W.Frag} {CX : World → CXT} {x : Str}
    (hn : l.most = some n) (hn2 : n ≤ sizeLine) (hdf : d.params.defaults = []) (hr : Room k callerA) (hY : ∀ (w : World) (h : Heap), YP w h → (K w.params).In h)
    (F : ∀ (w : World) (mean : ExcName → Option Value) (mg mb : Str → Option Value) (fa : Addr) (h : Heap), Top q (PySem.W.looseW q loose) mean mg mb h → (K w.params).In h → mg d.name = some (.ref fa) → LamX.LawAtS l w (K w.params) (CX w) k n x mg fa h)
    (hCX : ∀ (w : World) (H : Hp) (s : Shared) (e : Value) (s' : Shared), CX w [] H s (fun _ _ _ => False) e s' → False) : PySem.W.WalkO q loose XP YP l.row.toRowW d [] (fun f vs => PySem.call f vs) := by
  refine Att.attach_callB hn hdf fun w sa sb mg mb fa o pm cd doc a vs ns G Y ho hd hcd hmg hobj hints hlen hbits hg => ?_
  obtain ⟨fd, cs, sp, hT, nT, C, hb, hsp, hF⟩ := F w _ mg mb fa _ G.T (hY w _ Y) hmg
  exact LamX.law_callTs (hY w _ Y) G.T.g G.T.b G.T.builtins G.T.nolimit hg hT nT C G.T.bmain hobj hints (Nat.le_trans hlen hn2) hr hF hb (fun H hH hS => hsp H a ns hlen hbits hH hS) fun H e s' => hCX w H sb e s'
end Lc
set_option Elab.async false
set_option linter.all false
set_option maxRecDepth 100000
set_option maxHeartbeats 4000000
namespace Dl
open PySem PySem.Spec PyProof.Rows L2
section
variable {P : Program} {w : World} {K : PySem.W.Frag} {mg : Str → Option Value} {base : Heap} {f : Addr} {fd : FuncData}
/-- a def of which nothing is asked -/
theorem fn_no {S : Type} {G : Kx} {Z : Zk S} {n k : Nat} {ps : List Str} : FnOk P w K mg base CX0 k f fd ps (spD G Z n (fun _ _ => none)) :=
  ⟨fun vs H Q E h => (by obtain ⟨B, ds, s, d, s', _, _, _, _, _, h, _⟩ := h; cases h), fun A outer s H args us vs Q E _ _ _ _ h => (by obtain ⟨B, ds, s, d, s', _, _, _, _, _, h, _⟩ := h; cases h)⟩
/-- slot 0 the script, slot 1 the deck -/
def lawR (n : Nat) : Rho := none :: some (hnd 0) :: List.replicate n none
end
end Dl
set_option Elab.async false
set_option linter.all false
set_option maxRecDepth 100000
set_option maxHeartbeats 4000000
namespace Dl
open PySem PySem.Spec PyProof.Rows L2 GxR
section
variable {S : Type} {X : Cx} {G : Kx} {Z : Zk S} {W : List Nat} {f : Ev S} {c T : Addr} {elt tg iter : Expr} {ifs : List Expr} {scope : Scope} {p gp pos : Pos} {own : List (Str × Nat)} {fi : Ea S} {t : Tg} {us : List Nat} {q : Et S} {tt : TT} {k : Nat}
theorem gx_room {s : Shared} {H : Hp} {C : Addr} {cv : Value} {fp : List Addr} {pn : List (Addr × Obj)} (hr : Room (k + 1) X.A) : Room k (gxC X s H scope C cv fp pn).A := Room_gx hr
theorem ex_all (zt : ZTab Z T) (TB : TabB X.base X.mg c T) (hcode : X.env.code = .ref c) (hr2 : Room (k + 1) X.A) (hgl : Gl X "all") (hm : X.mg "all" = none) (hc : X.calm = true) (hN : X.N.Nodup) (hi : PI X tg iter (tIt G Z W fi)) (ok : BlkOk X.N X.env.scope scope own)
    (hg : ∀ (s : Shared) (H : Hp) (C : Addr) (cv : Value) (fp : List Addr) (pn : List (Addr × Obj)), PG (gxC X s H scope C cv fp pn) tg (tTg G Z W us t)) (ht : ∀ (s : Shared) (H : Hp) (C : Addr) (cv : Value) (fp : List Addr) (pn : List (Addr × Obj)), Room k (gxC X s H scope C cv fp pn).A → PTs (gxC X s H scope C cv fp pn) ifs tt)
    (hq : ∀ σ H Q, tEt G Z W q σ H Q → tt σ H Q) (he : ∀ (s : Shared) (H : Hp) (C : Addr) (cv : Value) (fp : List Addr) (pn : List (Addr × Obj)), Room k (gxC X s H scope C cv fp pn).A → PE (gxC X s H scope C cv fp pn) elt (tEx G Z W f))
    (co : scope.isCoroutine = false := by rfl) (hcell : ∀ y ∈ scope.names, y.2 ≠ .cell := by decide +kernel) (dot : scope.names.lookup (".0" : Str) = some NameKind.local := by rfl) (hu : ∀ i ∈ us, i ∈ own.map (·.2) := by decide) (hs : ∀ v, genFold iter X.env v = pure v := by intro _; rfl)
    (hse : starEach [.GeneratorExp elt [⟨tg, iter, ifs, 0⟩] scope gp] X.env = (false, eval (.GeneratorExp elt [⟨tg, iter, ifs, 0⟩] scope gp) X.env) :: starEach [] X.env := by rfl) :
    PE X (.Call (.Name "all" p) [.GeneratorExp elt [⟨tg, iter, ifs, 0⟩] scope gp] [] pos) (tEx G Z W (cQu false fi t q f (own.map (·.2)))) :=
  imp_pe (pe_all hr2 hgl hm hc hN TB hcode ok co hcell dot hi hg (fun s H C cv fp pn => ht s H C cv fp pn (gx_room hr2)) (fun s H C cv fp pn => he s H C cv fp pn (gx_room hr2)) hs hse) fun σ H Q h => qu_at zt hu hq h
end
/-- a def whose code object is known -/
structure FunC (K : PySem.W.Frag) (x qual : Str) (st : Stmt) (f : Addr) (fd : FuncData) (c : Addr) : Prop where
  ex : ∃ (oc : Value) (od : Option Addr) (kV doc pm : Value) (an : Option Addr) (ct : Value) (osl : Array (Option Value)),
    fd = PySem.W.fnOf x qual (defArgs st) (defBody st) (defScope st) .none kV doc pm an (.ref c) ct ∧ K.lookup f = some ⟨oc, od, .func fd, osl⟩ ∧ PySem.W.codeIn K (.ref c) qual = true
theorem funC_mk {K : PySem.W.Frag} {x qual : Str} {st : Stmt} {f c : Addr} {oc : Value} {od an : Option Addr} {osl : Array (Option Value)} {kV doc pm ct : Value} (l : K.lookup f = some ⟨oc, od, .func (PySem.W.fnOf x qual (defArgs st) (defBody st) (defScope st) .none kV doc pm an (.ref c) ct), osl⟩)
    (h : PySem.W.codeIn K (.ref c) qual = true) : FunC K x qual st f (PySem.W.fnOf x qual (defArgs st) (defBody st) (defScope st) .none kV doc pm an (.ref c) ct) c := ⟨oc, od, kV, doc, pm, an, ct, osl, rfl, l, h⟩
section
variable {S : Type} {P : Program} {w : World} {K : PySem.W.Frag} {mg : Str → Option Value} {base : Heap} {G : Kx} {Z : Zk S} {W : List Nat} {F : Sv S}
theorem fn_okC {nm qual : Str} {st : Stmt} {fad c : Addr} {fd : FuncData} {N ps : List Str} {k n m : Nat} (U : FunC K nm qual st fad fd c) (sc : FnScope N ps (defScope st)) (hn : N.length = n) (hm : ps.length = m) (hmn : m ≤ n) (hW : ∀ i ∈ W, m ≤ i)
    (hb : ∀ (A : Around) (outer : List Env) (s : Shared) (H : Hp) (E : XK), Room k (A.deeper (envOfC qual (defScope st) s.heap.objs.size fad (.ref c))) → PSs (cxOf CX0 P w K mg base N qual (defScope st) fad (.ref c) A outer s H E).nox (defBody st) (tSt G Z W F)) :
    FnOk P w K mg base CX0 (k + 1) fad fd ps (spD G Z m (fnD n F)) := by
  obtain ⟨oc, od, kV, doc, pm, an, ct, osl, rfl, lk, hcd⟩ := U.ex
  refine fn_of lk hcd sc (fun vs H Q E h => ?_) (fun A outer s H vs Q E hr h => ?_)
  · obtain ⟨B, ds, s, d, s', h1, _, _, h2, _⟩ := h
    rw [h2.len, h1, hm]
  · refine ⟨_, (hb A outer s H E hr).nox, ?_⟩
    obtain ⟨B, ds, s0, d, s', h1, bd, mb, h2, R0, hF, q⟩ := h
    have eo := eo_start (W := W) (Z := Z) (N := N) hn bd mb h2 (by omega) (by rw [h1]; exact hW)
    unfold fnD at hF
    have sr : Sr G Z W B H (fun _ => False) H (L2.start N vs) (startR n ds) s0 := ⟨eo, Lc.Fr.refl H, bd, fun _ z => z.elim, R0⟩
    split at hF
    · rename_i d' s1 e1
      cases hF
      exact ⟨B, H, fun _ => False, startR n ds, s0, .rt d, _, sr, e1, q⟩
    · rename_i ρ' s1 e1
      cases hF
      exact ⟨B, H, fun _ => False, startR n ds, s0, .nx ρ', _, sr, e1, fun O' σ' H' sr' _ => q .non H' sr'.fr (by simp only [Rep]) sr'.r⟩
    · cases hF
end
/-! ### the deck and the tables -/
/-- the tables at Ts are shared, too -/
def Zk.tb {S : Type} (Z : Zk S) (Ts : List Addr) (hne : ∀ H s a, Z.R H s → Z.M a → ∀ ps, H a ≠ some (.tbl ps)) : Zk S where
  M := fun a => Z.M a ∨ a ∈ Ts
  R := fun H s => Z.R H s ∧ ∀ T ∈ Ts, TabG H T
  dom := fun H s a h m => m.elim (Z.dom H s a h.1) fun m => by
    obtain ⟨ps, e, _⟩ := h.2 a m
    rw [e]
    simp
  loc := fun H H' s h k => ⟨Z.loc H H' s h.1 fun a m => k a (.inl m), fun T m => by
    obtain ⟨ps, e, t⟩ := h.2 T m
    exact ⟨ps, (k T (.inr m)).trans e, t⟩⟩
section
variable {P : Program} {w : World} {K : PySem.W.Frag} {mg : Str → Option Value} {base : Heap} {f : Addr} {fd : FuncData}
def spLawT (K : PySem.W.Frag) (Ts : List Addr) : Sp := fun vs H Q _ => ∃ (a : Addr) (ns : List Int), vs = [.ref a] ∧ SqL K H a (ns.map V.int) ∧ (∀ T ∈ Ts, TabG H T) ∧ ∀ H', Q (.bl true) H'
end
end Dl
set_option Elab.async false
set_option linter.all false
set_option maxRecDepth 100000
set_option maxHeartbeats 4000000
namespace Dl
open PySem PySem.Spec PyProof.Rows L2
section
variable {S : Type} {X : Cx} {G : Kx} {Z : Zk S} {W : List Nat} {f g : Ev S} {a b : Expr} {p p' pos pos' : Pos}
end
end Dl
set_option Elab.async false
set_option linter.all false
set_option maxRecDepth 100000
set_option maxHeartbeats 4000000
/-! zip of two lists, of two tuples -/
namespace Dl
open PySem PySem.Spec PyProof.Rows L2
def zipD : List D → List D → List D
  | x :: xs, y :: ys => pairD x y :: zipD xs ys
  | _, _ => []
theorem zipD_len : ∀ (xs ys : List D), (zipD xs ys).length = min xs.length ys.length
  | [], _ => by simp [zipD]
  | _ :: _, [] => by simp [zipD]
  | x :: xs, y :: ys => by simp only [zipD, List.length_cons, zipD_len xs ys]; omega
theorem zipD_get : ∀ {xs ys : List D} {i : Nat} {d : D}, (zipD xs ys)[i]? = some d → ∃ x y, xs[i]? = some x ∧ ys[i]? = some y ∧ d = pairD x y
  | [], _, i, d, h => by simp [zipD] at h
  | _ :: _, [], i, d, h => by simp [zipD] at h
  | x :: xs, y :: ys, 0, d, h => by
    simp only [zipD, List.getElem?_cons_zero, Option.some.injEq] at h
    exact ⟨x, y, rfl, rfl, h.symm⟩
  | x :: xs, y :: ys, i + 1, d, h => by
    simp only [zipD, List.getElem?_cons_succ] at h ⊢
    exact zipD_get h
section
variable {S : Type} {X : Cx} {G : Kx} {Z : Zk S} {W : List Nat} {fa : Ea S} {e e2 : Expr} {p pos : Pos}
end
end Dl
set_option Elab.async false
set_option linter.all false
set_option maxRecDepth 100000
set_option maxHeartbeats 4000000
/-! zip of a text and a tuple -/
namespace Dl
open PySem PySem.Spec PyProof.Rows L2
def ItzS (K : PySem.W.Frag) (x : Str) (b : Addr) : It :=
  ⟨fun i H => ∃ (ys : List V) (y : V), SqT K H b ys ∧ i < x.cps.size ∧ ys[i]? = some y,
    fun i H v H' => ∃ (T : Addr) (c : Nat) (y : V), v = .ref T ∧ H T = none ∧ H' = upd H T (.tup [.str ⟨#[c]⟩, y]) ∧ x.cps[i]? = some c ∧ ∀ ys, SqT K H b ys → ys[i]? = some y,
    fun i H => ∃ ys : List V, SqT K H b ys ∧ i ≤ x.cps.size ∧ i ≤ ys.length ∧ (x.cps.size ≤ i ∨ ys.length ≤ i)⟩
theorem turn_zipS {P : Program} {w : World} {K : PySem.W.Frag} {elts : List Expr} {kk : Nat} {tpos : Pos} {b z TI TO i1 i2 : Addr} {x : Str} {t : Tok} (S : ZipSep2 z TI TO i1 i2 [i1] [i2, b]) (hb : b ≠ i2) :
    Turn P w K (.Tuple elts kk tpos) (ItzS K x b) [z, TI, TO, i1, i2] z (fun i h => IsZip h z TI TO .none ∧ IsTupOf2 h TI (.ref i1) (.ref i2) ∧ (∃ x y, IsTupOf2 h TO x y) ∧ h.IsStrIter i1 (strIterType x) x t i ∧ h.IsTupleIter i2 b i) where
  mem := by simp
  obj := fun i h st c hc => by
    obtain ⟨s1, s2, ⟨_, _, s3⟩, ⟨o, s4, _, s5⟩, ⟨o', s6, _, s7⟩⟩ := st
    simp only [List.mem_cons, List.not_mem_nil, or_false] at hc
    obtain rfl | rfl | rfl | rfl | rfl := hc
    · exact ⟨_, s1, fun _ n => nomatch n⟩
    · exact ⟨_, s2, fun _ n => nomatch n⟩
    · exact ⟨_, s3, fun _ n => nomatch n⟩
    · exact ⟨o, s4, fun _ n => nomatch s5.symm.trans n⟩
    · exact ⟨o', s6, fun _ n => nomatch s7.symm.trans n⟩
  keep := fun i h h' st stays => by
    obtain ⟨s1, s2, ⟨u, v, s3⟩, ⟨o, s4, s5⟩, s6⟩ := st
    have of {q : Addr} (hq : q ∈ [z, TI, TO, i1, i2] := by simp) {ob : Obj} (e : h.get? q = some ob) : h'.get? q = some ob := stays q hq ob e
    exact ⟨of (by simp) s1, of (by simp) s2, ⟨u, v, of (by simp) s3⟩, ⟨o, of (by simp) s4, s5⟩, s6.at fun ob e => of (by simp) e⟩
  item := by
    intro X hP hw hK hc i pins s σ H E I hf st hg
    subst hP hw hK
    obtain ⟨hz, hTI, ⟨x0, y0, hTO⟩, h1, h2⟩ := st
    obtain ⟨ys, y, hqy, hi, hy⟩ := hg
    obtain ⟨its2, rv2, p2, _⟩ := I.tuple hqy
    obtain ⟨u2, hu2, ru2⟩ := rv2.get hy
    have hzl : z < s.heap.objs.size := Heap.lt_size hz
    have hh : X.A.in1.handled = none := I.ok.hd hc
    have hi2 : i < its2.toArray.size := by
      have := (List.getElem?_eq_some_iff.mp hu2).1
      simpa using this
    refine wpAny_pyNext_zipD2_item S (Draws.text hh i1 x t) (Draws.tuple hh i2 b hb its2.toArray) hz hTI hTO h1 ⟨h2, p2⟩ hi hi2 fun x1 x2 h' tk y1 y2 z' TO' s1' s2' hT hsz hk => ?_
    obtain ⟨c, u, hcx, rfl⟩ := y1
    have ex2 : x2 = u2 := by
      have : its2.toArray[i]? = some u2 := by simpa using hu2
      rw [this] at y2
      exact (Option.some.inj y2).symm
    subst ex2
    refine ⟨_, rfl, wpAny_letOwnedTupleGo_zip (s := { s with heap := h', toks := tk }) z' fun h'' z'' sb => ?_⟩
    have hT2 : h''.get? s.heap.objs.size = some { cls := .type "tuple", data := .seq #[.str ⟨#[c]⟩ u, x2] } := (sb.2 _ (Nat.ne_of_gt hzl)).trans hT
    have new : ObjOk X.prog X.w (upd H s.heap.objs.size (.tup [.str ⟨#[c]⟩, y])) h'' s.heap.objs.size (.tup [.str ⟨#[c]⟩, y]) :=
      ⟨by show 2 ≤ sizeLine; decide, [.str ⟨#[c]⟩ u, x2], .cons ⟨u, rfl⟩ (.cons ru2 .nil), ⟨_, hT2, rfl, _, rfl⟩⟩
    have I1 : Inv X pins σ (upd H s.heap.objs.size (.tup [.str ⟨#[c]⟩, y])) { s with heap := h'', toks := tk } :=
      I.turnedNew (t' := tk) (ch := [z, TI, TO, i1, i2]) (fun c o hb q => (sb.2 c (fun q' => hb (by simp [q']))).trans (hk c o (fun q' => hb (by simp [q'])) (fun q' => hb (by simp [q'])) (fun q' => hb (by simp [q'])) (fun q' => hb (by simp [q'])) q)) hf (Nat.le_refl _) new
    refine ⟨.ref s.heap.objs.size, _, I1, rfl, ⟨_, c, y, rfl, I.hok.fresh (Nat.le_refl _), rfl, hcx, fun l hl => by rw [I.tuple_inj hl hqy]; exact hy⟩, ⟨z'', ?_, ⟨.str ⟨#[c]⟩ u, x2, ?_⟩, ?_, ?_⟩, fun c hcm => ?_⟩
    · exact (sb.2 _ S.TIz).trans (hk _ _ S.TIz S.TITO S.TIi1 S.TIi2 hTI)
    · exact (sb.2 _ S.TOz).trans TO'
    · obtain ⟨o1, e1, r1⟩ := s1'
      exact ⟨o1, (sb.2 _ S.zi1.symm).trans e1, r1⟩
    · exact s2'.1.at fun o q => (sb.2 _ S.zi2.symm).trans q
    · have older : c < s.heap.objs.size := by
        simp only [List.mem_cons, List.not_mem_nil, or_false] at hcm
        obtain rfl | rfl | rfl | rfl | rfl := hcm
        · exact hzl
        · exact Heap.lt_size hTI
        · exact Heap.lt_size hTO
        · exact Heap.lt_size h1.choose_spec.1
        · exact Heap.lt_size h2.choose_spec.1
      rw [upd_ne (Nat.ne_of_lt older)]
      exact (hf c hcm).1
  done := by
    intro X hP hw hK hc i pins s σ H E I hf st hg
    subst hP hw hK
    obtain ⟨hz, hTI, ⟨x0, y0, hTO⟩, h1, h2⟩ := st
    obtain ⟨ys, hqy, l1, l2, hend⟩ := hg
    obtain ⟨its2, rv2, p2, _⟩ := I.tuple hqy
    have hl := rv2.length
    have hsz : its2.toArray.size = ys.length := by simp [hl]
    have hh : X.A.in1.handled = none := I.ok.hd hc
    refine wpAny_pyNext_zipD2_end S (Draws.text hh i1 x t) (Draws.tuple hh i2 b hb its2.toArray) hz hTI hTO h1 ⟨h2, p2⟩ l1 (by rw [hsz]; exact l2) (by rw [hsz]; omega) fun h' tk hk => ⟨rfl, I.turnedL (t' := tk) (ch := [z, TI, TO, i1, i2]) (fun c o hb q =>
      hk c o (fun q' => hb (by simp [q'])) (fun q' => hb (by simp [q'])) (fun q' => hb (by simp [q'])) (fun q' => hb (by simp [q'])) q) hf⟩
  self := fun A i s Q E st h => wpAny_pyIter_zip st.1 h
theorem walk_zipS {K : PySem.W.Frag} {x : Str} {b : Addr} {ys : List V} {n : Nat} (hn : n = min x.cps.size ys.length) : Walk (ItzS K x b) n (fun H => SqT K H b ys) (YPair (fun i => (x.cps[i]?).map fun c => .str ⟨#[c]⟩) (fun i => ys[i]?)) := by
  subst hn
  refine ⟨fun i _ hi q => ?_, fun _ q => ⟨ys, q, by omega, by omega, by omega⟩, fun i H v H' _ q y => ?_⟩
  · have h2 : i < ys.length := by omega
    exact ⟨ys, ys[i], q, by omega, by simp [h2]⟩
  · obtain ⟨T, c, z, h1, h2, h3, h4, h5⟩ := y
    exact ⟨T, .str ⟨#[c]⟩, z, h1, h2, h3, by simp [h4], h5 ys q⟩
def iZipS (K : PySem.W.Frag) (ta : TA) : TI := fun σ H R => ta σ H fun vs H1 => ∃ x b ys, vs = [.str x, .ref b] ∧ SqT K H1 b ys ∧ R (ItzS K x b) H1
theorem pi_zipS {X : Cx} {e e2 : Expr} {ta : TA} {p pos tpos : Pos} {elts : List Expr} {kk : Nat} (hg : Gl X "zip") (hm : X.mg "zip" = none) (ha : PA X [e, e2] ta)
    (hs : starEach [e, e2] X.env = (false, eval e X.env) :: starEach [e2] X.env := by rfl) (hpl : (backTo pos (starEach [e2] X.env)).any (·.1) = false := by rfl) :
    PI X (.Tuple elts kk tpos) (.Call (.Name "zip" p) [e, e2] [] pos) (iZipS X.K ta) := by
  refine ⟨fun pins s σ H R I h => ?_⟩
  refine Call_ (ld_blt I hg hm PyProof.Rows.boot_zip (PyProof.Rows.callWith_type1 (thn (ha.run pos pins s σ H _ I h) fun us s1 ⟨vs, H1, I1, r1, q1⟩ => ?_) hs hpl))
  obtain ⟨x, b, ys, ex, hqy, q⟩ := q1
  subst ex
  cases r1 with
  | cons r rr =>
    cases rr with
    | cons r' rr =>
      cases rr
      obtain ⟨t, rfl⟩ := r
      cases r'
      have young : ∀ c ∈ [s1.heap.objs.size + 4, s1.heap.objs.size + 2, s1.heap.objs.size + 3, s1.heap.objs.size, s1.heap.objs.size + 1], FpOk X pins H1 c := fun c hc => by
        have at_least : s1.heap.objs.size ≤ c := by
          simp only [List.mem_cons, List.not_mem_nil, or_false] at hc
          obtain rfl | rfl | rfl | rfl | rfl := hc
          · exact Nat.le_add_right _ _
          · exact Nat.le_add_right _ _
          · exact Nat.le_add_right _ _
          · exact Nat.le_refl _
          · exact Nat.le_add_right _ _
        exact I1.fpOk at_least (I1.hok.fresh at_least)
      obtain ⟨its2, rv2, p2, _⟩ := I1.tuple hqy
      obtain ⟨o2, ho2, _⟩ := id p2
      have hbl : b < s1.heap.objs.size := Heap.lt_size ho2
      refine zip_begins2 (begins_text x t) (begins_tuple b its2.toArray) trivial p2 fun h' hz hTI hTO g1 g2 hsz hk => wpAny_pyIter_zip hz ?_
      have I2 : Inv X pins σ H1 { s1 with heap := h' } := I1.kept (t' := s1.toks) hk
      have sep : ZipSep2 (s1.heap.objs.size + 4) (s1.heap.objs.size + 2) (s1.heap.objs.size + 3) s1.heap.objs.size (s1.heap.objs.size + 1) [s1.heap.objs.size] [s1.heap.objs.size + 1, b] :=
        zip_sep2 (N := s1.heap.objs.size) (fp1 := []) (fp2 := [b]) (fun _ h => nomatch h) (fun c h => by rw [List.mem_singleton.mp h]; exact hbl)
      exact ⟨s1.heap.objs.size + 4, [s1.heap.objs.size + 4, s1.heap.objs.size + 2, s1.heap.objs.size + 3, s1.heap.objs.size, s1.heap.objs.size + 1], _, _, H1, rfl, I2, turn_zipS (x := x) (t := t) sep (Nat.ne_of_lt (Nat.lt_succ_of_lt hbl)), ⟨hz, hTI, ⟨_, _, hTO⟩, ⟨_, g1, rfl, rfl⟩, ⟨_, g2, rfl, rfl⟩⟩, young, q⟩
/-- the signs of a text -/
def signsD (x : Str) : List D := x.cps.toList.map fun c => .str ⟨#[c]⟩
def pZipS : List D → Option (List D)
  | [.str x, .tuple b] => some (zipD (signsD x) b)
  | _ => none
theorem signs_get {x : Str} {i : Nat} {d : D} (h : (signsD x)[i]? = some d) : ∃ c, x.cps[i]? = some c ∧ d = .str ⟨#[c]⟩ := by
  unfold signsD at h
  rw [List.getElem?_map, Option.map_eq_some_iff] at h
  obtain ⟨c, h1, h2⟩ := h
  exact ⟨c, by rw [← Array.getElem?_toList]; exact h1, h2.symm⟩
section
variable {S : Type} {X : Cx} {G : Kx} {Z : Zk S} {W : List Nat} {fa : Ea S} {e e2 : Expr} {p pos : Pos}
theorem ei_zipS {elts : List Expr} {kk : Nat} {tpos : Pos} (h : PI X (.Tuple elts kk tpos) (.Call (.Name "zip" p) [e, e2] [] pos) (iZipS X.K (tEa G Z W fa))) (hK : X.K = G.K := by rfl) : PI X (.Tuple elts kk tpos) (.Call (.Name "zip" p) [e, e2] [] pos) (tIt G Z W (iOfA pZipS fa)) :=
  imp_pi h fun σ H Q ⟨B, O, ρ, s, d, s', eo, hR, hf, q⟩ => by
    unfold iOfA at hf
    obtain ⟨y, s1, h1, hf⟩ := bnd_some hf
    obtain ⟨h3, rfl⟩ := put_some hf
    refine ⟨B, O, ρ, s, y, _, eo, hR, h1, fun v H1 f1 r1 R1 => ?_⟩
    unfold pZipS at h3
    split at h3
    · cases h3
      simp only [Reps] at r1
      obtain ⟨v1, r, rfl, h4, v2, r', rfl, h5, rfl⟩ := r1
      simp only [Rep] at h4 h5
      subst h4
      obtain ⟨b, us, rfl, k1, k3⟩ := h5
      have sq : ∀ {H : Hp} {c : Addr} {ws : List V}, ((H c = some (.tup ws)) ∨ KT G.K c ws) → SqT G.K H c ws := fun z => z.elim (fun z => .inl (.inl z)) .inr
      rw [hK]
      refine ⟨_, b, us, rfl, sq (k1.imp (·.1) id), q _ H1 f1 ?_ R1⟩
      refine ⟨_, _, walk_zipS (ys := us) (by rw [zipD_len, k3.len]; simp [signsD]), fun B2 H2 st dm => ⟨sq (k1.imp (fun z => (st b _ z.1 z.2).1) id), fun i d x H3 hd y => ?_⟩⟩
      obtain ⟨T, u, v, rfl, hT, rfl, hu, hv⟩ := y
      obtain ⟨dx, dy, g1, g2, rfl⟩ := zipD_get hd
      obtain ⟨c, hc, rfl⟩ := signs_get g1
      obtain ⟨v', e2, q2⟩ := (k3.mv (B' := B2) (H' := H2) st).get g2
      have hv : us[i]? = some v := hv
      rw [hv] at e2
      cases e2
      simp only [hc, Option.map_some, Option.some.injEq] at hu
      subst hu
      exact ⟨Lc.same_new hT, pair_rep dm hT (by simp only [Rep]) q2⟩
    · cases h3
end
end Dl
set_option Elab.async false
set_option linter.all false
set_option maxRecDepth 100000
set_option maxHeartbeats 4000000
/-! a written dict, texts to texts: d[k], d.get(k) -/
namespace Dl
open PySem PySem.Spec PyProof.Rows L2
/-- the entries are those of the table -/
def tblIn : List (Str × Str) → List DictEntry → Bool
  | [], [] => true
  | (k, v) :: r, e :: q => (match e.key, e.val with | .str k' _, .str v' _ => (k' == k) && (v' == v) | _, _ => false) && tblIn r q
  | _, _ => false
def tblAt (tbl : List (Str × Str)) (z : Str) : Option Str := (tbl.find? fun p => p.1 == z).map (·.2)
theorem tbl_find : ∀ {tbl : List (Str × Str)} {l : List DictEntry}, tblIn tbl l = true → ∀ z : Str,
    (tblAt tbl z = none ∧ (l.find? fun d => Value.isStrOf z d.key) = none) ∨ (∃ v e t, tblAt tbl z = some v ∧ (l.find? fun d => Value.isStrOf z d.key) = some e ∧ e.val = .str v t)
  | [], [], _, z => .inl ⟨rfl, rfl⟩
  | [], _ :: _, h, _ => by simp [tblIn] at h
  | _ :: _, [], h, _ => by simp [tblIn] at h
  | (k, v) :: r, e :: q, h, z => by
    obtain ⟨hash, key, val⟩ := e
    simp only [tblIn, Bool.and_eq_true] at h
    obtain ⟨h1, h2⟩ := h
    have ih := tbl_find h2 z
    split at h1
    · rename_i k' t1 v' t2
      rw [Bool.and_eq_true] at h1
      have e1 := eq_of_beq h1.1
      have e2 := eq_of_beq h1.2
      subst e1 e2
      have f1 : ∀ c, (k' == z) = c → tblAt ((k', v') :: r) z = (if c = true then some v' else tblAt r z) := fun c hc => by
        unfold tblAt
        rw [List.find?_cons]
        show Option.map _ (match (k' == z) with | true => some (k', v') | false => _) = _
        rw [hc]
        cases c <;> rfl
      have f2 : ∀ c, Value.isStrOf z (.str k' t1) = c → (List.find? (fun d => Value.isStrOf z d.key) (⟨hash, .str k' t1, .str v' t2⟩ :: q : List DictEntry)) = (if c = true then some ⟨hash, .str k' t1, .str v' t2⟩ else List.find? (fun d => Value.isStrOf z d.key) q) := fun c hc => by
        rw [List.find?_cons]
        show (match Value.isStrOf z (.str k' t1) with | true => _ | false => _) = _
        rw [hc]
        cases c <;> rfl
      by_cases hz : k' = z
      · have c1 : (k' == z) = true := by simpa using hz
        have c2 : Value.isStrOf z (.str k' t1) = true := by simp [Value.isStrOf, hz]
        rw [f1 _ c1, f2 _ c2]
        exact .inr ⟨v', _, t2, rfl, rfl, rfl⟩
      · have c1 : (k' == z) = false := by simpa using hz
        have c2 : Value.isStrOf z (.str k' t1) = false := by
          simp only [Value.isStrOf]
          first | simpa using hz | simpa using (fun q : z = k' => hz q.symm)
        rw [f1 _ c1, f2 _ c2]
        exact ih
    · cases h1
/-- at a: the written dict of the table -/
structure WD (K : PySem.W.Frag) (w : World) (a : Addr) (tbl : List (Str × Str)) : Prop where
  ex : ∃ es n, K.lookup a = some ⟨.type "dict", none, .dict es n, #[]⟩ ∧ PySem.W.KeysLit w.params es.toList ∧ tblIn tbl es.toList = true
  low : (a == sysModules) = false
def pDt (tbl : List (Str × Str)) : D → Option D
  | .str z => (tblAt tbl z).map .str
  | _ => none
section
variable {S : Type} {X : Cx} {G : Kx} {Z : Zk S} {W : List Nat} {f : Ev S} {b : Expr} {x : Str} {p pos apos : Pos} {a : Addr} {tbl : List (Str × Str)}
theorem find_wd {es : Array DictEntry} {z : Str} (h : tblIn tbl es.toList = true) : (tblAt tbl z = none ∧ findBy Value.isStrOf es z = none) ∨ ∃ v t, tblAt tbl z = some v ∧ findBy Value.isStrOf es z = some (.str v t) := by
  obtain ⟨l⟩ := es
  unfold findBy
  rcases tbl_find h z with ⟨h1, h2⟩ | ⟨v, e, t, h1, h2, h3⟩
  · refine .inl ⟨h1, ?_⟩
    rw [List.find?_toArray, h2]
    rfl
  · refine .inr ⟨v, t, h1, ?_⟩
    rw [List.find?_toArray, h2]
    show some e.val = _
    rw [h3]
theorem ex_dix (wd : WD X.K X.w a tbl) (hg : Gl X x) (hm : X.mg x = some (.ref a)) (hb : PE X b (tEx G Z W f)) (hs : PlainIx b) (hd : (x == ("__debug__" : Str)) = false := by decide) : PE X (.Subscript (.Name x p) b pos) (tEx G Z W (cU (pDt tbl) f)) := by
  refine ⟨fun pins s σ H Q I h => ?_⟩
  obtain ⟨B, O, ρ, s0, d, s', eo, hR, hf, q⟩ := h
  unfold cU at hf
  obtain ⟨y, s1, h1, hf⟩ := bnd_some hf
  obtain ⟨h3, rfl⟩ := put_some hf
  refine Subscript_ (binT (ta := tC (.ref a)) (tb := tEx G Z W f) (R := fun x y H2 => ∃ z v, x = .ref a ∧ y = .str z ∧ tblAt tbl z = some v ∧ Q (.str v) H2) (pe_glob (v := .ref a) hg hm rfl hd) hb I ⟨B, O, ρ, s0, y, _, eo, hR, h1, fun u H1 f1 r1 R1 => ?_⟩ fun v u s2 x y H2 I2 rx ry hq => ?_)
  · unfold pDt at h3
    split at h3
    · rw [Option.map_eq_some_iff] at h3
      obtain ⟨v, h4, rfl⟩ := h3
      simp only [Rep] at r1
      exact ⟨_, v, rfl, r1, h4, q _ H1 f1 (by simp only [Rep]) R1⟩
    · cases h3
  · obtain ⟨z, v0, rfl, rfl, e, hQ⟩ := hq
    obtain rfl : v = Value.ref a := rx
    obtain ⟨t, rfl⟩ := ry
    obtain ⟨es, n, hl, hk, ht⟩ := wd.ex
    have hmp := PySem.W.mapOf_K (prog := X.prog) (w := X.w) I2.kIn hl hk
    rcases find_wd (z := z) ht with ⟨e1, _⟩ | ⟨v1, t1, e1, e2⟩
    · rw [e] at e1
      cases e1
    · rw [e] at e1
      cases e1
      exact tail_any hmp.typeIs slot_dict_getitem.lookup (wpAny_getItem_of (strKind_is X.prog X.w z t) hmp e2 ⟨.str _, H2, I2.tok _, ⟨t1, rfl⟩, hQ⟩) (hs _ _)
end
end Dl
set_option Elab.async false
set_option linter.all false
set_option maxRecDepth 100000
set_option maxHeartbeats 4000000
/-! a comprehension of two clauses; starred things in displays and calls -/
namespace Dl
open PySem PySem.Spec PyProof.Rows L2
section
variable {S : Type}
variable {X : Cx} {G : Kx} {Z : Zk S} {W : List Nat} {f : Ev S}
variable {e tg tg1 : Expr} {es : List Expr} {pos p : Pos}
end
end Dl
set_option Elab.async false
set_option linter.all false
set_option maxRecDepth 100000
set_option maxHeartbeats 4000000
/-! a written dict of defs: f = d[k], then return f(..) -/
namespace Dl
open PySem PySem.Spec PyProof.Rows L2
def fblIn : List (Str × Addr) → List DictEntry → Bool
  | [], [] => true
  | (k, f) :: r, e :: q => (match e.key, e.val with | .str k' _, .ref g => (k' == k) && (g == f) | _, _ => false) && fblIn r q
  | _, _ => false
def fAt {α : Type} (tbl : List (Str × α)) (z : Str) : Option α := (tbl.find? fun p => p.1 == z).map (·.2)
theorem fAt_cons {α : Type} (k : Str) (v : α) (r : List (Str × α)) (z : Str) : fAt ((k, v) :: r) z = if k = z then some v else fAt r z := by
  unfold fAt
  rw [List.find?_cons]
  by_cases h : k = z
  · simp [h]
  · have h2 : (k == z) = false := by simpa using h
    rw [if_neg h]
    show Option.map _ (match (k == z) with | true => some (k, v) | false => _) = _
    rw [h2]
theorem fbl_find : ∀ {tbl : List (Str × Addr)} {l : List DictEntry}, fblIn tbl l = true → ∀ (z : Str) (f : Addr), fAt tbl z = some f → ∃ e, (l.find? fun d => Value.isStrOf z d.key) = some e ∧ e.val = .ref f
  | [], _, _, z, f, h => by cases h
  | _ :: _, [], h, _, _, _ => by simp [fblIn] at h
  | (k, g) :: r, e :: q, h, z, f, hf => by
    obtain ⟨hash, key, val⟩ := e
    simp only [fblIn, Bool.and_eq_true] at h
    obtain ⟨h1, h2⟩ := h
    split at h1
    · rename_i k' t1 g'
      rw [Bool.and_eq_true] at h1
      have e1 := eq_of_beq h1.1
      have e2 := eq_of_beq h1.2
      subst e1 e2
      rw [fAt_cons] at hf
      rw [List.find?_cons]
      by_cases hz : k' = z
      · rw [if_pos hz] at hf
        cases hf
        have c2 : Value.isStrOf z (.str k' t1) = true := by simp [Value.isStrOf, hz]
        refine ⟨⟨hash, .str k' t1, .ref f⟩, ?_, rfl⟩
        show (match Value.isStrOf z (.str k' t1) with | true => _ | false => _) = _
        rw [c2]
      · rw [if_neg hz] at hf
        have c2 : Value.isStrOf z (.str k' t1) = false := by
          simp only [Value.isStrOf]
          first | simpa using hz | simpa using (fun q : z = k' => hz q.symm)
        obtain ⟨e, h3, h4⟩ := fbl_find h2 z f hf
        refine ⟨e, ?_, h4⟩
        show (match Value.isStrOf z (.str k' t1) with | true => _ | false => _) = _
        rw [c2]
        exact h3
    · cases h1
/-- at a: the written dict of defs -/
structure FD (K : PySem.W.Frag) (w : World) (a : Addr) (tbl : List (Str × Addr)) : Prop where
  ex : ∃ es n, K.lookup a = some ⟨.type "dict", none, .dict es n, #[]⟩ ∧ PySem.W.KeysLit w.params es.toList ∧ fblIn tbl es.toList = true
def tFix (a : Addr) (tbl : List (Str × Addr)) (te : TE) : TE := fun σ H Q => te σ H fun y H1 => ∃ z f, V.ref a = V.ref a ∧ y = .str z ∧ fAt tbl z = some f ∧ Q (.ref f) H1
section
variable {S : Type} {X : Cx} {G : Kx} {Z : Zk S} {W : List Nat} {b : Expr} {x y : Str} {p p2 pos pos2 pos3 py spos : Pos} {a : Addr} {tbl : List (Str × Addr)} {te : TE}
theorem pe_fix (wd : FD X.K X.w a tbl) (hg : Gl X x) (hm : X.mg x = some (.ref a)) (hb : PE X b te) (hs : PlainIx b) (hd : (x == ("__debug__" : Str)) = false := by decide) : PE X (.Subscript (.Name x p) b pos) (tFix a tbl te) := by
  refine ⟨fun pins s σ H Q I h => ?_⟩
  refine Subscript_ (binT (ta := tC (.ref a)) (tb := te) (R := fun x y H2 => ∃ z f, x = .ref a ∧ y = .str z ∧ fAt tbl z = some f ∧ Q (.ref f) H2) (pe_glob (v := .ref a) hg hm rfl hd) hb I ?_ fun v u s2 x y H2 I2 rx ry hq => ?_)
  · exact h
  · obtain ⟨z, f, rfl, rfl, e, hQ⟩ := hq
    obtain rfl : v = Value.ref a := rx
    obtain ⟨t, rfl⟩ := ry
    obtain ⟨es, n, hl, hk, ht⟩ := wd.ex
    have hmp := PySem.W.mapOf_K (prog := X.prog) (w := X.w) I2.kIn hl hk
    obtain ⟨e9, h3, h4⟩ := fbl_find ht z f e
    have e2 : findBy Value.isStrOf es z = some (.ref f) := by
      obtain ⟨l⟩ := es
      unfold findBy
      rw [List.find?_toArray, h3]
      show some e9.val = _
      rw [h4]
    exact tail_any hmp.typeIs slot_dict_getitem.lookup (wpAny_getItem_of (strKind_is X.prog X.w z t) hmp e2 ⟨.ref f, H2, I2.tok _, rfl, hQ⟩) (hs _ _)
theorem Eo.blank {B O : Bar} {H : Hp} {σ : L2.St} {ρ : Rho} (e : Eo G Z W B O H σ ρ) {i : Nat} {v : Option V} (hi : i ∉ W) : Eo G Z W B O H (σ.set i v) (ρ.set i none) where
  er := by
    have ne : ∀ {j d}, (ρ.set i none)[j]? = some (some d) → j ≠ i ∧ ρ[j]? = some (some d) := fun {j d} h => by
      by_cases hj : i = j
      · subst hj
        rw [List.getElem?_set] at h
        simp only [if_true] at h
        split at h <;> cases h
      · rw [List.getElem?_set_ne hj] at h
        exact ⟨fun z => hj z.symm, h⟩
    refine ⟨by rw [List.length_set, List.length_set]; exact e.er.len, fun j d hj hd => ?_, ?_⟩
    · obtain ⟨h1, h2⟩ := ne hd
      rw [List.getElem?_set_ne fun z => h1 z.symm]
      exact e.er.pl j d hj h2
    · obtain ⟨om, h1, h2⟩ := e.er.ow
      refine ⟨om, fun j k d d' hj hk hd hd' => h1 j k d d' hj hk (ne hd).2 (ne hd').2, fun j d hj hd => ?_⟩
      obtain ⟨h3, h4⟩ := ne hd
      rw [List.getElem?_set_ne fun z => h3 z.symm]
      exact h2 j d hj h4
  bd := e.bd
  ol := e.ol
  mb := e.mb
  ob := e.ob
/-- the defs of the table do what is told of them -/
def TbOk (P : Program) (w : World) (K : PySem.W.Frag) (mg : Str → Option Value) (base : Heap) (k : Nat) (G : Kx) (Z : Zk S) (n : Nat) : List (Str × Fn S) → List (Str × Addr) → Prop
  | [], [] => True
  | (z, F) :: r, (y, f) :: q => z = y ∧ (∃ fd ps k', PySem.W.keepIn K (.ref f) = true ∧ Binds K fd ps [] ∧ k' ≤ k ∧ FnOk P w K mg base CX0 k' f fd ps (spD G Z n F)) ∧ TbOk P w K mg base k G Z n r q
  | _, _ => False
theorem tb_find {P : Program} {w : World} {K : PySem.W.Frag} {mg : Str → Option Value} {base : Heap} {k n : Nat} : ∀ {tb : List (Str × Fn S)} {tbl : List (Str × Addr)}, TbOk P w K mg base k G Z n tb tbl → ∀ z F, fAt tb z = some F → ∃ f fd ps k', fAt tbl z = some f ∧ PySem.W.keepIn K (.ref f) = true ∧ Binds K fd ps [] ∧ k' ≤ k ∧ FnOk P w K mg base CX0 k' f fd ps (spD G Z n F)
  | [], _, _, z, F, h => by cases h
  | _ :: _, [], h, _, _, _ => h.elim
  | (z0, F0) :: r, (y, f) :: q, h, z, F, hF => by
    obtain ⟨rfl, ⟨fd, ps, k', h1, h2, h3, h4⟩, h5⟩ := h
    rw [fAt_cons] at hF ⊢
    by_cases e : z0 = z
    · rw [if_pos e] at hF ⊢
      cases hF
      exact ⟨f, fd, ps, k', rfl, h1, h2, h3, h4⟩
    · rw [if_neg e] at hF ⊢
      exact tb_find h5 z F hF
/-- f = d[k]; return f(..) -/
def sDisp (i n : Nat) (tb : List (Str × Fn S)) (fw : Ev S) (fa : Ea S) : Sv S := fun ρ s => bnd (fw ρ s) fun d s => match d with
  | .str z => match fAt tb z with
    | some F => if i < ρ.length then bnd (fa (ρ.set i none) s) fun ds s => if ds.length = n then bnd (F ds s) fun d s => some (.rt d, s) else none else none
    | none => none
  | _ => none
theorem es_disp {i k n : Nat} {tb : List (Str × Fn S)} {fw : Ev S} {fa : Ea S} {e : Expr} {es : List Expr} (wd : FD X.K X.w a tbl) (ok : TbOk X.prog X.w X.K X.mg X.base k G Z n tb tbl) (hr : Room k X.A) (hg : Gl X x) (hm : X.mg x = some (.ref a)) (hb : PE X b (tEx G Z [] fw)) (hs : PlainIx b)
    (hN : X.N.Nodup) (hi : X.N[i]? = some y) (hl : Loc X.env.scope y) (hv : Vis X.env.scope y) (ha : PA X (e :: es) (tEa G Z [] fa)) (hd : (x == ("__debug__" : Str)) = false := by decide) (hsw : swapsWith (.Subscript (.Name x p) b pos) (some (.Name y py)) spos.line X.env = pure false := by rfl)
    (hf : X.fn y = true ∨ X.env.scope.names.lookup y = some .local := by first | exact .inl rfl | exact .inr rfl | assumption) (hdb : (y == ("__debug__" : Str)) = false := by decide) (hcd : (y == ("__classdict__" : Str)) = false := by decide)
    (he : starEach (e :: es) X.env = (false, eval e X.env) :: starEach es X.env := by rfl) (hpl : (backTo pos2 (starEach es X.env)).any (·.1) = false := by rfl) :
    PSs X [.Assign [.Name y py] (.Subscript (.Name x p) b pos) spos, .Return (some (.Call (.Name y p2) (e :: es) [] pos2)) pos3] (tSt G Z W (sDisp i n tb fw fa)) := by
  refine ⟨fun pins s σ H D I h => ?_⟩
  obtain ⟨B, H0, O, ρ, s0, r, s', sr, hF, q⟩ := h
  unfold sDisp at hF
  obtain ⟨d, s1, h1, hF⟩ := bnd_some hF
  split at hF
  · rename_i z
    split at hF
    · rename_i F hz
      split at hF
      · rename_i hlen
        obtain ⟨ds, s2, h2, hF⟩ := bnd_some hF
        split at hF
        · rename_i hn
          obtain ⟨d2, s3, h3, hF⟩ := bnd_some hF
          cases hF
          obtain ⟨f, fd, ps, k', e1, kp, bn, hk, G1⟩ := tb_find ok z F hz
          refine (pss_cons (ps_set hN hi hl (pe_fix wd hg hm hb hs hd) hsw hf) (pss_one (ps_ret (pe_callL (i := i) (f := f) (dvs := []) (E := E0) G1 (hr.mono hk) hi hv kp bn .nil pass0 ha hdb hcd he hpl)))).run pins s σ H D I ?_
          have eo := sr.eo.weak
          refine ⟨B, fun _ => False, ρ, s0, _, s1, eo, sr.r, h1, fun v H1 f1 r1 R1 => ?_⟩
          simp only [Rep] at r1
          refine ⟨z, f, rfl, r1, e1, ?_⟩
          have eo1 := (eo.fr f1).blank (i := i) (v := some (.ref f)) (by simp)
          have hσ : (σ.set i (some (V.ref f)))[i]? = some (some (.ref f)) := by
            rw [List.getElem?_set_self]
            rw [eo.er.len]
            exact hlen
          refine ⟨hσ, B, fun _ => False, ρ.set i none, s1, ds, s2, eo1, R1, h2, fun vs H2 f2 r2 R2 => ?_⟩
          show spD G Z n F (vs ++ []) H2 D.rt E0
          rw [List.append_nil]
          have e2 := eo1.fr f2
          exact ⟨_, ds, s2, d2, _, hn, fun a z => z.elim (e2.bd a) (e2.od a), fun a z => .inl (eo.mb a z), r2, R2, h3, fun w H3 f3 r3 R3 => q w H3 (sr.fr.trans ((f1.trans f2).trans f3)) (r3.sub fun a z _ => .inl z) R3⟩
        · cases hF
      · cases hF
    · cases hF
  · cases hF
end
end Dl
set_option Elab.async false
set_option linter.all false
set_option maxRecDepth 100000
set_option maxHeartbeats 4000000
/-! x.count(y) of texts; k in d, k not in d of a written dict -/
namespace Dl
open PySem PySem.Spec PyProof.Rows L2
section
variable {S : Type} {X : Cx} {G : Kx} {Z : Zk S} {W : List Nat} {f g : Ev S} {b e o : Expr} {x : Str} {p pos apos : Pos} {a : Addr} {tbl : List (Str × Addr)}
def pCount : D → D → Option D
  | .str a, .str b => some (.int (Txt.count a b))
  | _, _ => none
theorem ex_count (ho : PE X o (tEx G Z W f)) (he : PE X e (tEx G Z W g)) (hs : starEach [e] X.env = [(false, eval e X.env)] := by rfl) (hbase : attributeBase o "count" X.env (eval o X.env) = eval o X.env := by rfl) (hline : (apos.endLine == pos.line) = true := by rfl) :
    PE X (.Call (.Attribute o "count" apos) [e] [] pos) (tEx G Z W (cB pCount f g)) :=
  imp_pe (pe_m1 PySem.F.slot_str_count PySem.F.type_str_count mt_count ho he hs hbase hline) fun σ H Q ⟨B, O, ρ, s, d, s', eo, hR, hf, q⟩ => by
    unfold cB at hf
    obtain ⟨x, s1, h1, hf⟩ := bnd_some hf
    obtain ⟨y, s2, h2, hf⟩ := bnd_some hf
    obtain ⟨h3, rfl⟩ := put_some hf
    unfold pCount at h3
    split at h3
    · cases h3
      refine ⟨B, O, ρ, s, _, s1, eo, hR, h1, fun v H1 f1 r1 R1 => ?_⟩
      simp only [Rep] at r1
      refine ⟨⟨_, r1⟩, B, O, ρ, s1, _, _, eo.fr f1, R1, h2, fun u H2 f2 r2 R2 => ?_⟩
      simp only [Rep] at r2
      exact ⟨_, _, r1, by rw [r2], q _ H2 (f1.trans f2) (by simp only [Rep]) R2⟩
    · cases h3
theorem fbl_none : ∀ {tbl : List (Str × Addr)} {l : List DictEntry}, fblIn tbl l = true → ∀ (z : Str), fAt tbl z = none → (l.find? fun d => Value.isStrOf z d.key) = none
  | [], [], _, z, h => rfl
  | [], _ :: _, h, _, _ => by simp [fblIn] at h
  | _ :: _, [], h, _, _ => by simp [fblIn] at h
  | (k, g) :: r, e :: q, h, z, hf => by
    obtain ⟨hash, key, val⟩ := e
    simp only [fblIn, Bool.and_eq_true] at h
    obtain ⟨h1, h2⟩ := h
    split at h1
    · rename_i k' t1 g'
      rw [Bool.and_eq_true] at h1
      have e1 := eq_of_beq h1.1
      subst e1
      rw [fAt_cons] at hf
      by_cases hz : k' = z
      · rw [if_pos hz] at hf
        cases hf
      · rw [if_neg hz] at hf
        have c2 : Value.isStrOf z (.str k' t1) = false := by
          simp only [Value.isStrOf]
          first | simpa using hz | simpa using (fun q : z = k' => hz q.symm)
        rw [List.find?_cons]
        show (match Value.isStrOf z (.str k' t1) with | true => _ | false => _) = _
        rw [c2]
        exact fbl_none h2 z hf
    · cases h1
theorem find_fd {es : Array DictEntry} {z : Str} (h : fblIn tbl es.toList = true) : (findBy Value.isStrOf es z).isSome = (fAt tbl z).isSome := by
  obtain ⟨l⟩ := es
  unfold findBy
  rw [List.find?_toArray]
  cases e : fAt tbl z with
  | none =>
    rw [fbl_none h z e]
    rfl
  | some f =>
    obtain ⟨e9, h3, h4⟩ := fbl_find h z f e
    rw [h3]
    rfl
theorem op_notInFD (wd : FD X.K X.w a tbl) (low : (a == sysModules) = false) : OpR X (compareOp .NotIn) (fun x y H Q => ∃ z : Str, x = .str z ∧ y = .ref a ∧ Q (.bl (!(fAt tbl z).isSome)) H) := by
  intro pins s σ H x y v u Q I rx ry h
  obtain ⟨z, rfl, rfl, q⟩ := h
  obtain ⟨t, rfl⟩ := rx
  cases ry
  obtain ⟨es, n, hl, hk, ht⟩ := wd.ex
  refine wpAny_notIn_of (PySem.strKind_is X.prog X.w z t) low (PySem.W.mapOf_K (prog := X.prog) I.kIn hl hk) ?_
  rw [find_fd ht]
  exact ⟨.bl (!(fAt tbl z).isSome), H, I.tok _, rfl, q⟩
theorem fAt_mem {α : Type} : ∀ (tbl : List (Str × α)) (z : Str), (fAt tbl z).isSome = decide (z ∈ tbl.map (·.1))
  | [], z => rfl
  | (k, v) :: r, z => by
    rw [fAt_cons, List.map_cons]
    by_cases h : k = z
    · rw [if_pos h]
      simp [h]
    · rw [if_neg h, fAt_mem r z]
      have : z ≠ k := fun e => h e.symm
      simp [this]
theorem tb_keys {P : Program} {w : World} {K : PySem.W.Frag} {mg : Str → Option Value} {base : Heap} {k n : Nat} : ∀ {tb : List (Str × Fn S)} {tbl : List (Str × Addr)}, TbOk P w K mg base k G Z n tb tbl → tbl.map (·.1) = tb.map (·.1)
  | [], [], _ => rfl
  | _ :: _, [], h => h.elim
  | [], _ :: _, h => h.elim
  | (z, F) :: r, (y, f) :: q, h => by
    obtain ⟨rfl, _, h5⟩ := h
    rw [List.map_cons, List.map_cons, tb_keys h5]
/-- k not in d -/
def qHasNot (ks : List Str) (f : Ev S) : Et S := fun ρ s => bnd (f ρ s) fun d s => match d with
  | .str z => some (!decide (z ∈ ks), s)
  | _ => none
theorem et_hasNot {ks : List Str} (wd : FD X.K X.w a tbl) (hks : tbl.map (·.1) = ks) (low : (a == sysModules) = false) (hg : Gl X x) (hm : X.mg x = some (.ref a)) (he : PE X e (tEx G Z W f)) (hk : behindInMarks .NotIn (.Name x p) = false := by rfl) (hd : (x == ("__debug__" : Str)) = false := by decide) :
    PT X (.Compare e [.NotIn] [.Name x p] pos) (tEt G Z W (qHasNot ks f)) :=
  imp_pt (pt_cmpR (op_notInFD wd low) he (pe_glob (v := .ref a) hg hm rfl hd) hk) fun σ H Q ⟨B, O, ρ, s, d, s', eo, hR, hf, h⟩ => by
    unfold qHasNot at hf
    obtain ⟨x, s1, h1, hf⟩ := bnd_some hf
    split at hf
    · rename_i z
      cases hf
      refine ⟨B, O, ρ, s, _, _, eo, hR, h1, fun v H1 f1 r1 R1 => ?_⟩
      simp only [Rep] at r1
      have h9 := h H1 f1 R1
      rw [← hks, ← fAt_mem] at h9
      exact ⟨z, r1, rfl, _, rfl, h9⟩
    · cases hf
end
end Dl
set_option Elab.async false
set_option linter.all false
set_option maxRecDepth 100000
set_option maxHeartbeats 4000000
/-! told.extend(..) by a tuple -/
namespace Dl
open PySem PySem.Spec PyProof.Rows L2
section
open PySem.AutoSeq1 (wpAny_loadPart')
end
section
variable {S : Type} {X : Cx} {G : Kx} {Z : Zk S} {W : List Nat} {f : Ev S} {st : Stmt}
end
end Dl
set_option Elab.async false
set_option linter.all false
set_option maxRecDepth 100000
set_option maxHeartbeats 4000000
/-! x, y = a, b; the lesser and the greater of two texts -/
namespace Dl
open PySem PySem.Spec PyProof.Rows L2
section
variable {S : Type} {X : Cx} {G : Kx} {Z : Zk S} {W : List Nat} {fa : Ea S} {st : Stmt}
end
/-! two texts, the one of them -/
section
variable {prog : Program} {w : World} {A : Around} {E : Value → Shared → Prop} {s : Shared} {Q : Value → Shared → Prop} {x y : Str} {t u : Tok}
end
section
variable {X : Cx} {G : Kx}
end
/-! targets that take a list apart -/
end Dl
set_option Elab.async false
set_option linter.all false
set_option maxRecDepth 100000
set_option maxHeartbeats 4000000
/-! sets of texts that can be walked -/
namespace Ds
open PySem PySem.Spec PyProof.Rows PySem.Froz
/-- the table rises, and its order is told or led -/
def Wlk (w : World) (t : SetTable) : Prop := L2.Ris t.place.toList ∧ (w.params.followText "set-order" = true ∨ t.led = true)
/-- the set at a has the members l, each once -/
def TSet (P : Program) (w : World) (h : Heap) (a : Addr) (l : List Str) : Prop :=
  ∃ D : SD, h.get? a = some (sObj "set" D) ∧ TxOk P w D l ∧ l.Nodup ∧ l.length < scanBound ∧ Wlk w D.2.2
def nuD (w : World) : SD := (#[], 0, .fresh 0 0 (!w.params.followText "set-order"))
section
variable {P : Program} {w : World} {h h' : Heap} {a : Addr} {l : List Str}
theorem TSet.mv (T : TSet P w h a l) (k : ∀ o, h.get? a = some o → h'.get? a = some o) : TSet P w h' a l := by
  obtain ⟨D, e, r⟩ := T
  exact ⟨D, k _ e, r⟩
theorem TSet.nu (e : h.get? a = some (sObj "set" (nuD w))) : TSet P w h a [] := by
  refine ⟨nuD w, e, TxOk.nil rfl, List.nodup_nil, by decide, List.Pairwise.nil, ?_⟩
  show _ ∨ (!w.params.followText "set-order") = true
  cases w.params.followText "set-order" <;> simp
theorem wlk_add {D : SD} {hs : Int} {v : Value} (k : Wlk w D.2.2) : Wlk w (addTx hs v D).2.2 := by
  obtain ⟨r, e⟩ := k
  have r1 := L2.layNew_ris D.2.2 D.1 hs v r
  have e1 := L2.layNew_led D.2.2 D.1 hs v
  have k1 : ∀ t : SetTable, t = (if (layNew D.2.2 D.1 hs v).2.1.plain = true then { (layNew D.2.2 D.1 hs v).2.1 with plain := false } else (layNew D.2.2 D.1 hs v).2.1) → Wlk w t := fun t ht => by
    subst ht
    split
    · exact ⟨r1, e.imp id fun z => e1.trans z⟩
    · exact ⟨r1, e.imp id fun z => e1.trans z⟩
  unfold addTx tailTx
  have k2 := k1 _ rfl
  generalize (if (layNew D.2.2 D.1 hs v).2.1.plain = true then { (layNew D.2.2 D.1 hs v).2.1 with plain := false } else (layNew D.2.2 D.1 hs v).2.1) = t at k2 ⊢
  split
  · exact ⟨L2.relayAll_ris _ _ _, k2.2.imp id fun z => (L2.relayAll_led _ _ _).trans z⟩
  · exact k2
end
section
variable {P : Program} {w : World} {A : Around} {E : Value → Shared → Prop} {s : Shared} {a : Addr} {l : List Str}
/-- the members behind an add -/
def plus (l : List Str) (k : Str) : List Str := if k ∈ l then l else k :: l
/-- what is there already is found -/
theorem add_there {T : String} {D : SD} {k : Str} {u : Tok} {Q : Bool → Shared → Prop} (ho : s.heap.get? a = some (sObj T D)) (F : TxOk P w D l) (hk : k ∈ l) (hb : l.length < scanBound) (h : Q false s) : wpAny (model P w) A (setAddHashed a (.str k u) (hashStr w k)) Q E s := by
  obtain ⟨es, ep, t⟩ := D
  have hsz : es.size = l.length := F.sz
  have hd : (sObj T (es, ep, t)).data = .set es ep t := rfl
  obtain ⟨e, he, hq⟩ := (F.mem k).mp hk
  unfold setAddHashed setAddHashedIn
  refine wpAny_holding (wpAny_bind (wpAny_setState_of ho hd F.fit ?_))
  dsimp only
  have hb0 : es.size < scanBound := by omega
  have hel : ElemsOf (strKind P w) es.toList := F.el
  rw [byScan_of rfl hb0 hel]
  simp only [↓reduceIte]
  unfold setAddByScan
  refine wpAny_bind (wpAny_bind (wpAny_rule (wpAny_bind (wpAny_setScan_of (knd := strKind P w) (k := k) (is_str k u) ho hd F.fit F.el ?_))))
  cases q : List.findIdx? (fun e => (strKind P w).is k e.2) es.toList with
  | some j =>
    dsimp only
    exact wpAny_pure (wpAny_pure h)
  | none =>
    have c := List.findIdx?_eq_none_iff.mp q e he
    rw [hq] at c
    cases c
theorem TSet.add {k : Str} {u : Tok} {Q : Bool → Shared → Prop} (T : TSet P w s.heap a l) (hb : l.length + 1 < scanBound) (h : ∀ b h', Heap.SameBut a s.heap h' → TSet P w h' a (plus l k) → Q b { s with heap := h' }) :
    wpAny (model P w) A (setAddHashed a (.str k u) (hashStr w k)) Q E s := by
  obtain ⟨D, e, F, nd, hl, wk⟩ := T
  unfold plus at h
  by_cases c : k ∈ l
  · rw [if_pos c] at h
    exact add_there e F c hl (h false s.heap (Heap.SameBut.refl a s.heap) ⟨D, e, F, nd, hl, wk⟩)
  · rw [if_neg c] at h
    refine add_x e F c hb (h true _ (Heap.SameBut.update s.heap a _) ⟨_, get_upd _ e rfl, add_ok u F, List.nodup_cons.mpr ⟨c, nd⟩, hb, wlk_add wk⟩)
end
end Ds
set_option Elab.async false
set_option linter.all false
set_option maxRecDepth 100000
set_option maxHeartbeats 4000000
namespace Ds
open PySem PySem.Spec PyProof.Rows PySem.Froz
theorem plus_len (l : List Str) (k : Str) : (plus l k).length ≤ l.length + 1 := by
  unfold plus
  split
  · exact Nat.le_succ _
  · exact Nat.le_refl _
section
variable {P : Program} {w : World} {A : Around} {E : Value → Shared → Prop} {s : Shared}
variable {x : Addr} {items : Array Value} {xs : List Str} {Q : Value → Shared → Prop}
end
end Ds
set_option Elab.async false
set_option linter.all false
set_option maxRecDepth 100000
set_option maxHeartbeats 4000000
namespace Ds
open PySem PySem.Spec PyProof.Rows PySem.Froz
theorem perm_of : ∀ (l ks : List Str), l.Nodup → (∀ x ∈ l, x ∈ ks) → ks.length ≤ l.length → l.Perm ks
  | [], ks, _, _, hn => by
    have : ks = [] := List.length_eq_zero_iff.mp (Nat.le_zero.mp hn)
    rw [this]
  | a :: l, ks, nd, hs, hn => by
    obtain ⟨n1, n2⟩ := List.nodup_cons.mp nd
    have ha : a ∈ ks := hs a List.mem_cons_self
    have hp := List.perm_cons_erase ha
    have hl := hp.length_eq
    rw [List.length_cons] at hl hn
    refine List.Perm.trans (List.Perm.cons a (perm_of l (ks.erase a) n2 (fun x hx => ?_) (by omega))) hp.symm
    exact (List.mem_erase_of_ne (fun z : x = a => n1 (z ▸ hx))).mpr (hs x (List.mem_cons_of_mem _ hx))
def strOf : Value → Str
  | .str k _ => k
  | _ => Str.empty
theorem str_is {k : Str} {v : Value} (h : Value.isStrOf k v = true) : ∃ t, v = .str k t := by
  unfold Value.isStrOf at h
  split at h
  · rename_i y t
    exact ⟨t, by rw [show y = k from by simpa using h]⟩
  · cases h
section
variable {P : Program} {w : World} {A : Around} {E : Value → Shared → Prop} {s : Shared} {a : Addr} {l : List Str}
theorem elem_str {es : List (Int × Value)} (h : ElemsOf (strKind P w) es) : ∀ e ∈ es, ∃ k t, e.2 = .str k t ∧ e.1 = hashStr w k := fun e he => by
  obtain ⟨⟨k, h1, h2⟩, _⟩ := h e he
  obtain ⟨t, e1⟩ := str_is h1
  exact ⟨k, t, e1, h2⟩
theorem keys_perm {D : SD} (F : TxOk P w D l) (nd : l.Nodup) : l.Perm (D.1.toList.map fun e => strOf e.2) := by
  refine perm_of l _ nd (fun x hx => ?_) ?_
  · obtain ⟨e, he, q⟩ := (F.mem x).mp hx
    obtain ⟨t, e1⟩ := str_is q
    exact List.mem_map.mpr ⟨e, he, by rw [e1]; rfl⟩
  · rw [List.length_map, Array.length_toList, F.sz]
    exact Nat.le_refl _
theorem strs_of : ∀ (vs : List Value), (∀ v ∈ vs, ∃ k t, v = Value.str k t) → StrsAre vs (vs.map strOf)
  | [], _ => .nil
  | v :: vs, h => by
    obtain ⟨k, t, rfl⟩ := h v List.mem_cons_self
    exact .cons k t (strs_of vs fun u hu => h u (List.mem_cons_of_mem _ hu))
/-- sorted(x), x a set of texts -/
theorem TSet.sorted {Q : Value → Shared → Prop} (T : TSet P w s.heap a l) (hh : A.handled = none)
    (q : ∀ s' p (out : Array Value) (c : Nat) (ys : List Str), (∀ b o, s.heap.get? b = some o → s'.heap.get? b = some o) → s'.gens = s.gens → s'.os = s.os → s.heap.objs.size ≤ p → s'.heap.get? p = some (seqObj "list" out c) → StrsAre out.toList ys → ys.Perm l → sortedS ys = true → Q (.ref p) s') :
    wpAny (model P w) A (call (.builtin "sorted") [.ref a]) Q E s := by
  obtain ⟨D, e, F, nd, hl, r, ld⟩ := T
  obtain ⟨es, ep, t⟩ := D
  have hsz : es.size = l.length := F.sz
  have hb : es.size < scanBound := by omega
  have kp := keys_perm F nd
  refine Calls.call_function_entry kind_sorted plain_sorted entry_sorted (args_sorted1 _) ?_
  unfold Builtin.«sorted»
  refine wpAny_bind (m := checkCount "sorted" 1 1 _) (wpAny_pure (wpAny_bind (L2.collect_set (A := A.in1) hh ⟨_, e, rfl, rfl⟩ F.fit hb r ld fun s1 vs k1 z1 g1 o1 pm => ?_)))
  have hS := strs_of vs fun v hv => by
    obtain ⟨x, hx, e2⟩ := List.mem_map.mp (pm.mem_iff.mp hv)
    obtain ⟨k, u, h1, _⟩ := elem_str F.el x hx
    exact ⟨k, u, e2.symm.trans h1⟩
  have pk : (vs.map strOf).Perm l := by
    have p2 := pm.map strOf
    rw [List.map_map] at p2
    exact p2.trans kp.symm
  have hvl : vs.length ≤ sizeLine := by
    have := pk.length_eq
    rw [List.length_map] at this
    rw [this]
    exact fits_of_scanBound hl
  refine wpAny_bind (wpAny_newList ?_ hvl)
  have hoL : (s1.heap.push (seqObj "list" vs.toArray 0)).get? s1.heap.objs.size = some (seqObj "list" vs.toArray 0) := Heap.get?_push_size _ rfl
  refine wpAny_bind (wpAny_holding (wpAny_call_entry slot_list_sort ⟨_, hoL, rfl⟩ entry_list_sort (list_sort_treeKAny strKind_oneLt hoL hS.keysOf (fun v₁ v₂ rest e => keyKind_strs (by rw [← e]; exact hS)) hvl fun st hp hs => ⟨_, rfl, ?_⟩) (args_list_sort _)))
  obtain ⟨ys, y1, y2, y3⟩ := sorted_out_str hS hp hs
  obtain ⟨c, hc⟩ := sortedHeap_at (vs := vs) (out := (arrOf st).map (·.2)) hoL
  refine wpAny_pure ⟨_, rfl, q _ s1.heap.objs.size _ c ys (fun b o hbo => ?_) g1 o1 z1 hc y1 (y2.trans pk) y3⟩
  have h2 := k1 b o hbo
  have hlt := Heap.lt_size h2
  show (sortedHeap (s1.heap.push (seqObj "list" vs.toArray 0)) s1.heap.objs.size vs ((arrOf st).map (·.2))).get? b = some o
  rw [sortedHeap_old (Nat.ne_of_lt hlt) (by rw [size_push']; exact Nat.lt_succ_of_lt hlt)]
  exact Heap.get?_push_of_some _ h2
end
end Ds
set_option Elab.async false
set_option linter.all false
set_option maxRecDepth 100000
set_option maxHeartbeats 4000000
namespace Ds
open PySem PySem.Spec PyProof.Rows PySem.Froz
theorem entry_and : entryFor table "set.__and__" = some Builtin.«frozenset.__and__» := entryFor_alias (id' := "frozenset.__and__") (by kernel_rfl) rfl (by decide +kernel) (by kernel_rfl)
section
variable {P : Program} {w : World} {A : Around} {E : Value → Shared → Prop} {s : Shared} {a b r : Addr} {l la lb : List Str}
theorem TSet.ty (T : TSet P w s.heap a l) : s.TypeIs (.ref a) "set" := by
  obtain ⟨D, e, _⟩ := T
  exact ⟨_, e, rfl⟩
theorem any_set {Q : Bool → Shared → Prop} (T : s.TypeIs (.ref a) "set") (q : Q true s) : wpAny (model P w) A (Builtin.Frozenset.isAnySet (.ref a)) Q E s := by
  unfold Builtin.Frozenset.isAnySet orM
  refine wpAny_bind (wpAny_isInstance T sub_set_self ?_)
  exact wpAny_pure q
theorem base_of {Q : Value → Shared → Prop} (T : s.TypeIs (.ref a) "set") (q : Q (.type "set") s) : wpAny (model P w) A (Builtin.Frozenset.baseOf a) Q E s := by
  unfold Builtin.Frozenset.baseOf
  refine wpAny_bind (wpAny_isInstance T sub_set_self ?_)
  exact wpAny_pure q
theorem walk_some {es : Array (Int × Value)} {ep : Nat} {t : SetTable} {Q : Array (Int × Value) → Shared → Prop} (e : s.heap.get? a = some (sObj "set" (es, ep, t))) (hf : t.fits es.size = true) (ld : w.params.followText "set-order" = true ∨ t.led = true)
    (q : ∀ es' d', es'.toList.Perm es.toList → Q es' { s with drawn := d' }) : wpAny (model P w) A (setWalk a) Q E s := by
  unfold setWalk
  refine wpAny_bind (wpAny_setState_of e rfl hf ?_)
  dsimp only
  refine wpAny_bind (L2.wpAny_byText ?_)
  cases hb : w.params.followText "set-order" with
  | true =>
    refine L2.wp_if_pos rfl ?_
    exact wpAny_bind (wpAny_askSetting (wpAny_pure (q _ s.drawn (L2.pick_perm _ _))))
  | false =>
    have hl : t.led = true := ld.elim (fun z => by rw [hb] at z; cases z) id
    refine L2.wp_if_neg (by decide) ?_
    by_cases c : (!t.plain && decide (es.size > 1)) = true
    · refine L2.wp_if_pos c ?_
      refine wpAny_bind (L2.drawOrder_at _ _ _ _ (Nat.le_of_eq (Array.length_toList)) fun ys d hp => wpAny_pure (q _ d ?_))
      rw [List.toList_toArray]
      exact hp
    · refine L2.wp_if_neg c ?_
      refine wpAny_bind ?_
      show wpAny _ _ (if (!t.led && decide (es.size > 1)) = true then _ else pure ()) _ _ _
      rw [hl]
      refine L2.wp_if_neg (by simp) (wpAny_pure (wpAny_pure (q es s.drawn (List.Perm.refl _))))
theorem quiet_all {Q : Bool → Shared → Prop} (xs : List Addr) (hx : ∀ c ∈ xs, ∃ l, TSet P w s.heap c l) (q : Q true s) : wpAny (model P w) A (setsQuiet xs) Q E s := by
  unfold setsQuiet
  refine wpAny_bind (wpAny_forIn_list _ (fun ys (b : Option Bool × Unit) s' => (∀ c ∈ ys, ∃ l, TSet P w s.heap c l) ∧ b = (none, ()) ∧ s' = s) _ (fun x rest b s' ⟨h1, h2, h3⟩ => ?_) (fun b s' ⟨_, h2, h3⟩ => ?_) xs (none, ()) ⟨hx, rfl, rfl⟩)
  · subst h2 h3
    obtain ⟨l, D, e, F, _⟩ := h1 x List.mem_cons_self
    refine wpAny_bind (wpAny_setEntries_of e rfl F.fit ?_)
    have hel : ∀ e ∈ D.1.toList, ∃ k t, e.2 = Value.str k t := fun e he => by
      obtain ⟨k, t, e3, _⟩ := elem_str F.el e he
      exact ⟨k, t, e3⟩
    refine wpAny_bind (MeetsSeq2.wpAny_forIn_array _ (fun ys (b : Option Bool × Unit) s2 => (∀ e ∈ ys, ∃ k t, e.2 = Value.str k t) ∧ b = (none, ()) ∧ s2 = s') _ (fun x rest b s2 ⟨g1, g2, g3⟩ => ?_) (fun b s2 ⟨_, g2, g3⟩ => ?_) D.1 (none, ()) ⟨hel, rfl, rfl⟩)
    · subst g2 g3
      obtain ⟨k, t, e3⟩ := g1 x List.mem_cons_self
      obtain ⟨hx, vx⟩ := x
      have e3 : vx = .str k t := e3
      subst e3
      exact wpAny_pure ⟨fun c hc => g1 c (List.mem_cons_of_mem _ hc), rfl, rfl⟩
    · subst g2 g3
      exact wpAny_pure ⟨fun c hc => h1 c (List.mem_cons_of_mem _ hc), rfl, rfl⟩
  · subst h2 h3
    exact wpAny_pure q
/-- walking a set where nobody sees the order: some order of its entries; the new set r stays empty -/
theorem walk_unseen {D : SD} {Q : Array (Int × Value) → Shared → Prop} (e : s.heap.get? a = some (sObj "set" D)) (F : TxOk P w D l) (nd : l.Nodup) (hl : l.length < scanBound) (wk : Wlk w D.2.2) (Tb : TSet P w s.heap b lb) (Tr : TSet P w s.heap r [])
    (q : ∀ es' h' d', es'.toList.Perm D.1.toList → Heap.SameBut r s.heap h' → TSet P w h' r [] → Q es' { s with heap := h', drawn := d' }) :
    wpAny (model P w) A (setWalkUnseen a [b, r] (some r)) Q E s := by
  obtain ⟨es, ep, t⟩ := D
  have hd : (sObj "set" (es, ep, t)).data = .set es ep t := rfl
  unfold setWalkUnseen
  refine wpAny_bind (wpAny_setState_of e hd F.fit ?_)
  refine wpAny_bind (L2.wpAny_byText ?_)
  by_cases c : (w.params.followText "set-order" || t.led && t.plain || decide (es.size ≤ 1)) = true
  · refine L2.wp_if_pos c (walk_some e F.fit wk.2 fun es' d hp => q es' s.heap d hp (Heap.SameBut.refl r s.heap) Tr)
  · refine L2.wp_if_neg c ?_
    refine wpAny_bind (quiet_all _ (fun x hx => ?_) ?_)
    · rcases List.mem_cons.mp hx with rfl | hx
      · exact ⟨l, (es, ep, t), e, F, nd, hl, wk⟩
      · rcases List.mem_cons.mp hx with rfl | hx
        · exact ⟨lb, Tb⟩
        · rw [List.mem_singleton.mp hx]
          exact ⟨[], Tr⟩
    · refine L2.wp_if_neg (by decide) (wpAny_bind (wpAny_rule ?_))
      have Tr0 := Tr
      obtain ⟨⟨ef, epf, tf⟩, e2, F2, _, _, wk2⟩ := Tr
      have z0 : ef = #[] := Array.eq_empty_of_size_eq_zero F2.sz
      subst z0
      refine wpAny_bind (wpAny_setState_of e2 rfl F2.fit ?_)
      dsimp only
      by_cases c2 : (tf.led && !t.led || tf.plain && !t.plain) = true
      · refine L2.wp_if_pos c2 (wpAny_bind (wpAny_storeSet_of e2 rfl (wpAny_pure (q es _ s.drawn (List.Perm.refl _) (Heap.SameBut.update s.heap r _) ?_)) (Nat.zero_le _)))
        have e3 : s.heap.update r (Obj.putSet #[] { tf with led := tf.led && t.led, plain := tf.plain && t.plain }) = s.heap.update r (fun _ => sObj "set" (#[], epf + 1, { tf with led := tf.led && t.led, plain := tf.plain && t.plain })) := (upd_const _ e2).trans rfl
        rw [e3]
        refine ⟨_, get_upd _ e2 rfl, TxOk.nil F2.fit, List.nodup_nil, by decide, wk2.1, ?_⟩
        rcases wk.2 with z | z
        · exact .inl z
        · rcases wk2.2 with y | y
          · exact .inl y
          · exact .inr (by show (tf.led && t.led) = true; rw [show tf.led = true from y, show t.led = true from z]; rfl)
      · exact L2.wp_if_neg c2 (wpAny_pure (q es s.heap s.drawn (List.Perm.refl _) (Heap.SameBut.refl r s.heap) Tr0))
end
end Ds
set_option Elab.async false
set_option linter.all false
set_option maxRecDepth 100000
set_option maxHeartbeats 4000000
namespace Ds
open PySem PySem.Spec PyProof.Rows PySem.Froz
section
variable {P : Program} {w : World} {A : Around} {E : Value → Shared → Prop} {s : Shared} {a b r : Addr} {l la lb : List Str}
theorem TSet.size {Q : Nat → Shared → Prop} (T : TSet P w s.heap a l) (q : Q l.length s) : wpAny (model P w) A (Builtin.Frozenset.sizeOf a) Q E s := by
  obtain ⟨D, e, F, _⟩ := T
  unfold Builtin.Frozenset.sizeOf
  have hz := F.sz
  refine wpAny_bind (wpAny_setEntries_of e rfl F.fit (wpAny_pure ?_))
  show Q D.1.size s
  rw [hz]
  exact q
theorem TSet.find {k : Str} {t : Tok} {Q : Option Nat → Shared → Prop} (T : TSet P w s.heap a l) (q : ∀ o : Option Nat, o.isSome = decide (k ∈ l) → Q o s) : wpAny (model P w) A (setFind a (.str k t) (hashStr w k)) Q E s := by
  obtain ⟨D, e, F, _, hl, _⟩ := T
  have hz := F.sz
  exact PySem.W.setFind_any (knd := strKind P w) (S := fun k => decide (k ∈ l)) (is_str k t) rfl e rfl F.el (fun k => by rw [decide_eq_true_eq]; exact F.mem k) (by omega) F.fit q
/-- the loop of & -/
theorem and_loop {id : String} {es' : Array (Int × Value)} {D : SD} {x y : Addr} {lx ly : List Str} {h0 : Heap} {Q : PUnit → Shared → Prop} (ex : h0.get? x = some (sObj "set" D)) (F : TxOk P w D lx) (nd : lx.Nodup) (hl : lx.length < scanBound) (Ty : TSet P w h0 y ly) (hx : x ≠ r) (hy : y ≠ r)
    (hp : es'.toList.Perm D.1.toList) (sb : Heap.SameBut r h0 s.heap) (Tr : TSet P w s.heap r [])
    (q : ∀ h' l', Heap.SameBut r h0 h' → TSet P w h' r l' → (∀ k, k ∈ l' ↔ k ∈ lx ∧ k ∈ ly) → Q PUnit.unit { s with heap := h' }) :
    wpAny (model P w) A (forIn es' PUnit.unit fun (z : Int × Value) (_ : PUnit) => match z with
      | (h, v) => do
        holding [v] do
          if (← setFind y v h).isSome = true then do
            let _ ← setAddHashed r v h
            pure ()
          else pure ()
        Builtin.Frozenset.unchanged id x D.2.1
        pure (ForInStep.yield PUnit.unit)) Q E s := by
  have kp := keys_perm F nd
  have hk : (es'.toList.map fun e => strOf e.2).Perm lx := (hp.map _).trans kp.symm
  have hgood : ∀ e ∈ es'.toList, ∃ k t, e.2 = Value.str k t ∧ e.1 = hashStr w k := fun e he => elem_str F.el e (hp.mem_iff.mp he)
  refine MeetsSeq2.wpAny_forIn_array _ (fun ys (u : PUnit) s' => ∃ done l', es'.toList = done ++ ys ∧ s' = { s with heap := s'.heap } ∧ Heap.SameBut r h0 s'.heap ∧ TSet P w s'.heap r l' ∧ l'.length ≤ done.length ∧ ∀ k, k ∈ l' ↔ (k ∈ done.map fun e => strOf e.2) ∧ k ∈ ly) _ (fun e rest u s' ⟨dn, l', h1, h2, h3, h4, h5, h6⟩ => ?_) (fun u s' ⟨dn, l', h1, h2, h3, h4, h5, h6⟩ => ?_) es' PUnit.unit ⟨[], [], rfl, rfl, sb, Tr, Nat.le_refl _, fun k => by simp⟩
  · obtain ⟨hh, v⟩ := e
    obtain ⟨k, t, e1, e2⟩ := hgood (hh, v) (by rw [h1]; simp)
    have e1 : v = .str k t := e1
    have e2 : hh = hashStr w k := e2
    subst e1 e2
    have Ty2 : TSet P w s'.heap y ly := Ty.mv fun o z => (h3.2 y hy).trans z
    have ex2 : s'.heap.get? x = some (sObj "set" D) := (h3.2 x hx).trans ex
    have hlen : dn.length + (rest.length + 1) = lx.length := by
      have z1 := congrArg List.length h1
      rw [List.length_append, List.length_cons] at z1
      have z2 := hk.length_eq
      rw [List.length_map] at z2
      omega
    have fin : ∀ h' l2, Heap.SameBut r h0 h' → TSet P w h' r l2 → l2.length ≤ dn.length + 1 → (∀ z, z ∈ l2 ↔ (z ∈ (dn ++ [(hashStr w k, Value.str k t)]).map fun e => strOf e.2) ∧ z ∈ ly) →
        wpAny (model P w) A (Builtin.Frozenset.unchanged id x D.2.1) (fun _ s2 => ∃ done l', es'.toList = done ++ rest ∧ s2 = { s with heap := s2.heap } ∧ Heap.SameBut r h0 s2.heap ∧ TSet P w s2.heap r l' ∧ l'.length ≤ done.length ∧ ∀ k, k ∈ l' ↔ (k ∈ done.map fun e => strOf e.2) ∧ k ∈ ly) E { s' with heap := h' } := fun h' l2 g1 g2 g3 g4 => by
      unfold Builtin.Frozenset.unchanged setEpoch
      have ex3 : h'.get? x = some (sObj "set" D) := (g1.2 x hx).trans ex
      refine wpAny_bind (wpAny_bind (wpAny_setState_of ex3 rfl F.fit (wpAny_pure ?_)))
      refine L2.wp_if_neg (by simp) (wpAny_pure ⟨dn ++ [(hashStr w k, Value.str k t)], l2, by rw [h1]; simp, ?_, g1, g2, by simpa using g3, g4⟩)
      show ({ s' with heap := h' } : Shared) = { s with heap := h' }
      rw [h2]
    refine wpAny_bind (wpAny_holding (wpAny_bind (TSet.find Ty2 fun o ho => ?_)))
    by_cases c : k ∈ ly
    · rw [decide_eq_true c] at ho
      refine L2.wp_if_pos ho (wpAny_bind (TSet.add h4 (by omega) fun b1 h7 sb7 T7 => wpAny_pure ?_))
      refine wpAny_bind (wpAny_mono (fin h7 (plus l' k) ⟨sb7.1.trans h3.1, fun c hc => (sb7.2 c hc).trans (h3.2 c hc)⟩ T7 ?_ fun z => ?_) (fun _ s2 h => wpAny_pure h) fun _ _ z => z)
      · have := plus_len l' k
        omega
      · rw [List.map_append, List.mem_append]
        unfold plus
        by_cases c2 : k ∈ l'
        · rw [if_pos c2, h6 z]
          constructor
          · exact fun ⟨z1, z2⟩ => ⟨.inl z1, z2⟩
          · rintro ⟨z1 | z1, z2⟩
            · exact ⟨z1, z2⟩
            · have z1 : z = k := by simpa [strOf] using z1
              rw [z1]
              exact (h6 k).mp c2
        · rw [if_neg c2, List.mem_cons, h6 z]
          constructor
          · rintro (z1 | ⟨z1, z2⟩)
            · rw [z1]
              exact ⟨.inr (by simp [strOf]), c⟩
            · exact ⟨.inl z1, z2⟩
          · rintro ⟨z1 | z1, z2⟩
            · exact .inr ⟨z1, z2⟩
            · exact .inl (by simpa [strOf] using z1)
    · rw [decide_eq_false c] at ho
      refine L2.wp_if_neg (by rw [ho]; decide) (wpAny_pure ?_)
      refine wpAny_bind (wpAny_mono (fin s'.heap l' h3 h4 (by omega) fun z => ?_) (fun _ s2 h => wpAny_pure h) fun _ _ z => z)
      rw [List.map_append, List.mem_append, h6 z]
      constructor
      · exact fun ⟨z1, z2⟩ => ⟨.inl z1, z2⟩
      · rintro ⟨z1 | z1, z2⟩
        · exact ⟨z1, z2⟩
        · have z1 : z = k := by simpa [strOf] using z1
          rw [z1] at z2
          exact absurd z2 c
  · rw [List.append_nil] at h1
    have hd : (dn.map fun e => strOf e.2).Perm lx := by rw [← h1]; exact hk
    rw [h2]
    exact q s'.heap l' h3 h4 fun k => by rw [h6 k, hd.mem_iff]
/-- x & y -/
theorem TSet.both {Q : Value → Shared → Prop} (Ta : TSet P w s.heap a la) (Tb : TSet P w s.heap b lb) (hab : a ≠ b)
    (q : ∀ h' d' l', (∀ c o, s.heap.get? c = some o → h'.get? c = some o) → TSet P w h' s.heap.objs.size l' → (∀ k, k ∈ l' ↔ k ∈ la ∧ k ∈ lb) → Q (.ref s.heap.objs.size) { s with heap := h', drawn := d' }) :
    wpAny (model P w) A (binaryOp .BitAnd (.ref a) (.ref b)) Q E s := by
  refine wpAny_binaryOp_same (T := "set") (id := "set.__and__") Ta.ty Tb.ty F.fills_set_and F.slot_set_and ?_
  refine wpAny_call_entry F.slot_set_and Ta.ty entry_and ?_ (F.args_set_and_2 _ _)
  show wpAny _ _ (do
    let (self, other) ← Builtin.Frozenset.slot1 "__and__" ⟨[.ref a, .ref b], []⟩
    let (l, r) := (self, other)
    if !(← Builtin.Frozenset.isAnySet l <&&> Builtin.Frozenset.isAnySet r) then
      rule s!"frozenset.{"__and__"}.declined"
      return ← ret .notImplemented
    ret (← Builtin.Frozenset.intersection s!"frozenset.{"__and__"}" (← Builtin.Frozenset.addrOf l) r)) _ _ _
  refine wpAny_bind (m := Builtin.Frozenset.slot1 "__and__" _) (wpAny_of_eq (a := (Value.ref a, Value.ref b)) (by rfl) ?_)
  dsimp only
  refine wpAny_bind ?_
  unfold andM
  refine wpAny_bind (any_set Ta.ty ?_)
  show wpAny _ _ (Builtin.Frozenset.isAnySet (.ref b)) _ _ _
  refine any_set Tb.ty ?_
  refine L2.wp_if_neg (by decide) ?_
  refine wpAny_bind (wpAny_of_eq (a := a) rfl ?_)
  refine wpAny_bind ?_
  unfold Builtin.Frozenset.intersection
  refine L2.wp_if_neg (by simpa using Ne.symm hab) ?_
  refine wpAny_bind (base_of Ta.ty ?_)
  refine wpAny_bind (wpAny_newSet_raw fun led hled => ?_)
  subst hled
  have k1 : ∀ c o, s.heap.get? c = some o → (s.heap.push (sObj "set" (nuD w))).get? c = some o := fun c o z => Heap.get?_push_of_some _ z
  have Tr : TSet P w (s.heap.push (sObj "set" (nuD w))) s.heap.objs.size [] := TSet.nu (Heap.get?_push_size _ rfl)
  have Ta1 : TSet P w (s.heap.push (sObj "set" (nuD w))) a la := Ta.mv fun o z => k1 _ o z
  have Tb1 : TSet P w (s.heap.push (sObj "set" (nuD w))) b lb := Tb.mv fun o z => k1 _ o z
  have na : a ≠ s.heap.objs.size := by
    obtain ⟨D, e, _⟩ := Ta
    exact Nat.ne_of_lt (Heap.lt_size e)
  have nb : b ≠ s.heap.objs.size := by
    obtain ⟨D, e, _⟩ := Tb
    exact Nat.ne_of_lt (Heap.lt_size e)
  change wpAny _ _ _ _ _ { s with heap := s.heap.push (sObj "set" (nuD w)) }
  have q2 : ∀ h' d' l', Heap.SameBut s.heap.objs.size (s.heap.push (sObj "set" (nuD w))) h' → TSet P w h' s.heap.objs.size l' → (∀ k, k ∈ l' ↔ k ∈ la ∧ k ∈ lb) → Q (.ref s.heap.objs.size) { s with heap := h', drawn := d' } := fun h' d' l' sb T hk =>
    q h' d' l' (fun c o z => (sb.2 c (Nat.ne_of_lt (Heap.lt_size z))).trans (k1 c o z)) T hk
  clear q
  generalize hh1 : s.heap.push (sObj "set" (nuD w)) = h1 at k1 Tr Ta1 Tb1 q2 ⊢
  generalize hn : s.heap.objs.size = n at Tr na nb q2 ⊢
  refine wpAny_bind (wpAny_of_eq (a := n) rfl ?_)
  refine wpAny_bind (wpAny_holding ?_)
  refine wpAny_bind (any_set Tb1.ty ?_)
  refine L2.wp_if_pos rfl ?_
  refine wpAny_bind (wpAny_of_eq (a := b) rfl ?_)
  refine wpAny_bind (TSet.size Tb1 ?_)
  refine wpAny_bind (TSet.size Ta1 ?_)
  have core : ∀ (x y : Addr) (lx ly : List Str), TSet P w h1 x lx → TSet P w h1 y ly → x ≠ n → y ≠ n → (∀ k, k ∈ lx ∧ k ∈ ly ↔ k ∈ la ∧ k ∈ lb) →
      wpAny (model P w) A.in1 (do
        let was ← setEpoch x
        let es ← setWalkUnseen x [y, n] (some n)
        forIn es PUnit.unit fun (z : Int × Value) (_ : PUnit) => match z with
          | (h, v) => do
            holding [v] do
              if (← setFind y v h).isSome = true then do
                let _ ← setAddHashed n v h
                pure ()
              else pure ()
            Builtin.Frozenset.unchanged (toString "frozenset." ++ toString "__and__") x was
            pure (ForInStep.yield PUnit.unit)
        pure ()) (fun _ s' => wpAny (model P w) A.in1 (pure (Value.ref n)) (fun a s' => wpAny (model P w) A.in1 (ret a) (fun fin s' => ∃ v, fin = Fin.done (Flow.ret v) ∧ v ≠ Value.notImplemented ∧ Q v s') E s') E s') E { s with heap := h1 } := fun x y lx ly Tx Ty hx hy hk => by
    obtain ⟨D, e, F, nd, hl, wk⟩ := Tx
    unfold setEpoch
    refine wpAny_bind (wpAny_bind (wpAny_setState_of e rfl F.fit (wpAny_pure ?_)))
    refine wpAny_bind (walk_unseen e F nd hl wk Ty Tr fun es h2 d2 hp sb T2 => ?_)
    refine wpAny_bind (and_loop (s := { s with heap := h2, drawn := d2 }) e F nd hl Ty hx hy hp sb T2 fun h3 l3 sb3 T3 hk3 => ?_)
    refine wpAny_pure (wpAny_pure (wpAny_pure ⟨_, rfl, by simp, q2 h3 d2 l3 sb3 T3 fun k => (hk3 k).trans (hk k)⟩))
  by_cases c : lb.length > la.length
  · rw [if_pos c]
    exact core a b la lb Ta1 Tb1 na nb fun k => Iff.rfl
  · rw [if_neg c]
    exact core b a lb la Tb1 Ta1 nb na fun k => And.comm
end
end Ds
set_option Elab.async false
set_option linter.all false
set_option maxRecDepth 100000
set_option maxHeartbeats 4000000
namespace Ds
open PySem PySem.Spec PyProof.Rows PySem.Froz L2
section
variable {X : Cx}
end
end Ds
set_option Elab.async false
set_option linter.all false
set_option maxRecDepth 100000
set_option maxHeartbeats 4000000
/-! sets of texts on data -/
namespace Dl
open PySem PySem.Spec PyProof.Rows L2 Ds
/-- a reading whose value is a new set of texts -/
abbrev Es (S : Type) := Rho → S → Option (List Str × S)
section
variable {S : Type} {X : Cx} {G : Kx} {Z : Zk S} {W : List Nat} {f g : Ev S} {F1 F2 : Es S} {a b c e tg : Expr} {es : List Expr} {pos p : Pos} {x : Str}
end
end Dl
set_option Elab.async false
set_option linter.all false
set_option maxRecDepth 100000
set_option maxHeartbeats 4000000
/-! t[::-1] of a tuple, of a list, on data -/
namespace Ds
open PySem PySem.Spec PyProof.Rows L2
section
variable {prog : Program} {w : World} {A : Around} {E : Value → Shared → Prop} {s : Shared}
end
end Ds
namespace Dl
open PySem PySem.Spec PyProof.Rows L2 Ds
end Dl
set_option Elab.async false
set_option linter.all false
set_option maxRecDepth 100000
set_option maxHeartbeats 4000000
namespace Dl
open PySem PySem.Spec PyProof.Rows L2 Ds
section
variable {S : Type} {X : Cx} {G : Kx} {Z : Zk S} {W : List Nat} {f g : Ev S} {a b c e tg : Expr} {es : List Expr} {pos p : Pos} {x : Str}
def pNotB : D → D → Option D
  | .bool a, .bool b => some (.bool (!decide (a = b)))
  | _, _ => none
theorem os_notB : OpS G rNotB pNotB := by
  intro B H x y dx dy d Q bd hx hy hp q
  unfold pNotB at hp
  split at hp
  · cases hp
    simp only [Rep] at hx hy
    subst hx hy
    exact ⟨_, _, rfl, rfl, q _ H (Same.refl H) (by simp only [Rep])⟩
  · cases hp
theorem pNotB_bool {x y z : D} (h : pNotB x y = some z) : ∃ k, z = .bool k := by
  unfold pNotB at h
  split at h
  · cases h
    exact ⟨_, rfl⟩
  · cases h
end
end Dl
set_option Elab.async false
set_option linter.all false
set_option maxRecDepth 100000
set_option maxHeartbeats 4000000
/-! the end of a law some of whose defs have generator expressions -/
namespace Dl
open PySem PySem.Spec PyProof.Rows L2 GxR
theorem law_many {l : PySem.W.OpenLaw} {w : World} {K : PySem.W.Frag} {CX : CXT} {k n : Nat} {x : Str} {mg mb : Str → Option Value} {fa : Addr} {h : Heap} {q : Program} {loose : List Str} {mean : ExcName → Option Value} {fd : FuncData} {sp : Sp} (ts : List (Addr × Addr))
    (Tp : Top q (PySem.W.looseW q loose) mean mg mb h) (KX : K.In h) (hts : ∀ p ∈ ts, ∃ (y : Str) (d : DefRec), (recsOf q).find? (fun e => e.name == y) = some d ∧ PySem.W.tabIn K y = some p) (hk : PySem.W.noTabs K = true)
    (hb : ∀ (s : Shared) (u : Value), BindsTo s fd ⟨[u], []⟩ [(x, u)])
    (hsp : ∀ (H : Hp) (a : Addr) (ns : List Int), (∀ p ∈ ts, TabG H p.2) → SqL K H a (ns.map V.int) → sp [.ref a] H (fun v _ => v = .bl true) fun _ _ _ => False)
    (hF : ∀ base : Heap, K.In base → base.Ns mainGlobals mg → (∀ p ∈ ts, TabB base mg p.1 p.2) → FnOk l.prog w K mg base CX k fa fd [x] sp) : LamX.LawAtS l w K CX k n x mg fa h := by
  refine ⟨fd, ts, sp, fun p hp => ?_, fun p hp => ?_, fun p hp => ?_, hb, fun H a ns _ _ ht hS => hsp H a ns (fun p hp => ⟨#[], ht p hp, trivial⟩) hS, fun base b1 b2 b3 => hF base b1 b2 fun p hp => ⟨(b3 p hp).code, (b3 p hp).bm, (b3 p hp).gP⟩⟩
  · obtain ⟨y, d, hr, ht⟩ := hts p hp
    exact (PySem.W.tab_of Tp KX hr ht).2
  · obtain ⟨y, d, hr, ht⟩ := hts p hp
    have hT := (PySem.W.tab_of Tp KX hr ht).2
    cases e : K.lookup p.2 with
    | none => rfl
    | some o =>
      have e2 := KX p.2 o e
      rw [hT] at e2
      cases e2
      have h2 := List.all_eq_true.mp hk _ (PySem.W.mem_of_lookupK e)
      exact absurd (show false = true from h2) Bool.false_ne_true
  · obtain ⟨y, d, hr, ht⟩ := hts p hp
    exact (PySem.W.tab_of Tp KX hr ht).1
end Dl
set_option Elab.async false
set_option linter.all false
set_option maxRecDepth 100000
set_option maxHeartbeats 4000000
/-! the deck of the laws of counts: one list, how many were drawn, a seed, the cells -/
namespace Dl
open PySem PySem.Spec PyProof.Rows L2 GxR
def m8a (a k : Int) : Int := (a % 2147483647 * 48271 + k * 69621 + 7919) % 2147483629
def m8b (a k : Int) : Int := (m8a a k * m8a a k + 16807 * m8a a k + k) % 2147483587
def m8F (a k : Int) : Int := (m8b a k % 65536 * 32749 + m8b a k / 65536) * 39373 % 2147483563
def drawG (s : DS) (m : Int) : Int × DS := match s.1.getLast? with
  | none => (m8F s.2.1 (s.2.2 + 1) % m, ([], s.2.1, s.2.2 + 1))
  | some x => if x < 10 ^ 18 then (m8F x (s.2.2 + 1) % m, (s.1.dropLast, s.2.1, s.2.2 + 1)) else (x % m, (s.1.dropLast ++ [x / m], s.2.1, s.2.2 + 1))
theorem drawG_range (s : DS) {m : Int} (hm : 0 < m) : 0 ≤ (drawG s m).1 ∧ (drawG s m).1 < m := by
  have fin : ∀ r : Int, 0 ≤ r % m ∧ r % m < m := fun r => ⟨Int.emod_nonneg _ (by omega), Int.emod_lt_of_pos _ hm⟩
  unfold drawG
  split
  · exact fin _
  · split
    · exact fin _
    · exact fin _
def Fdraw8 : Fn DS := fun ds s => match ds with
  | [.dict [(.int 0, .none)], .int m] => if 0 < m ∧ m < 1073741824 then some (.int (drawG s m).1, (drawG s m).2) else none
  | _ => none
theorem fdraw8 {s : DS} {m : Int} (h : 0 < m) (h2 : m < 1073741824) : Fdraw8 [hnd 0, .int m] s = some (.int (drawG s m).1, (drawG s m).2) := by
  show (if 0 < m ∧ m < 1073741824 then some (PyData.int (drawG s m).1, (drawG s m).2) else none) = _
  rw [if_pos ⟨h, h2⟩]
theorem k_draw8 {s : DS} {m : Int} {Q : D → DS → Prop} (h : 0 < m) (h2 : m < 1073741824) (q : ∀ (r : Int) s', 0 ≤ r → r < m → Q (.int r) s') : Ok (Fdraw8 [hnd 0, .int m] s) Q :=
  ⟨_, _, fdraw8 h h2, q _ _ (drawG_range s h).1 (drawG_range s h).2⟩
section
variable {P : Program} {w : World} {K : PySem.W.Frag} {mg : Str → Option Value} {base : Heap} {f : Addr} {fd : FuncData}
end
end Dl
set_option Elab.async false
set_option linter.all false
set_option maxRecDepth 100000
set_option maxHeartbeats 4000000
/-! a def whose first statement makes a dict of its own, texts to whole numbers: the dict is a handle into the state -/
namespace Dl
open PySem PySem.Spec PyProof.Rows L2 Ds
abbrev KV := List (Str × Int)
def kvV (m : KV) : List (Key × V) := m.map fun p => (Sum.inr p.1, V.int p.2)
def kvGet (m : KV) (k : Str) : Option Int := (m.find? fun p => decide (p.1 = k)).map (·.2)
def kvPut (m : KV) (k : Str) (v : Int) : KV := if (m.any fun p => decide (p.1 = k)) = true then m.map (fun p => if p.1 = k then (p.1, v) else p) else m ++ [(k, v)]
theorem kv_get (k : Str) : ∀ m : KV, valV (kvV m) (Sum.inr k : Key) = (kvGet m k).map V.int
  | [] => rfl
  | (a, n) :: m => by
    have ih := kv_get k m
    by_cases e : a = k
    · subst e
      simp [valV, kvV, kvGet]
    · unfold valV kvV kvGet at ih ⊢
      simp only [List.map_cons, List.find?_cons]
      have e2 : decide ((Sum.inr a : Key) = Sum.inr k) = false := decide_eq_false fun z => e (Sum.inr.inj z)
      rw [e2, decide_eq_false e]
      exact ih
theorem kv_put (m : KV) (k : Str) (v : Int) : putK (kvV m) (Sum.inr k : Key) (.int v) = kvV (kvPut m k v) := by
  have h1 : ((kvV m).any fun p => decide (p.1 = (Sum.inr k : Key))) = m.any fun p => decide (p.1 = k) := by
    unfold kvV
    rw [List.any_map]
    congr 1
    funext p
    simp
  unfold putK kvPut
  rw [h1]
  split
  · unfold kvV
    rw [List.map_map, List.map_map]
    refine List.map_congr_left fun p _ => ?_
    by_cases e : p.1 = k
    · simp [e]
    · simp [e]
  · simp [kvV]
mutual
/-- nothing in it is the handle of the dict -/
def noH : D → Bool
  | .list ds => noHs ds
  | .tuple ds => noHs ds
  | .dict [(.int n, .none)] => decide (n ≠ 1)
  | _ => true
def noHs : List D → Bool
  | [] => true
  | d :: ds => noH d && noHs ds
end
def hdc (hd : Nat → Addr → Prop) (p : Addr) : Nat → Addr → Prop := fun n a => if n = 1 then a = p else hd n a
section
variable {K : PySem.W.Frag} {hd : Nat → Addr → Prop} {p : Addr} {B : Bar} {H : Hp}
mutual
theorem rep_h : ∀ (d : D) (v : V), noH d = true → (Rep ⟨K, hd⟩ B H d v ↔ Rep ⟨K, hdc hd p⟩ B H d v)
  | .none, v, _ => by simp only [Rep]
  | .bool _, v, _ => by simp only [Rep]
  | .int _, v, _ => by simp only [Rep]
  | .str _, v, _ => by simp only [Rep]
  | .list ds, v, h => by
    simp only [Rep]
    have := fun vs => reps_h ds vs (by simpa [noH] using h)
    constructor
    · rintro ⟨a, vs, e, h1, h2, h3⟩
      exact ⟨a, vs, e, h1, h2, (this vs).mp h3⟩
    · rintro ⟨a, vs, e, h1, h2, h3⟩
      exact ⟨a, vs, e, h1, h2, (this vs).mpr h3⟩
  | .tuple ds, v, h => by
    simp only [Rep]
    have := fun vs => reps_h ds vs (by simpa [noH] using h)
    constructor
    · rintro ⟨a, vs, e, h1, h3⟩
      exact ⟨a, vs, e, h1, (this vs).mp h3⟩
    · rintro ⟨a, vs, e, h1, h3⟩
      exact ⟨a, vs, e, h1, (this vs).mpr h3⟩
  | .dict kvs, v, h => by
    simp only [Rep]
    have key : ∀ (n : Nat) (a : Addr), kvs = [(.int (n : Nat), .none)] → (hd n a ↔ hdc hd p n a) := fun n a e => by
      subst e
      have hn : n ≠ 1 := fun z => by
        subst z
        simp [noH] at h
      unfold hdc
      rw [if_neg hn]
    constructor
    · rintro ⟨a, e, ⟨n, e2, h1⟩ | h1⟩
      · exact ⟨a, e, .inl ⟨n, e2, (key n a e2).mp h1⟩⟩
      · exact ⟨a, e, .inr h1⟩
    · rintro ⟨a, e, ⟨n, e2, h1⟩ | h1⟩
      · exact ⟨a, e, .inl ⟨n, e2, (key n a e2).mpr h1⟩⟩
      · exact ⟨a, e, .inr h1⟩
theorem reps_h : ∀ (ds : List D) (vs : List V), noHs ds = true → (Reps ⟨K, hd⟩ B H ds vs ↔ Reps ⟨K, hdc hd p⟩ B H ds vs)
  | [], vs, _ => by simp only [Reps]
  | d :: ds, vs, h => by
    simp only [Reps]
    have h : noH d = true ∧ noHs ds = true := by simpa [noHs] using h
    constructor
    · rintro ⟨v, r, e, h1, h2⟩
      exact ⟨v, r, e, (rep_h d v h.1).mp h1, (reps_h ds r h.2).mp h2⟩
    · rintro ⟨v, r, e, h1, h2⟩
      exact ⟨v, r, e, (rep_h d v h.1).mpr h1, (reps_h ds r h.2).mpr h2⟩
end
end
/-- what is shared, and the dict at p -/
def Zdc {S : Type} (Z : Zk S) (p : Addr) : Zk (S × KV) where
  M := fun a => Z.M a ∨ a = p
  R := fun H s => Z.R H s.1 ∧ H p = some (.dK (kvV s.2)) ∧ ¬ Z.M p
  dom := fun H s a h m => m.elim (Z.dom H s.1 a h.1) fun e => by
    rw [e, h.2.1]
    simp
  loc := fun H H' s h k => ⟨Z.loc H H' s.1 h.1 fun a m => k a (.inl m), (k p (.inr rfl)).trans h.2.1, h.2.2⟩
def fnDk {S : Type} (n i : Nat) (F : Sv (S × KV)) : Fn S := fun ds s => if noHs ds = true then match F ((startR n ds).set i (some (hnd 1))) (s, []) with
  | some (.rt d, s') => if noH d = true then some (d, s'.1) else none
  | some (.nx _, s') => some (.none, s'.1)
  | _ => none else none
section
variable {S : Type} {P : Program} {w : World} {K : PySem.W.Frag} {mg : Str → Option Value} {base : Heap} {hd : Nat → Addr → Prop} {Z : Zk S} {W : List Nat} {F : Sv (S × KV)}
theorem fn_okD {nm qual : Str} {st : Stmt} {fad : Addr} {fd : FuncData} {N ps : List Str} {k n m i : Nat} {x : Str} {px pd pa : Pos} {rest : List Stmt} (U : Fun K nm qual st fad fd) (sc : FnScope N ps (defScope st)) (hn : N.length = n) (hm : ps.length = m) (hmn : m ≤ n) (hW : ∀ i ∈ W, m ≤ i) (hi : W.contains i = false)
    (hbody : defBody st = .Assign [.Name x px] (.Dict [] [] pd) pa :: rest)
    (h0 : ∀ (cdv : Value) (A : Around) (outer : List Env) (s : Shared) (H : Hp) (E : XK), PS (cxOf CX0 P w K mg base N qual (defScope st) fad cdv A outer s H E).nox (.Assign [.Name x px] (.Dict [] [] pd) pa) (tAsg tDNewK (gName i)))
    (hb : ∀ (p : Addr) (cdv : Value) (A : Around) (outer : List Env) (s : Shared) (H : Hp) (E : XK), Room k (A.deeper (envOfC qual (defScope st) s.heap.objs.size fad cdv)) → PSs (cxOf CX0 P w K mg base N qual (defScope st) fad cdv A outer s H E).nox rest (tSt ⟨K, hdc hd p⟩ (Zdc Z p) W F)) :
    FnOk P w K mg base CX0 (k + 1) fad fd ps (spD ⟨K, hd⟩ Z m (fnDk n i F)) := by
  refine U.ok sc (fun vs H Q E h => ?_) (fun cdv A outer s H vs Q E hr h => ?_)
  · obtain ⟨B, ds, s, d, s', h1, _, _, h2, _⟩ := h
    rw [h2.len, h1, hm]
  · rw [hbody]
    refine ⟨_, pss_cons (h0 cdv A outer s H E) (⟨fun pins s' σ H' D I ⟨p, q⟩ => (hb p cdv A outer s H E hr).run pins s' σ H' D I q⟩ : PSs _ rest (fun E σ H => ∃ p, tSt ⟨K, hdc hd p⟩ (Zdc Z p) W F E σ H)), ?_⟩
    obtain ⟨B, ds, s0, d, s', h1, bd, mb, h2, R0, hF, q⟩ := h
    intro p np
    have zp : ¬ Z.M p := fun z => bd p (mb p z) np
    unfold fnDk at hF
    split at hF
    · rename_i hno
      have e1 : (upd H p (.dK [])) p = some (.dK []) := upd_same
      have sm := Lc.same_new (o := .dK []) np
      have bd1 : ∀ a, (B a ∨ a = p) → (upd H p (.dK [])) a ≠ none := fun a z => z.elim (fun z => by
        obtain ⟨o, e⟩ := some_of_ne (bd a z)
        rw [sm a o e]
        simp) fun z => by rw [z, e1]; simp
      have r1 : Reps ⟨K, hdc hd p⟩ (fun a => B a ∨ a = p) (upd H p (.dK [])) ds vs := ((reps_h ds vs hno).mp h2).mv fun a o e nb => ⟨sm a o e, fun z => z.elim nb fun z => by rw [z, np] at e; cases e⟩
      have eo := eo_start (W := W) (Z := Zdc Z p) (N := N) hn bd1 (fun a z => z.imp (mb a) id) r1 (by omega) (by rw [h1]; exact hW)
      have eo2 := eo.set (i := i) (d := hnd 1) (v := .ref p) (by simpa using hi) (by
        unfold hnd
        simp only [Rep]
        exact ⟨p, rfl, .inl ⟨1, rfl, by unfold hdc; rw [if_pos rfl]⟩⟩)
      have R1 : (Zdc Z p).R (upd H p (.dK [])) (s0, []) := ⟨Z.same R0 sm, e1, zp⟩
      have sr : Sr ⟨K, hdc hd p⟩ (Zdc Z p) W (fun a => B a ∨ a = p) (upd H p (.dK [])) (fun _ => False) (upd H p (.dK [])) ((L2.start N vs).set i (some (.ref p))) ((startR n ds).set i (some (hnd 1))) (s0, []) := ⟨eo2, Lc.Fr.refl _, bd1, fun _ z => z.elim, R1⟩
      have frb : ∀ H', Lc.Fr (Zdc Z p).M (upd H p (.dK [])) H' → Lc.Fr Z.M H H' := fun H' f b o e => by
        obtain ⟨o', e2, e3⟩ := f b o (sm b o e)
        refine ⟨o', e2, fun nb => e3 fun z => z.elim nb fun z => ?_⟩
        rw [z, np] at e
        cases e
      split at hF
      · rename_i d' s1 e9
        split at hF
        · rename_i hnd'
          cases hF
          refine ⟨p, fun a => B a ∨ a = p, _, fun _ => False, _, _, .rt d, _, sr, e9, fun v H' f1 r3 R3 => ?_⟩
          exact q v H' (frb H' f1) (((rep_h d v hnd').mpr r3).sub fun a z _ => .inl z) R3.1
        · cases hF
      · rename_i ρ' s1 e9
        cases hF
        refine ⟨p, fun a => B a ∨ a = p, _, fun _ => False, _, _, .nx ρ', _, sr, e9, fun O' σ' H' sr' _ => ?_⟩
        exact q .non H' (frb H' sr'.fr) (by simp only [Rep]) sr'.r.1
      · cases hF
    · cases hF
end
end Dl
set_option Elab.async false
set_option linter.all false
set_option maxRecDepth 100000
set_option maxHeartbeats 4000000
/-! the dict that a def makes: read, stored, sorted -/
namespace Dl
open PySem PySem.Spec PyProof.Rows L2 Ds
theorem Room_units1 {A : Around} {k : Nat} (hr : Room k A) : A.units + 1 < cLine := by have := hr.un; omega
def isH (ρ : Rho) (i : Nat) : Bool := match ρ[i]? with
  | some (some (.dict [(.int 1, .none)])) => true
  | _ => false
section
variable {S : Type}
def cDg2 (i : Nat) (f g : Ev (S × KV)) : Ev (S × KV) := fun ρ s => if isH ρ i = true then bnd (f ρ s) fun k s => bnd (g ρ s) fun z s => match k with
  | .str k => some ((match kvGet s.2 k with | some n => .int n | none => z), s)
  | _ => none else none
def cDi (i : Nat) (f : Ev (S × KV)) : Ev (S × KV) := fun ρ s => if isH ρ i = true then bnd (f ρ s) fun k s => match k with
  | .str k => match kvGet s.2 k with
    | some n => some (.int n, s)
    | none => none
  | _ => none else none
def sDp (i : Nat) (f g : Ev (S × KV)) : Sv (S × KV) := fun ρ s => if isH ρ i = true then bnd (g ρ s) fun v s => bnd (f ρ s) fun k s => match k, v with
  | .str k, .int n => if s.2.length < 1000 then some (.nx ρ, (s.1, kvPut s.2 k n)) else none
  | _, _ => none else none
def aSd (i : Nat) : Ea (S × KV) := fun ρ s => if isH ρ i = true ∧ s.2.length < 64 then some ((sortS (s.2.map (·.1))).map .str, s) else none
variable {X : Cx} {K : PySem.W.Frag} {hd : Nat → Addr → Prop} {p : Addr} {Z : Zk S} {W : List Nat} {f g : Ev (S × KV)} {e e2 : Expr} {x : Str} {px apos cpos pos pos' : Pos} {i : Nat}
theorem isH_at {B O : Bar} {H : Hp} {σ : L2.St} {ρ : Rho} (eo : Eo ⟨K, hdc hd p⟩ (Zdc Z p) W B O H σ ρ) (h : isH ρ i = true) (hi : W.contains i = false) : σ[i]? = some (some (.ref p)) := by
  unfold isH at h
  split at h
  · rename_i e
    obtain ⟨v, h1, h2⟩ := eo.er.pl i _ (by simpa using hi) e
    simp only [Rep] at h2
    obtain ⟨a, rfl, ⟨n, e1, h3⟩ | ⟨e1, _⟩⟩ := h2
    · have : n = 1 := by
        have := e1
        simp at this
        omega
      subst this
      have h3 : a = p := by simpa [hdc] using h3
      rw [h1, h3]
    · cases e1
  · cases h
theorem ex_dg2 (hu : X.A.units + 1 < cLine) (hx : PE X (.Name x px) (tVar i)) (he : PE X e (tEx ⟨K, hdc hd p⟩ (Zdc Z p) W f)) (hf : PE X e2 (tEx ⟨K, hdc hd p⟩ (Zdc Z p) W g)) (m : M2 X (.Name x px) "get" apos e e2 cpos) (hi : W.contains i = false := by rfl) :
    PE X (.Call (.Attribute (.Name x px) "get" apos) [e, e2] [] cpos) (tEx ⟨K, hdc hd p⟩ (Zdc Z p) W (cDg2 i f g)) :=
  imp_pe (pe_dget2 hu hx he hf m) fun σ H Q ⟨B, O, ρ, s, d, s', eo, hR, hF, q⟩ => by
    unfold cDg2 at hF
    split at hF
    · rename_i hh
      obtain ⟨k, s1, h1, hF⟩ := bnd_some hF
      obtain ⟨z, s2, h2, hF⟩ := bnd_some hF
      have hv := isH_at eo hh hi
      refine ⟨.ref p, hv, p, rfl, .inl ⟨_, .inl hR.2.1⟩, B, O, ρ, s, k, s1, eo, hR, h1, fun v1 H1 f1 r1 R1 => ?_⟩
      refine ⟨B, O, ρ, s1, z, s2, eo.fr f1, R1, h2, fun v2 H2 f2 r2 R2 => ?_⟩
      cases k with
      | str k =>
        cases hF
        have r1 := r1.fr f2 fun a z => .inl (eo.mb a z)
        simp only [Rep] at r1
        subst r1
        refine ⟨_, DGet.k (k := Sum.inr k) R2.2.1, ?_⟩
        rw [kv_get]
        cases hk : kvGet s'.2 k with
        | none =>
          rw [hk] at q
          exact q _ H2 (f1.trans f2) r2 R2
        | some n =>
          rw [hk] at q
          exact q _ H2 (f1.trans f2) (by simp only [Rep]; rfl) R2
      | _ => cases hF
    · cases hF
theorem ex_di (hu : X.A.units + 1 < cLine) (hx : PE X (.Name x px) (tVar i)) (he : PE X e (tEx ⟨K, hdc hd p⟩ (Zdc Z p) W f)) (hs : NoSl e) (hi : W.contains i = false := by rfl) :
    PE X (.Subscript (.Name x px) e pos) (tEx ⟨K, hdc hd p⟩ (Zdc Z p) W (cDi i f)) :=
  imp_pe (pe_dget hu hx he hs) fun σ H Q ⟨B, O, ρ, s, d, s', eo, hR, hF, q⟩ => by
    unfold cDi at hF
    split at hF
    · rename_i hh
      obtain ⟨k, s1, h1, hF⟩ := bnd_some hF
      have hv := isH_at eo hh hi
      refine ⟨.ref p, hv, B, O, ρ, s, k, s1, eo, hR, h1, fun v1 H1 f1 r1 R1 => ?_⟩
      split at hF
      · rename_i k
        split at hF
        · rename_i n hn
          cases hF
          simp only [Rep] at r1
          subst r1
          have := DGet.k (k := Sum.inr k) R1.2.1
          rw [kv_get, hn] at this
          exact ⟨p, .int n, rfl, this, q _ H1 f1 (by simp only [Rep]) R1⟩
        · cases hF
      · cases hF
    · cases hF
theorem nl_sortD (hc : X.calm = true) (hg : Gl X "sorted") (hm : X.mg "sorted" = none) (hx : PE X (.Name x px) (tVar i)) (hs : starEach [.Name x px] X.env = (false, eval (.Name x px) X.env) :: starEach [] X.env := by rfl) (hi : W.contains i = false := by rfl) :
    PE X (.Call (.Name "sorted" pos') [.Name x px] [] pos) (tNl ⟨K, hdc hd p⟩ (Zdc Z p) W (aSd i)) :=
  imp_pe (pe_callB (call_sortedD hc) hg hm (by decide +kernel) (pa_cons hx pa_nil hs) (he := hs)) fun σ H Q ⟨B, O, ρ, s, l, s', eo, hR, hF, q⟩ => by
    unfold aSd at hF
    split at hF
    · rename_i hh
      cases hF
      have hv := isH_at eo hh.1 hi
      refine ⟨.ref p, hv, p, _, s.2.map (·.1), rfl, .inl hR.2.1, ?_, by rw [List.length_map]; exact hh.2, fun ys p2 hp hso np => ?_⟩
      · unfold kvV
        rw [List.map_map, List.map_map]
        rfl
      · have e := sortS_eq hp hso
        subst e
        exact q p2 _ _ np (Lc.Fr.new np) upd_same reps_strs ((Zdc Z p).same hR (Lc.same_new np))
    · cases hF
theorem es_dput {value : Expr} (hu : X.A.units + 1 < cLine) (hx : PE X (.Name x px) (tVar i)) (he : PE X e (tEx ⟨K, hdc hd p⟩ (Zdc Z p) W f)) (hv : PE X value (tEx ⟨K, hdc hd p⟩ (Zdc Z p) W g)) (hs : swapsWith value (some (.Subscript (.Name x px) e pos')) pos.line X.env = pure false := by rfl) (hi : W.contains i = false := by rfl) :
    PS X (.Assign [.Subscript (.Name x px) e pos'] value pos) (tSt ⟨K, hdc hd p⟩ (Zdc Z p) W (sDp i f g)) :=
  imp_ps (ps_dput hu hx he hv hs) fun E σ H ⟨B, H0, O, ρ, s, r, s', sr, hF, q⟩ => by
    unfold sDp at hF
    split at hF
    · rename_i hh
      obtain ⟨v, s1, h1, hF⟩ := bnd_some hF
      obtain ⟨k, s2, h2, hF⟩ := bnd_some hF
      refine ⟨B, O, ρ, s, v, s1, sr.eo, sr.r, h1, fun v1 H1 f1 r1 R1 => ?_⟩
      have eo1 := sr.eo.fr f1
      refine ⟨.ref p, isH_at eo1 hh hi, B, O, ρ, s1, k, s2, eo1, R1, h2, fun v2 H2 f2 r2 R2 => ?_⟩
      split at hF
      case _ k n _ =>
        split at hF
        · rename_i hl
          cases hF
          have r1 := r1.fr f2 fun a z => .inl (sr.eo.mb a z)
          simp only [Rep] at r1 r2
          subst r1 r2
          refine ⟨p, _, rfl, DPut.k (k := Sum.inr _) R2.2.1 (by unfold kvV; rw [List.length_map]; exact Nat.lt_of_lt_of_le hl (by decide)), ?_⟩
          rw [kv_put]
          have f3 : Lc.Fr (Zdc Z p).M H (upd H2 p (.dK (kvV (kvPut s2.2 k n)))) := (f1.trans f2).trans (Lc.Fr.mut (.inr rfl))
          have R3 : (Zdc Z p).R (upd H2 p (.dK (kvV (kvPut s2.2 k n)))) (s2.1, kvPut s2.2 k n) := by
            refine ⟨Z.loc H2 _ s2.1 R2.1 fun a m => ?_, upd_same, R2.2.2⟩
            rw [upd_ne]
            intro z
            exact R2.2.2 (z ▸ m)
          exact q O σ _ (sr.step f3 R3) (Ch.of f3)
        · cases hF
      case _ => cases hF
    · cases hF
end
end Dl
set_option Elab.async false
set_option linter.all false
set_option maxRecDepth 100000
set_option maxHeartbeats 4000000
/-! a def's own dict of texts to scalars of one kind: as LcDct, LcDcu -/
namespace Dg
open PySem PySem.Spec PyProof.Rows L2 Ds Dl
/-- what a dict may hold as values: a kind of scalar data -/
class DV (A : Type) where
  v : A → V
  d : A → D
  of : D → Option A
  rep : ∀ (G : Kx) (B : Bar) (H : Hp) (a : A), Rep G B H (d a) (v a)
  back : ∀ x a, of x = some a → x = d a
  only : ∀ (G : Kx) (B : Bar) (H : Hp) (a : A) (u : V), Rep G B H (d a) u → u = v a
instance : DV Int := ⟨V.int, .int, fun x => match x with | .int n => some n | _ => none, fun G B H a => by simp only [Rep], fun x a h => by split at h <;> cases h; rfl, fun G B H a u h => by simpa only [Rep] using h⟩
instance : DV Bool := ⟨V.bl, .bool, fun x => match x with | .bool n => some n | _ => none, fun G B H a => by simp only [Rep], fun x a h => by split at h <;> cases h; rfl, fun G B H a u h => by simpa only [Rep] using h⟩
abbrev KV (B : Type) := List (Str × B)
variable {VA : Type} [DV VA]
def kvV (m : KV VA) : List (Key × V) := m.map fun p => (Sum.inr p.1, DV.v p.2)
def kvGet (m : KV VA) (k : Str) : Option VA := (m.find? fun p => decide (p.1 = k)).map (·.2)
def kvPut (m : KV VA) (k : Str) (v : VA) : KV VA := if (m.any fun p => decide (p.1 = k)) = true then m.map (fun p => if p.1 = k then (p.1, v) else p) else m ++ [(k, v)]
theorem kv_get (k : Str) : ∀ m : KV VA, valV (kvV m) (Sum.inr k : Key) = (kvGet m k).map DV.v
  | [] => rfl
  | (a, n) :: m => by
    have ih := kv_get k m
    by_cases e : a = k
    · subst e
      simp [valV, kvV, kvGet]
    · unfold valV kvV kvGet at ih ⊢
      simp only [List.map_cons, List.find?_cons]
      have e2 : decide ((Sum.inr a : Key) = Sum.inr k) = false := decide_eq_false fun z => e (Sum.inr.inj z)
      rw [e2, decide_eq_false e]
      exact ih
theorem kv_put (m : KV VA) (k : Str) (v : VA) : putK (kvV m) (Sum.inr k : Key) (DV.v v) = kvV (kvPut m k v) := by
  have h1 : ((kvV m).any fun p => decide (p.1 = (Sum.inr k : Key))) = m.any fun p => decide (p.1 = k) := by
    unfold kvV
    rw [List.any_map]
    congr 1
    funext p
    simp
  unfold putK kvPut
  rw [h1]
  split
  · unfold kvV
    rw [List.map_map, List.map_map]
    refine List.map_congr_left fun p _ => ?_
    by_cases e : p.1 = k
    · simp [e]
    · simp [e]
  · simp [kvV]
/-- what is shared, and the dict at p -/
def Zdc {S : Type} (Z : Zk S) (p : Addr) : Zk (S × KV VA) where
  M := fun a => Z.M a ∨ a = p
  R := fun H s => Z.R H s.1 ∧ H p = some (.dK (kvV s.2)) ∧ ¬ Z.M p
  dom := fun H s a h m => m.elim (Z.dom H s.1 a h.1) fun e => by
    rw [e, h.2.1]
    simp
  loc := fun H H' s h k => ⟨Z.loc H H' s.1 h.1 fun a m => k a (.inl m), (k p (.inr rfl)).trans h.2.1, h.2.2⟩
def fnDk {S : Type} (n i : Nat) (F : Sv (S × KV VA)) : Fn S := fun ds s => if noHs ds = true then match F ((startR n ds).set i (some (hnd 1))) (s, []) with
  | some (.rt d, s') => if noH d = true then some (d, s'.1) else none
  | some (.nx _, s') => some (.none, s'.1)
  | _ => none else none
section
variable {S : Type} {P : Program} {w : World} {K : PySem.W.Frag} {mg : Str → Option Value} {base : Heap} {hd : Nat → Addr → Prop} {Z : Zk S} {W : List Nat} {F : Sv (S × KV VA)}
theorem fn_okD {nm qual : Str} {st : Stmt} {fad : Addr} {fd : FuncData} {N ps : List Str} {k n m i : Nat} {x : Str} {px pd pa : Pos} {rest : List Stmt} (U : Fun K nm qual st fad fd) (sc : FnScope N ps (defScope st)) (hn : N.length = n) (hm : ps.length = m) (hmn : m ≤ n) (hW : ∀ i ∈ W, m ≤ i) (hi : W.contains i = false)
    (hbody : defBody st = .Assign [.Name x px] (.Dict [] [] pd) pa :: rest)
    (h0 : ∀ (cdv : Value) (A : Around) (outer : List Env) (s : Shared) (H : Hp) (E : XK), PS (cxOf CX0 P w K mg base N qual (defScope st) fad cdv A outer s H E).nox (.Assign [.Name x px] (.Dict [] [] pd) pa) (tAsg tDNewK (gName i)))
    (hb : ∀ (p : Addr) (cdv : Value) (A : Around) (outer : List Env) (s : Shared) (H : Hp) (E : XK), Room k (A.deeper (envOfC qual (defScope st) s.heap.objs.size fad cdv)) → PSs (cxOf CX0 P w K mg base N qual (defScope st) fad cdv A outer s H E).nox rest (tSt ⟨K, hdc hd p⟩ (Zdc (VA := VA) Z p) W F)) :
    FnOk P w K mg base CX0 (k + 1) fad fd ps (spD ⟨K, hd⟩ Z m (fnDk n i F)) := by
  refine U.ok sc (fun vs H Q E h => ?_) (fun cdv A outer s H vs Q E hr h => ?_)
  · obtain ⟨B, ds, s, d, s', h1, _, _, h2, _⟩ := h
    rw [h2.len, h1, hm]
  · rw [hbody]
    refine ⟨_, pss_cons (h0 cdv A outer s H E) (⟨fun pins s' σ H' D I ⟨p, q⟩ => (hb p cdv A outer s H E hr).run pins s' σ H' D I q⟩ : PSs _ rest (fun E σ H => ∃ p, tSt ⟨K, hdc hd p⟩ (Zdc (VA := VA) Z p) W F E σ H)), ?_⟩
    obtain ⟨B, ds, s0, d, s', h1, bd, mb, h2, R0, hF, q⟩ := h
    intro p np
    have zp : ¬ Z.M p := fun z => bd p (mb p z) np
    unfold fnDk at hF
    split at hF
    · rename_i hno
      have e1 : (upd H p (.dK [])) p = some (.dK []) := upd_same
      have sm := Lc.same_new (o := .dK []) np
      have bd1 : ∀ a, (B a ∨ a = p) → (upd H p (.dK [])) a ≠ none := fun a z => z.elim (fun z => by
        obtain ⟨o, e⟩ := some_of_ne (bd a z)
        rw [sm a o e]
        simp) fun z => by rw [z, e1]; simp
      have r1 : Reps ⟨K, hdc hd p⟩ (fun a => B a ∨ a = p) (upd H p (.dK [])) ds vs := ((reps_h ds vs hno).mp h2).mv fun a o e nb => ⟨sm a o e, fun z => z.elim nb fun z => by rw [z, np] at e; cases e⟩
      have eo := eo_start (W := W) (Z := Zdc (VA := VA) Z p) (N := N) hn bd1 (fun a z => z.imp (mb a) id) r1 (by omega) (by rw [h1]; exact hW)
      have eo2 := eo.set (i := i) (d := hnd 1) (v := .ref p) (by simpa using hi) (by
        unfold hnd
        simp only [Rep]
        exact ⟨p, rfl, .inl ⟨1, rfl, by unfold hdc; rw [if_pos rfl]⟩⟩)
      have R1 : (Zdc (VA := VA) Z p).R (upd H p (.dK [])) (s0, []) := ⟨Z.same R0 sm, e1, zp⟩
      have sr : Sr ⟨K, hdc hd p⟩ (Zdc (VA := VA) Z p) W (fun a => B a ∨ a = p) (upd H p (.dK [])) (fun _ => False) (upd H p (.dK [])) ((L2.start N vs).set i (some (.ref p))) ((startR n ds).set i (some (hnd 1))) (s0, []) := ⟨eo2, Lc.Fr.refl _, bd1, fun _ z => z.elim, R1⟩
      have frb : ∀ H', Lc.Fr (Zdc (VA := VA) Z p).M (upd H p (.dK [])) H' → Lc.Fr Z.M H H' := fun H' f b o e => by
        obtain ⟨o', e2, e3⟩ := f b o (sm b o e)
        refine ⟨o', e2, fun nb => e3 fun z => z.elim nb fun z => ?_⟩
        rw [z, np] at e
        cases e
      split at hF
      · rename_i d' s1 e9
        split at hF
        · rename_i hnd'
          cases hF
          refine ⟨p, fun a => B a ∨ a = p, _, fun _ => False, _, _, .rt d, _, sr, e9, fun v H' f1 r3 R3 => ?_⟩
          exact q v H' (frb H' f1) (((rep_h d v hnd').mpr r3).sub fun a z _ => .inl z) R3.1
        · cases hF
      · rename_i ρ' s1 e9
        cases hF
        refine ⟨p, fun a => B a ∨ a = p, _, fun _ => False, _, _, .nx ρ', _, sr, e9, fun O' σ' H' sr' _ => ?_⟩
        exact q .non H' (frb H' sr'.fr) (by simp only [Rep]) sr'.r.1
      · cases hF
    · cases hF
end
def isH (ρ : Rho) (i : Nat) : Bool := match ρ[i]? with
  | some (some (.dict [(.int 1, .none)])) => true
  | _ => false
section
variable {S : Type}
def cDg2 (i : Nat) (f g : Ev (S × KV VA)) : Ev (S × KV VA) := fun ρ s => if isH ρ i = true then bnd (f ρ s) fun k s => bnd (g ρ s) fun z s => match k with
  | .str k => some ((match kvGet s.2 k with | some n => DV.d n | none => z), s)
  | _ => none else none
def cDi (i : Nat) (f : Ev (S × KV VA)) : Ev (S × KV VA) := fun ρ s => if isH ρ i = true then bnd (f ρ s) fun k s => match k with
  | .str k => match kvGet s.2 k with
    | some n => some (DV.d n, s)
    | none => none
  | _ => none else none
def sDp (i : Nat) (f g : Ev (S × KV VA)) : Sv (S × KV VA) := fun ρ s => if isH ρ i = true then bnd (g ρ s) fun v s => bnd (f ρ s) fun k s => match k, DV.of (A := VA) v with
  | .str k, some n => if s.2.length < 1000 then some (.nx ρ, (s.1, kvPut s.2 k n)) else none
  | _, _ => none else none
def aSd (i : Nat) : Ea (S × KV VA) := fun ρ s => if isH ρ i = true ∧ s.2.length < 64 then some ((sortS (s.2.map (·.1))).map .str, s) else none
variable {X : Cx} {K : PySem.W.Frag} {hd : Nat → Addr → Prop} {p : Addr} {Z : Zk S} {W : List Nat} {f g : Ev (S × KV VA)} {e e2 : Expr} {x : Str} {px apos cpos pos pos' : Pos} {i : Nat}
theorem isH_at {B O : Bar} {H : Hp} {σ : L2.St} {ρ : Rho} (eo : Eo ⟨K, hdc hd p⟩ (Zdc (VA := VA) Z p) W B O H σ ρ) (h : isH ρ i = true) (hi : W.contains i = false) : σ[i]? = some (some (.ref p)) := by
  unfold isH at h
  split at h
  · rename_i e
    obtain ⟨v, h1, h2⟩ := eo.er.pl i _ (by simpa using hi) e
    simp only [Rep] at h2
    obtain ⟨a, rfl, ⟨n, e1, h3⟩ | ⟨e1, _⟩⟩ := h2
    · have : n = 1 := by
        have := e1
        simp at this
        omega
      subst this
      have h3 : a = p := by simpa [hdc] using h3
      rw [h1, h3]
    · cases e1
  · cases h
theorem ex_dg2 (hu : X.A.units + 1 < cLine) (hx : PE X (.Name x px) (tVar i)) (he : PE X e (tEx ⟨K, hdc hd p⟩ (Zdc (VA := VA) Z p) W f)) (hf : PE X e2 (tEx ⟨K, hdc hd p⟩ (Zdc (VA := VA) Z p) W g)) (m : M2 X (.Name x px) "get" apos e e2 cpos) (hi : W.contains i = false := by rfl) :
    PE X (.Call (.Attribute (.Name x px) "get" apos) [e, e2] [] cpos) (tEx ⟨K, hdc hd p⟩ (Zdc (VA := VA) Z p) W (cDg2 i f g)) :=
  imp_pe (pe_dget2 hu hx he hf m) fun σ H Q ⟨B, O, ρ, s, d, s', eo, hR, hF, q⟩ => by
    unfold cDg2 at hF
    split at hF
    · rename_i hh
      obtain ⟨k, s1, h1, hF⟩ := bnd_some hF
      obtain ⟨z, s2, h2, hF⟩ := bnd_some hF
      have hv := isH_at eo hh hi
      refine ⟨.ref p, hv, p, rfl, .inl ⟨_, .inl hR.2.1⟩, B, O, ρ, s, k, s1, eo, hR, h1, fun v1 H1 f1 r1 R1 => ?_⟩
      refine ⟨B, O, ρ, s1, z, s2, eo.fr f1, R1, h2, fun v2 H2 f2 r2 R2 => ?_⟩
      cases k with
      | str k =>
        cases hF
        have r1 := r1.fr f2 fun a z => .inl (eo.mb a z)
        simp only [Rep] at r1
        subst r1
        refine ⟨_, DGet.k (k := Sum.inr k) R2.2.1, ?_⟩
        rw [kv_get]
        cases hk : kvGet s'.2 k with
        | none =>
          rw [hk] at q
          exact q _ H2 (f1.trans f2) r2 R2
        | some n =>
          rw [hk] at q
          exact q _ H2 (f1.trans f2) (DV.rep _ _ _ n) R2
      | _ => cases hF
    · cases hF
theorem ex_di (hu : X.A.units + 1 < cLine) (hx : PE X (.Name x px) (tVar i)) (he : PE X e (tEx ⟨K, hdc hd p⟩ (Zdc (VA := VA) Z p) W f)) (hs : NoSl e) (hi : W.contains i = false := by rfl) :
    PE X (.Subscript (.Name x px) e pos) (tEx ⟨K, hdc hd p⟩ (Zdc (VA := VA) Z p) W (cDi i f)) :=
  imp_pe (pe_dget hu hx he hs) fun σ H Q ⟨B, O, ρ, s, d, s', eo, hR, hF, q⟩ => by
    unfold cDi at hF
    split at hF
    · rename_i hh
      obtain ⟨k, s1, h1, hF⟩ := bnd_some hF
      have hv := isH_at eo hh hi
      refine ⟨.ref p, hv, B, O, ρ, s, k, s1, eo, hR, h1, fun v1 H1 f1 r1 R1 => ?_⟩
      split at hF
      · rename_i k
        split at hF
        · rename_i n hn
          cases hF
          simp only [Rep] at r1
          subst r1
          have := DGet.k (k := Sum.inr k) R1.2.1
          rw [kv_get, hn] at this
          exact ⟨p, DV.v n, rfl, this, q _ H1 f1 (DV.rep _ _ _ n) R1⟩
        · cases hF
      · cases hF
    · cases hF
theorem nl_sortD (hc : X.calm = true) (hg : Gl X "sorted") (hm : X.mg "sorted" = none) (hx : PE X (.Name x px) (tVar i)) (hs : starEach [.Name x px] X.env = (false, eval (.Name x px) X.env) :: starEach [] X.env := by rfl) (hi : W.contains i = false := by rfl) :
    PE X (.Call (.Name "sorted" pos') [.Name x px] [] pos) (tNl ⟨K, hdc hd p⟩ (Zdc (VA := VA) Z p) W (aSd i)) :=
  imp_pe (pe_callB (call_sortedD hc) hg hm (by decide +kernel) (pa_cons hx pa_nil hs) (he := hs)) fun σ H Q ⟨B, O, ρ, s, l, s', eo, hR, hF, q⟩ => by
    unfold aSd at hF
    split at hF
    · rename_i hh
      cases hF
      have hv := isH_at eo hh.1 hi
      refine ⟨.ref p, hv, p, _, s.2.map (·.1), rfl, .inl hR.2.1, ?_, by rw [List.length_map]; exact hh.2, fun ys p2 hp hso np => ?_⟩
      · unfold kvV
        rw [List.map_map, List.map_map]
        rfl
      · have e := sortS_eq hp hso
        subst e
        exact q p2 _ _ np (Lc.Fr.new np) upd_same reps_strs ((Zdc (VA := VA) Z p).same hR (Lc.same_new np))
    · cases hF
theorem es_dput {value : Expr} (hu : X.A.units + 1 < cLine) (hx : PE X (.Name x px) (tVar i)) (he : PE X e (tEx ⟨K, hdc hd p⟩ (Zdc (VA := VA) Z p) W f)) (hv : PE X value (tEx ⟨K, hdc hd p⟩ (Zdc (VA := VA) Z p) W g)) (hs : swapsWith value (some (.Subscript (.Name x px) e pos')) pos.line X.env = pure false := by rfl) (hi : W.contains i = false := by rfl) :
    PS X (.Assign [.Subscript (.Name x px) e pos'] value pos) (tSt ⟨K, hdc hd p⟩ (Zdc (VA := VA) Z p) W (sDp i f g)) :=
  imp_ps (ps_dput hu hx he hv hs) fun E σ H ⟨B, H0, O, ρ, s, r, s', sr, hF, q⟩ => by
    unfold sDp at hF
    split at hF
    · rename_i hh
      obtain ⟨v, s1, h1, hF⟩ := bnd_some hF
      obtain ⟨k, s2, h2, hF⟩ := bnd_some hF
      refine ⟨B, O, ρ, s, v, s1, sr.eo, sr.r, h1, fun v1 H1 f1 r1 R1 => ?_⟩
      have eo1 := sr.eo.fr f1
      refine ⟨.ref p, isH_at eo1 hh hi, B, O, ρ, s1, k, s2, eo1, R1, h2, fun v2 H2 f2 r2 R2 => ?_⟩
      split at hF
      case _ k n hof =>
        split at hF
        · rename_i hl
          cases hF
          have r1 := r1.fr f2 fun a z => .inl (sr.eo.mb a z)
          have hv9 := DV.back _ _ hof
          subst hv9
          have r1 := DV.only _ _ _ _ _ r1
          simp only [Rep] at r2
          subst r1 r2
          refine ⟨p, _, rfl, DPut.k (k := Sum.inr _) R2.2.1 (by unfold kvV; rw [List.length_map]; exact Nat.lt_of_lt_of_le hl (by decide)), ?_⟩
          rw [kv_put]
          have f3 : Lc.Fr (Zdc (VA := VA) Z p).M H (upd H2 p (.dK (kvV (kvPut s2.2 k n)))) := (f1.trans f2).trans (Lc.Fr.mut (.inr rfl))
          have R3 : (Zdc (VA := VA) Z p).R (upd H2 p (.dK (kvV (kvPut s2.2 k n)))) (s2.1, kvPut s2.2 k n) := by
            refine ⟨Z.loc H2 _ s2.1 R2.1 fun a m => ?_, upd_same, R2.2.2⟩
            rw [upd_ne]
            intro z
            exact R2.2.2 (z ▸ m)
          exact q O σ _ (sr.step f3 R3) (Ch.of f3)
        · cases hF
      case _ => cases hF
    · cases hF
end
end Dg
set_option Elab.async false
set_option linter.all false
set_option maxRecDepth 100000
set_option maxHeartbeats 4000000
/-! a def's own dict: len, list; defs called beside it -/
namespace Dg
open PySem PySem.Spec PyProof.Rows L2 Ds Dl
section
variable {VA : Type} [DV VA] {S : Type}
def cDlen (i : Nat) : Ev (S × KV VA) := fun ρ s => if isH ρ i = true then some (.int s.2.length, s) else none
def aDk (i : Nat) : Ea (S × KV VA) := fun ρ s => if isH ρ i = true then some ((s.2.map (·.1)).map .str, s) else none
variable {X : Cx} {K : PySem.W.Frag} {hd : Nat → Addr → Prop} {p : Addr} {Z : Zk S} {W : List Nat} {x : Str} {px pos pos' : Pos} {i : Nat}
theorem ex_dlen (hg : Gl X "len") (hm : X.mg "len" = none) (hx : PE X (.Name x px) (tVar i)) (hs : starEach [.Name x px] X.env = (false, eval (.Name x px) X.env) :: starEach [] X.env := by rfl) (hi : W.contains i = false := by rfl) :
    PE X (.Call (.Name "len" pos') [.Name x px] [] pos) (tEx ⟨K, hdc hd p⟩ (Zdc (VA := VA) Z p) W (cDlen i)) :=
  imp_pe (pe_callB call_lenD hg hm (by decide +kernel) (pa_cons hx pa_nil hs) (he := hs)) fun σ H Q ⟨B, O, ρ, s, l, s', eo, hR, hF, q⟩ => by
    unfold cDlen at hF
    split at hF
    · rename_i hh
      cases hF
      have hv := isH_at eo hh hi
      refine ⟨.ref p, hv, p, _, rfl, hR.2.1, ?_⟩
      have e : (kvV s.2).length = s.2.length := by unfold kvV; rw [List.length_map]
      rw [e]
      exact q _ H (Lc.Fr.refl H) (by simp only [Rep]) hR
    · cases hF
theorem nl_dlist (hc : X.calm = true) (hg : Gl X "list") (hm : X.mg "list" = none) (hx : PE X (.Name x px) (tVar i)) (hs : starEach [.Name x px] X.env = (false, eval (.Name x px) X.env) :: starEach [] X.env := by rfl) (hi : W.contains i = false := by rfl) :
    PE X (.Call (.Name "list" pos') [.Name x px] [] pos) (tNl ⟨K, hdc hd p⟩ (Zdc (VA := VA) Z p) W (aDk i)) :=
  imp_pe (pe_callTy (call_listD hc) hg hm (by decide +kernel) (pa_cons hx pa_nil hs) (he := hs)) fun σ H Q ⟨B, O, ρ, s, l, s', eo, hR, hF, q⟩ => by
    unfold aDk at hF
    split at hF
    · rename_i hh
      cases hF
      have hv := isH_at eo hh hi
      refine ⟨.ref p, hv, p, _, rfl, .inl hR.2.1, fun p2 np => ?_⟩
      have e : (kvV s.2).map (fun kv => kV kv.1) = (s.2.map (·.1)).map V.str := by
        unfold kvV
        rw [List.map_map, List.map_map]
        rfl
      rw [e]
      exact q p2 _ _ np (Lc.Fr.new np) upd_same reps_strs ((Zdc (VA := VA) Z p).same hR (Lc.same_new np))
    · cases hF
/-- a def that knows nothing of the dict, called beside it -/
def upK (F : Fn S) : Fn (S × KV VA) := fun ds s => if noHs ds = true then match F ds s.1 with
  | some (d, s') => if noH d = true then some (d, (s', s.2)) else none
  | none => none else none
variable {P : Program} {w : World} {mg : Str → Option Value} {base : Heap} {n k : Nat} {ps : List Str} {F : Fn S}
theorem sp_up {vs : List V} {H : Hp} {Q : VK} {E : XK} (h : spD ⟨K, hdc hd p⟩ (Zdc (VA := VA) Z p) n (upK F) vs H Q E) : spD ⟨K, hd⟩ Z n F vs H Q E := by
  obtain ⟨B, ds, s, d, s', h1, bd, mb, h2, R, hF, q⟩ := h
  unfold upK at hF
  split at hF
  · rename_i hno
    split at hF
    · rename_i d1 s1 e
      split at hF
      · rename_i hnd
        cases hF
        refine ⟨B, ds, s.1, d, s1, h1, bd, fun a m => mb a (.inl m), (reps_h ds vs hno).mpr h2, R.1, e, fun v H' f1 r1 R1 => ?_⟩
        have f2 : Lc.Fr (Zdc (VA := VA) Z p).M H H' := fun b o e => by
          obtain ⟨o', e1, e2⟩ := f1 b o e
          exact ⟨o', e1, fun nb => e2 fun z => nb (.inl z)⟩
        exact q v H' f2 ((rep_h d v hnd).mp r1) ⟨R1, f1.at R.2.1 R.2.2, R.2.2⟩
      · cases hF
    · cases hF
  · cases hF
def dn_up (C : Lc.Dn P w K mg base x ps k (spD ⟨K, hd⟩ Z n F)) : Lc.Dn P w K mg base x ps k (spD ⟨K, hdc hd p⟩ (Zdc (VA := VA) Z p) n (upK F)) :=
  ⟨C.f, C.fd, C.kp, C.g, C.b, ⟨fun vs H Q E z => C.G.len vs H Q E (sp_up z), fun A outer s H args us vs Q E hr he hb hv hsp => C.G.run A outer s H args us vs Q E hr he hb hv (sp_up hsp)⟩⟩
end
end Dg
set_option Elab.async false
set_option linter.all false
set_option maxRecDepth 100000
set_option maxHeartbeats 4000000
/-! a def whose last parameter has the default None, called with it and without -/
namespace Dl
open PySem PySem.Spec PyProof.Rows L2
abbrev FunDf (K : PySem.W.Frag) (x qual : Str) (st : Stmt) (dvs : List V) (kws : List (Str × V)) (f : Addr) (fd : FuncData) : Prop := FunD K x qual (defArgs st) (defBody st) (defScope st) dvs kws f fd
section
variable {S : Type} {P : Program} {w : World} {K : PySem.W.Frag} {mg : Str → Option Value} {base : Heap} {G : Kx} {Z : Zk S} {W : List Nat} {F : Sv S}
theorem fn_okF {nm qual : Str} {st : Stmt} {fad : Addr} {fd : FuncData} {N ps : List Str} {k n m : Nat} {dvs : List V} {kws : List (Str × V)} (U : FunDf K nm qual st dvs kws fad fd) (sc : FnScope N ps (defScope st)) (hn : N.length = n) (hm : ps.length = m) (hmn : m ≤ n) (hW : ∀ i ∈ W, m ≤ i)
    (hb : ∀ (cdv : Value) (A : Around) (outer : List Env) (s : Shared) (H : Hp) (E : XK), Room k (A.deeper (envOfC qual (defScope st) s.heap.objs.size fad cdv)) → PSs (cxOf CX0 P w K mg base N qual (defScope st) fad cdv A outer s H E).nox (defBody st) (tSt G Z W F)) :
    FnOk P w K mg base CX0 (k + 1) fad fd ps (spD G Z m (fnD n F)) := by
  refine U.ok sc (fun vs H Q E h => ?_) (fun cdv A outer s H vs Q E hr h => ⟨_, (hb cdv A outer s H E hr).nox, ?_⟩)
  · obtain ⟨B, ds, s, d, s', h1, _, _, h2, _⟩ := h
    rw [h2.len, h1, hm]
  · obtain ⟨B, ds, s0, d, s', h1, bd, mb, h2, R0, hF, q⟩ := h
    have eo := eo_start (W := W) (Z := Z) (N := N) hn bd mb h2 (by omega) (by rw [h1]; exact hW)
    have sr : Sr G Z W B H (fun _ => False) H (L2.start N vs) (startR n ds) s0 := ⟨eo, Lc.Fr.refl H, bd, fun _ z => z.elim, R0⟩
    unfold fnD at hF
    split at hF
    · rename_i d' s1 e1
      cases hF
      exact ⟨B, H, fun _ => False, startR n ds, s0, .rt d, _, sr, e1, q⟩
    · rename_i ρ' s1 e1
      cases hF
      exact ⟨B, H, fun _ => False, startR n ds, s0, .nx ρ', _, sr, e1, fun O' σ' H' sr' _ => q .non H' sr'.fr (by simp only [Rep]) sr'.r⟩
    · cases hF
end
/-- a def that may be called without its last argument, which is None then -/
structure Dn1 (P : Program) (w : World) (K : PySem.W.Frag) (mg : Str → Option Value) (base : Heap) (x : Str) (ps : List Str) (k : Nat) (sp : Sp) where
  f : Addr
  fd : FuncData
  kp : PySem.W.keepIn K (.ref f) = true
  g : mg x = some (.ref f)
  ds : List Value
  r : Vals [V.non] ds
  b : Binds K fd ps ds
  G : FnOk P w K mg base CX0 k f fd ps sp
section
variable {S : Type} {X : Cx} {G : Kx} {Z : Zk S} {W : List Nat} {fa : Ea S} {e : Expr} {es : List Expr} {pos p : Pos} {x : Str}
def cCall1 (n : Nat) (F : Fn S) (f : Ea S) : Ev S := fun ρ s => bnd (f ρ s) fun xs s => if xs.length = n then F (xs ++ [.none]) s else none
theorem ex_call1 {ps : List Str} {k n : Nat} {F : Fn S} (C : Dn1 X.prog X.w X.K X.mg X.base x ps k (spD G Z (n + 1) F)) (hr : Room k X.A) (hg : Gl X x) (ha : PA X (e :: es) (tEa G Z W fa)) (hdb : (x == ("__debug__" : Str)) = false := by decide)
    (he : starEach (e :: es) X.env = (false, eval e X.env) :: starEach es X.env := by rfl) (hpl : (backTo pos (starEach es X.env)).any (·.1) = false := by rfl) : PE X (.Call (.Name x p) (e :: es) [] pos) (tEx G Z W (cCall1 n F fa)) :=
  imp_pe (pe_call C.G hr hg C.g C.kp C.b C.r pass0 ha hdb he hpl) fun σ H Q ⟨B, O, ρ, s, d, s', eo, hR, hf, q⟩ => by
    unfold cCall1 at hf
    obtain ⟨x, s1, h1, hf⟩ := bnd_some hf
    split at hf
    · rename_i hl
      refine ⟨B, O, ρ, s, x, s1, eo, hR, h1, fun v H1 f1 r1 R1 => ?_⟩
      have e2 := eo.fr f1
      have r2 := Reps.append r1 (Reps.cons (G := G) (B := fun a => B a ∨ O a) (H := H1) (d := .none) (v := V.non) (by simp only [Rep]) Reps.nil)
      exact ⟨_, x ++ [.none], s1, d, s', by rw [List.length_append, hl]; rfl, fun a z => z.elim (e2.bd a) (e2.od a), fun a z => .inl (eo.mb a z), r2, R1, hf, fun w H2 f2 r2 R2 => q w H2 (f1.trans f2) r2 R2⟩
    · cases hf
theorem k_call1 {n : Nat} {F : Fn S} {ρ : Rho} {s : S} {Q : D → S → Prop} : Ok (cCall1 n F fa ρ s) Q ↔ Ok (fa ρ s) fun xs s => xs.length = n ∧ Ok (F (xs ++ [.none]) s) Q := by
  unfold cCall1
  rw [ok_bnd]
  constructor
  · intro h
    refine h.imp fun xs s h => ?_
    by_cases e : xs.length = n
    · rw [if_pos e] at h
      exact ⟨e, h⟩
    · rw [if_neg e] at h
      obtain ⟨_, _, h, _⟩ := h
      cases h
  · intro h
    exact h.imp fun xs s h => by rw [if_pos h.1]; exact h.2
end
end Dl
set_option Elab.async false
set_option linter.all false
set_option maxRecDepth 100000
set_option maxHeartbeats 4000000
/-! equations for simp: expressions -/
namespace Dl
open PySem PySem.Spec PyProof.Rows L2
section
variable {S : Type} {ρ : Rho} {s : S} {f g h : Ev S} {fa : Ea S} {Q : D → S → Prop} {QL : List D → S → Prop} {QB : Bool → S → Prop}
theorem ok_V0 {d : D} : Ok (cVar 0 (some d :: ρ) s) Q ↔ Q d s := by simp [cVar]
theorem ok_Vs {i : Nat} {x : Option D} : Ok (cVar (i + 1) (x :: ρ) s) Q ↔ Ok (cVar i ρ s) Q := by simp [cVar]
theorem ok_K {d : D} : Ok (cK d ρ s) Q ↔ Q d s := by simp [cK]
theorem ok_B {p : D → D → Option D} : Ok (cB p f g ρ s) Q ↔ Ok (f ρ s) fun x s => Ok (g ρ s) fun y s => ∃ z, p x y = some z ∧ Q z s := by simp only [cB, ok_bnd, ok_put]
theorem ok_U {p : D → Option D} : Ok (cU p f ρ s) Q ↔ Ok (f ρ s) fun x s => ∃ z, p x = some z ∧ Q z s := by simp only [cU, ok_bnd, ok_put]
theorem ok_nil : Ok (aNil ρ s) QL ↔ QL [] s := by simp [aNil]
theorem ok_cons : Ok (aCons f fa ρ s) QL ↔ Ok (f ρ s) fun x s => Ok (fa ρ s) fun xs s => QL (x :: xs) s := by simp only [aCons, ok_bnd, ok_some]
theorem ok_N {p : List D → Option D} : Ok (cN p fa ρ s) Q ↔ Ok (fa ρ s) fun xs s => ∃ z, p xs = some z ∧ Q z s := by simp only [cN, ok_bnd, ok_put]
theorem ok_aN {p : List D → Option (List D)} : Ok (aN p fa ρ s) QL ↔ Ok (fa ρ s) fun xs s => ∃ z, p xs = some z ∧ QL z s := by simp only [aN, ok_bnd, ok_put]
theorem ok_call {n : Nat} {F : Fn S} : Ok (cCall n F fa ρ s) Q ↔ Ok (fa ρ s) fun xs s => xs.length = n ∧ Ok (F xs s) Q := by
  simp only [cCall, ok_bnd]
  constructor
  · intro h
    refine h.imp fun x s h => ?_
    split at h
    · exact ⟨by assumption, h⟩
    · exact (ok_none.mp h).elim
  · intro h
    exact h.imp fun x s h => by rw [if_pos h.1]; exact h.2
theorem ok_nl : Ok (cNl fa ρ s) Q ↔ Ok (fa ρ s) fun xs s => Q (.list xs) s := by simp only [cNl, ok_bnd, ok_some]
theorem ok_fl : Ok (cFl f ρ s) Q ↔ Ok (f ρ s) fun x s => flatD x = true ∧ Q x s := by
  simp only [cFl, ok_bnd]
  constructor
  · intro h
    refine h.imp fun x s h => ?_
    split at h
    · exact ⟨by assumption, ok_some.mp h⟩
    · exact (ok_none.mp h).elim
  · intro h
    exact h.imp fun x s h => by rw [if_pos h.1]; exact ok_some.mpr h.2
theorem ok_afl : Ok (aFl fa ρ s) QL ↔ Ok (fa ρ s) fun x s => flatDs x = true ∧ QL x s := by
  simp only [aFl, ok_bnd]
  constructor
  · intro h
    refine h.imp fun x s h => ?_
    split at h
    · exact ⟨by assumption, ok_some.mp h⟩
    · exact (ok_none.mp h).elim
  · intro h
    exact h.imp fun x s h => by rw [if_pos h.1]; exact ok_some.mpr h.2
theorem ok_T : Ok (qT f ρ s) QB ↔ Ok (f ρ s) fun x s => ∃ b, truth x = some b ∧ QB b s := by simp only [qT, ok_bnd, ok_put]
theorem ok_qNot {q : Et S} : Ok (qNot q ρ s) QB ↔ Ok (q ρ s) fun b s => QB (!b) s := by simp only [qNot, ok_bnd, ok_some]
theorem ok_if2 {α : Type} {b : Bool} {x y : Option (α × S)} {R : α → S → Prop} : Ok (if b = true then x else y) R ↔ if b = true then Ok x R else Ok y R := by cases b <;> simp
theorem ok_qAnd {q r : Et S} : Ok (qAnd q r ρ s) QB ↔ Ok (q ρ s) fun b s => if b = true then Ok (r ρ s) QB else QB false s := by simp only [qAnd, ok_bnd, ok_if2, ok_some]
theorem ok_qOr {q r : Et S} : Ok (qOr q r ρ s) QB ↔ Ok (q ρ s) fun b s => if b = true then QB true s else Ok (r ρ s) QB := by simp only [qOr, ok_bnd, ok_if2, ok_some]
theorem ok_and : Ok (cAnd f g ρ s) Q ↔ Ok (f ρ s) fun x s => ∃ b, truth x = some b ∧ if b = true then Ok (g ρ s) Q else Q x s := by simp only [cAnd, ok_bnd, ok_put, ok_if2, ok_some]
theorem ok_or : Ok (cOr f g ρ s) Q ↔ Ok (f ρ s) fun x s => ∃ b, truth x = some b ∧ if b = true then Q x s else Ok (g ρ s) Q := by simp only [cOr, ok_bnd, ok_put, ok_if2, ok_some]
theorem ok_not : Ok (cNot f ρ s) Q ↔ Ok (f ρ s) fun x s => ∃ b, truth x = some b ∧ Q (.bool (!b)) s := by simp only [cNot, ok_bnd, ok_put, ok_some]
theorem ok_if {q : Et S} : Ok (cIf q f g ρ s) Q ↔ Ok (q ρ s) fun b s => if b = true then Ok (f ρ s) Q else Ok (g ρ s) Q := by simp only [cIf, ok_bnd, ok_if2]
theorem ok_Sl {p : D → Option Int → Option Int → Option D} {l h : Eo' S} : Ok (cSl p f l h ρ s) Q ↔ Ok (f ρ s) fun x s => Ok (l ρ s) fun lo s => Ok (h ρ s) fun hi s => ∃ z, p x lo hi = some z ∧ Q z s := by simp only [cSl, ok_bnd, ok_put]
theorem ok_oNo {QO : Option Int → S → Prop} : Ok (oNo ρ s) QO ↔ QO none s := by simp [oNo]
theorem ok_oOf {QO : Option Int → S → Prop} : Ok (oOf f ρ s) QO ↔ Ok (f ρ s) fun x s => ∃ i, asI x = some i ∧ QO (some i) s := by
  simp only [oOf, ok_bnd, ok_put]
  constructor
  · intro h
    refine h.imp fun x s h => ?_
    obtain ⟨a, h1, h2⟩ := h
    rw [Option.map_eq_some_iff] at h1
    obtain ⟨i, h3, rfl⟩ := h1
    exact ⟨i, h3, h2⟩
  · intro h
    refine h.imp fun x s h => ?_
    obtain ⟨i, h1, h2⟩ := h
    exact ⟨some i, by rw [h1]; rfl, h2⟩
theorem ok_Ch {p q : D → D → Option D} : Ok (cCh p q f g h ρ s) Q ↔ Ok (f ρ s) fun x s => Ok (g ρ s) fun y s => ∃ z, p x y = some z ∧ ∃ b, asB z = some b ∧ if b = true then Ok (h ρ s) fun w s => ∃ z, q y w = some z ∧ Q z s else Q (.bool false) s := by
  simp only [cCh, ok_bnd, ok_put, ok_if2, ok_some]
theorem ok_it {p : D → Option (List D)} : Ok (iOf p f ρ s) QL ↔ Ok (f ρ s) fun x s => ∃ z, p x = some z ∧ QL z s := by simp only [iOf, ok_bnd, ok_put]
theorem ok_itA {p : List D → Option (List D)} : Ok (iOfA p fa ρ s) QL ↔ Ok (fa ρ s) fun x s => ∃ z, p x = some z ∧ QL z s := by simp only [iOfA, ok_bnd, ok_put]
theorem ok_yes : Ok (qYes ρ s) QB ↔ QB true s := by simp [qYes]
end
/-! what the operators come to -/
section
variable {i j : Int} {a b : Str} {x y : D} {ds es : List D}
theorem v_addI : pAdd (.int i) (.int j) = some (.int (i + j)) := rfl
theorem v_addS (h : a.length + b.length ≤ sizeLine) : pAdd (.str a) (.str b) = some (.str (a ++ b)) := by simp only [pAdd]; rw [if_pos h]
theorem v_addL (h : ds.length + es.length ≤ sizeLine) : pAdd (.list ds) (.list es) = some (.list (ds ++ es)) := by simp only [pAdd]; rw [if_pos h]
theorem v_addT (h : ds.length + es.length ≤ sizeLine) : pAdd (.tuple ds) (.tuple es) = some (.tuple (ds ++ es)) := by simp only [pAdd]; rw [if_pos h]
theorem v_sub : pSub (.int i) (.int j) = some (.int (i - j)) := rfl
theorem v_neg : pNeg (.int i) = some (.int (-i)) := rfl
theorem v_mod (h : 0 < j) : pMod (.int i) (.int j) = some (.int (i % j)) := by simp only [pMod, pI]; rw [if_pos (decide_eq_true h)]
theorem v_eqI : pEq (.int i) (.int j) = some (.bool (decide (i = j))) := rfl
theorem v_eqS : pEq (.str a) (.str b) = some (.bool (decide (a = b))) := rfl
theorem v_eqB {p q : Bool} : pEq (.bool p) (.bool q) = some (.bool (decide (p = q))) := rfl
theorem v_eq0 : pEq (.list ds) (.list []) = some (.bool ds.isEmpty) := rfl
theorem v_eqT0 : pEq (.tuple ds) (.tuple []) = some (.bool ds.isEmpty) := rfl
theorem v_eqD (hx : SeqAt.shaped (.tuple ds) = true) (hy : SeqAt.shaped (.tuple es) = true) : pEq (.tuple ds) (.tuple es) = some (.bool (PyData.eqv (.tuple ds) (.tuple es))) := by
  cases es with
  | nil => cases ds <;> rfl
  | cons e es => simp only [pEq]; rw [if_pos ⟨hx, hy⟩]
theorem v_neI : pNe (.int i) (.int j) = some (.bool (!decide (i = j))) := rfl
theorem v_neS : pNe (.str a) (.str b) = some (.bool (!decide (a = b))) := rfl
theorem v_neB {p q : Bool} : pNe (.bool p) (.bool q) = some (.bool (!decide (p = q))) := rfl
theorem v_ne0 : pNe (.list ds) (.list []) = some (.bool (!ds.isEmpty)) := rfl
theorem v_neT0 : pNe (.tuple ds) (.tuple []) = some (.bool (!ds.isEmpty)) := rfl
theorem v_ltI : pLt (.int i) (.int j) = some (.bool (decide (i < j))) := rfl
theorem v_leI : pLe (.int i) (.int j) = some (.bool (decide (i ≤ j))) := rfl
theorem v_gtI : pGt (.int i) (.int j) = some (.bool (decide (j < i))) := rfl
theorem v_geI : pGe (.int i) (.int j) = some (.bool (decide (j ≤ i))) := rfl
theorem v_is : pIs x .none = some (.bool (nonD x)) := rfl
theorem v_isNot : pIsNot x .none = some (.bool (!nonD x)) := rfl
theorem v_nn : nonD .none = true := rfl
theorem v_ns : nonD (.str a) = false := rfl
theorem v_ni : nonD (.int i) = false := rfl
theorem v_nl : nonD (.list ds) = false := rfl
theorem v_nt : nonD (.tuple ds) = false := rfl
theorem v_tb {p : Bool} : truth (.bool p) = some p := rfl
theorem v_tl : truth (.list ds) = some (!ds.isEmpty) := rfl
theorem v_tt : truth (.tuple ds) = some (!ds.isEmpty) := rfl
theorem v_tn : truth .none = some false := rfl
theorem v_ti : truth (.int i) = some (i != 0) := rfl
theorem v_asB {p : Bool} : asB (.bool p) = some p := rfl
theorem v_asI : asI (.int i) = some i := rfl
theorem v_asL : asL (.list ds) = some ds := rfl
theorem v_asT : asT (.tuple ds) = some ds := rfl
theorem v_asS : asS (.str a) = some (a.cps.toList.map fun c => .str ⟨#[c]⟩) := rfl
theorem v_lenL : pLen [.list ds] = some (.int ds.length) := rfl
theorem v_lenT : pLen [.tuple ds] = some (.int ds.length) := rfl
theorem v_lenS (h : a.length ≤ sizeLine) : pLen [.str a] = some (.int a.length) := by simp only [pLen]; rw [if_pos h]
theorem v_tupL : pTuple [.list ds] = some (.tuple ds) := rfl
theorem v_tupT : pTuple [.tuple ds] = some (.tuple ds) := rfl
theorem v_listL : pList [.list ds] = some ds := rfl
theorem v_listT : pList [.tuple ds] = some ds := rfl
theorem v_intB {p : Bool} : pInt [.bool p] = some (.int (if p then 1 else 0)) := rfl
theorem v_tup0 : pTup [] = some (.tuple []) := rfl
theorem v_tup1 {a : D} : pTup [a] = some (.tuple [a]) := rfl
theorem v_tup2 {a b : D} : pTup [a, b] = some (.tuple [a, b]) := rfl
theorem v_tup3 {a b c : D} : pTup [a, b, c] = some (.tuple [a, b, c]) := rfl
theorem v_tup4 {a b c d : D} : pTup [a, b, c, d] = some (.tuple [a, b, c, d]) := rfl
theorem v_tup5 {a b c d e : D} : pTup [a, b, c, d, e] = some (.tuple [a, b, c, d, e]) := rfl
theorem v_lst0 : pLst [] = some (.list []) := rfl
theorem v_lst1 {a : D} : pLst [a] = some (.list [a]) := rfl
theorem v_lst2 {a b : D} : pLst [a, b] = some (.list [a, b]) := rfl
theorem v_lst3 {a b c : D} : pLst [a, b, c] = some (.list [a, b, c]) := rfl
theorem v_lst4 {a b c d : D} : pLst [a, b, c, d] = some (.list [a, b, c, d]) := rfl
theorem v_lst5 {a b c d e : D} : pLst [a, b, c, d, e] = some (.list [a, b, c, d, e]) := rfl
theorem v_ok0 : lenOk [] = some [] := rfl
theorem v_ok1 {a : D} : lenOk [a] = some [a] := rfl
theorem v_ok2 {a b : D} : lenOk [a, b] = some [a, b] := rfl
theorem v_ix0L {d : D} : pIx (.list (d :: ds)) (.int 0) = some d := by simp only [pIx]; exact atI_nat (j := 0) rfl
theorem v_ix0 {d : D} : pIx (.tuple (d :: ds)) (.int 0) = some d := by simp only [pIx]; exact atI_nat (j := 0) rfl
theorem v_ix1 {c d : D} : pIx (.tuple (c :: d :: ds)) (.int 1) = some d := by simp only [pIx]; exact atI_nat (j := 1) rfl
theorem v_ix2 {b c d : D} : pIx (.tuple (b :: c :: d :: ds)) (.int 2) = some d := by simp only [pIx]; exact atI_nat (j := 2) rfl
theorem v_ix3 {a b c d : D} : pIx (.tuple (a :: b :: c :: d :: ds)) (.int 3) = some d := by simp only [pIx]; exact atI_nat (j := 3) rfl
theorem v_fs : flatD (.str a) = true := rfl
theorem v_fi : flatD (.int i) = true := rfl
theorem v_fb {p : Bool} : flatD (.bool p) = true := rfl
theorem v_fn : flatD .none = true := rfl
theorem v_ft : flatD (.tuple ds) = flatDs ds := rfl
theorem v_f0 : flatDs [] = true := rfl
theorem v_fc : flatDs (x :: ds) = (flatD x && flatDs ds) := rfl
end
end Dl
set_option Elab.async false
set_option linter.all false
set_option maxRecDepth 100000
set_option maxHeartbeats 4000000
namespace Dl
open PySem PySem.Spec L2
section
variable {S : Type} {t : Tg} {q : Et S} {f : Ev S} {ρ : Rho} {s : S}
theorem quF_all (c p : D → Bool) : ∀ ds : List D, (∀ d ∈ ds, ∃ ρ1, t d ρ = some ρ1 ∧ q ρ1 s = some (c d, s) ∧ (c d = true → f ρ1 s = some (.bool (p d), s))) → quF false t q f ρ ds s = some ((ds.filter c).all p, s)
  | [], _ => rfl
  | d :: ds, h => by
    obtain ⟨ρ1, h1, h2, h3⟩ := h d List.mem_cons_self
    have ih := quF_all c p ds fun x hx => h x (List.mem_cons_of_mem _ hx)
    unfold quF
    rw [h1]
    show bnd (q ρ1 s) _ = _
    rw [h2]
    cases hc : c d with
    | false =>
      rw [List.filter_cons_of_neg (by rw [hc]; decide)]
      exact ih
    | true =>
      rw [List.filter_cons_of_pos hc, List.all_cons]
      show bnd (f ρ1 s) _ = _
      rw [h3 hc]
      cases hp : p d with
      | false => rfl
      | true =>
        rw [Bool.true_and]
        exact ih
theorem k_all {fi : Ea S} {vs : List Nat} {ds : List D} (c p : D → Bool) (hi : fi ρ s = some (ds, s)) (h : ∀ d ∈ ds, ∃ ρ1, t d (wipeR ρ vs) = some ρ1 ∧ q ρ1 s = some (c d, s) ∧ (c d = true → f ρ1 s = some (.bool (p d), s))) :
    cQu false fi t q f vs ρ s = some (.bool ((ds.filter c).all p), s) := by
  unfold cQu
  rw [hi]
  show bnd (quF false t q f (wipeR ρ vs) ds s) _ = _
  rw [quF_all c p ds h]
  rfl
end
end Dl
set_option Elab.async false
set_option linter.all false
set_option maxRecDepth 100000
set_option maxHeartbeats 4000000
namespace Lw30
open PySem PySem.Spec PyProof.Rows L2 Dl
def t_SHAPES : List (Str × Str) := [(("is" : Str), ("tk" : Str)), (("does" : Str), ("dtt" : Str)), (("same" : Str), ("tt" : Str)), (("least" : Str), ("ss" : Str)), (("false" : Str), ("" : Str)), (("not" : Str), ("F" : Str)), (("and" : Str), ("FF" : Str)), (("or" : Str), ("FF" : Str)), (("if" : Str), ("FF" : Str)), (("every" : Str), ("xF" : Str)), (("some" : Str), ("xF" : Str))]
def t_REASONS : List (Str × Str) := [(("given" : Str), ("" : Str)), (("supposed" : Str), ("" : Str)), (("any" : Str), ("N" : Str)), (("called" : Str), ("Nk" : Str)), (("again" : Str), ("k" : Str)), (("itself" : Str), ("" : Str)), (("both" : Str), ("kk" : Str)), (("left" : Str), ("k" : Str)), (("right" : Str), ("k" : Str)), (("orleft" : Str), ("k" : Str)), (("orright" : Str), ("k" : Str)), (("then" : Str), ("kk" : Str)), (("absurd" : Str), ("kk" : Str)), (("nothing" : Str), ("k" : Str)), (("at" : Str), ("kN" : Str)), (("such" : Str), ("kN" : Str)), (("put" : Str), ("kk" : Str)), (("soif" : Str), ("k" : Str)), (("not" : Str), ("k" : Str)), (("contrary" : Str), ("k" : Str)), (("cases" : Str), ("kkk" : Str)), (("forany" : Str), ("k" : Str)), (("forsome" : Str), ("k" : Str)), (("meaning" : Str), ("k" : Str)), (("earlier" : Str), ("EK" : Str)), (("asmany" : Str), ("k" : Str)), (("one" : Str), ("k" : Str)), (("two" : Str), ("kkk" : Str)), (("someof" : Str), ("k" : Str)), (("none" : Str), ("k" : Str)), (("nomore" : Str), ("k" : Str)), (("apart" : Str), ("kk" : Str)), (("cover" : Str), ("k" : Str)), (("turned" : Str), ("k" : Str)), (("sums" : Str), ("KT" : Str)), (("by" : Str), ("B" : Str)), (("clearly" : Str), ("" : Str))]
-- is_again: slots form 0, forms 1, name 2
def B_follows {S : Type} (F_is_again : Fn S) (F_is_itself : Fn S) (F_is_both : Fn S) (F_is_left : Fn S) (F_is_right_side : Fn S) (F_is_or_left : Fn S) (F_is_or_right : Fn S) (F_is_then : Fn S) (F_is_absurd : Fn S) (F_is_of_nothing : Fn S) (F_is_at : Fn S) (F_is_such : Fn S) (F_is_put : Fn S) : Sv S :=
    (sSeq (sIf (qOr (qHasNot (List.map (fun x => x.1) [(("again" : Str), F_is_again), (("itself" : Str), F_is_itself), (("both" : Str), F_is_both), (("left" : Str), F_is_left), (("right" : Str), F_is_right_side), (("orleft" : Str), F_is_or_left), (("orright" : Str), F_is_or_right), (("then" : Str), F_is_then), (("absurd" : Str), F_is_absurd), (("nothing" : Str), F_is_of_nothing), (("at" : Str), F_is_at), (("such" : Str), F_is_such), (("put" : Str), F_is_put)]) (cVar 0)) (qT (cB pNe (cN pLen (aCons (cVar 2) aNil)) (cB pCount (cU (pDt t_REASONS) (cVar 0)) (cK (.str "k"))))))
    (sRet (cK (.bool false)))
    sNx)
    (sDisp 4 3 [(("again" : Str), F_is_again), (("itself" : Str), F_is_itself), (("both" : Str), F_is_both), (("left" : Str), F_is_left), (("right" : Str), F_is_right_side), (("orleft" : Str), F_is_or_left), (("orright" : Str), F_is_or_right), (("then" : Str), F_is_then), (("absurd" : Str), F_is_absurd), (("nothing" : Str), F_is_of_nothing), (("at" : Str), F_is_at), (("such" : Str), F_is_such), (("put" : Str), F_is_put)] (cVar 0) (aCons (cVar 1) (aCons (cVar 2) (aCons (cVar 3) aNil)))))
def K_follows {S : Type} (F_is_again : Fn S) (F_is_itself : Fn S) (F_is_both : Fn S) (F_is_left : Fn S) (F_is_right_side : Fn S) (F_is_or_left : Fn S) (F_is_or_right : Fn S) (F_is_then : Fn S) (F_is_absurd : Fn S) (F_is_of_nothing : Fn S) (F_is_at : Fn S) (F_is_such : Fn S) (F_is_put : Fn S) : Fn S := fnD 5 (B_follows F_is_again F_is_itself F_is_both F_is_left F_is_right_side F_is_or_left F_is_or_right F_is_then F_is_absurd F_is_of_nothing F_is_at F_is_such F_is_put)

-- _law_word: slots _law_deck_here 0, _law_most 1, _law_letters 2, _law_k 3; cells _law_deck_here, _law_letters
def B_w_word {S : Type} (F_w_draw : Fn S) : Sv S :=
    (sSeq (sSet 2 (cK (.str "abcdefghijklmnopqrstuvwxyz")))
    (sRet (cB pJoin (cK (.str "")) (cNl (lcF (iOfA pR1 (aCons (cCall 2 F_w_draw (aCons (cVar 0) (aCons (cB pAdd (cVar 1) (cK (.int 1))) aNil))) aNil)) (gNm 3) qYes (cB pIx (cVar 2) (cCall 2 F_w_draw (aCons (cVar 0) (aCons (cK (.int 26)) aNil)))) [3])))))
def K_w_word {S : Type} (F_w_draw : Fn S) : Fn S := fnD 4 (B_w_word F_w_draw)

-- _law_some: slots _law_deck_here 0, _law_many 1, _law_heads 2, _law_tail 3, _law_most 4, _law_found 5, _law_k 6, _law_word_here 7
def B_w_some {S : Type} (F_w_draw : Fn S) (F_w_word : Fn S) : Sv (S × Dg.KV Bool) :=
    (sSeq (sFor (iOfA pR1 (aCons (cVar 1) aNil)) (gNm 6)
    (sSeq (sSet 7 (cB pAdd (cB pAdd (cB pIx (cVar 2) (cCall 2 (Dg.upK F_w_draw) (aCons (cVar 0) (aCons (cN pLen (aCons (cVar 2) aNil)) aNil)))) (cCall 2 (Dg.upK F_w_word) (aCons (cVar 0) (aCons (cVar 4) aNil)))) (cVar 3)))
      (sSeq (sIf (qAnd (qT (cB pEq (cB pMod (cVar 6) (cK (.int 2))) (cK (.int 1)))) (qAnd (qT (cB pGt (Dg.cDlen 5) (cK (.int 0)))) (qT (cB pEq (cCall 2 (Dg.upK F_w_draw) (aCons (cVar 0) (aCons (cK (.int 2)) aNil))) (cK (.int 0))))))
      (sSet 7 (cB pAdd (cB pAdd (cSl pSl (cB pIx (cNl (Dg.aDk 5)) (cK (.int 0))) oNo (oOf (cK (.int 4)))) (cK (.str "q"))) (cVar 3)))
      sNx)
      (Dg.sDp 5 (cVar 7) (cK (.bool true))))))
    (sRet (cN pTuple (aCons (cNl (Dg.aSd 5)) aNil))))
def K_w_some {S : Type} (F_w_draw : Fn S) (F_w_word : Fn S) : Fn S := Dg.fnDk (VA := Bool) 8 5 (B_w_some F_w_draw F_w_word)

-- _law_vocabulary: slots _law_deck_here 0, _law_names 1, _law_kinds 2, _law_doings 3, _law_some_here 4, _law_rows 5, _law_more 6
def B_w_vocabulary {S : Type} (F_w_some : Fn S) (F_w_draw : Fn S) : Sv S :=
    (sSeq (sSet 4 (cCall 5 F_w_some (aCons (cVar 0) (aCons (cB pAdd (cK (.int 1)) (cCall 2 F_w_draw (aCons (cVar 0) (aCons (cVar 1) aNil)))) (aCons (cK (.str "ABCDEFGHIJKLM")) (aCons (cK (.str "")) (aCons (cK (.int 6)) aNil)))))))
    (sSeq (sSet 5 (cCall 5 F_w_some (aCons (cVar 0) (aCons (cB pAdd (cK (.int 1)) (cCall 2 F_w_draw (aCons (cVar 0) (aCons (cVar 2) aNil)))) (aCons (cK (.str "abcdefghijklmnopqrstuvwxyz")) (aCons (cK (.str "q")) (aCons (cK (.int 5)) aNil)))))))
    (sSeq (sSet 6 (cCall 5 F_w_some (aCons (cVar 0) (aCons (cCall 2 F_w_draw (aCons (cVar 0) (aCons (cB pAdd (cVar 3) (cK (.int 1))) aNil))) (aCons (cK (.str "abcdefghijklmnopqrstuvwxyz")) (aCons (cK (.str "qz")) (aCons (cK (.int 4)) aNil)))))))
    (sRet (cN pTup (aCons (cVar 4) (aCons (cVar 5) (aCons (cVar 6) aNil))))))))
def K_w_vocabulary {S : Type} (F_w_some : Fn S) (F_w_draw : Fn S) : Fn S := fnD 7 (B_w_vocabulary F_w_some F_w_draw)

-- _law_sum: slots _law_deck_here 0, _law_kinds 1, _law_parts 2, _law_kind 3; cells _law_deck_here
def B_w_sum {S : Type} (F_w_draw : Fn S) : Sv S :=
    (sSeq (sSet 2 (cNl (lcF (iOf asT (cVar 1)) (gNm 3) (qT (cB pEq (cCall 2 F_w_draw (aCons (cVar 0) (aCons (cK (.int 2)) aNil))) (cK (.int 0)))) (cN pTup (aCons (cVar 3) (aCons (cB pAdd (cK (.int 1)) (cCall 2 F_w_draw (aCons (cVar 0) (aCons (cK (.int 3)) aNil)))) aNil))) [3])))
    (sRet (cN pTup (aCons (cN pTuple (aCons (cVar 2) aNil)) (aCons (cCall 2 F_w_draw (aCons (cVar 0) (aCons (cK (.int 3)) aNil))) aNil)))))
def K_w_sum {S : Type} (F_w_draw : Fn S) : Fn S := fnD 4 (B_w_sum F_w_draw)

-- _law_atom: slots _law_deck_here 0, _law_vocabulary_here 1, _law_letters 2, _law_names 3, _law_kinds 4, _law_doings 5, _law_terms 6, _law_t 7, _law_u 8, _law_way 9
def B_w_atom {S : Type} (F_w_draw : Fn S) (F_w_sum : Fn S) : Sv S :=
    (sSeq (sAsg (cVar 1) (gTp (gC (gNm 3) (gC (gNm 4) (gC (gNm 5) gN0)))))
    (sSeq (sSet 6 (cB pAdd (cB pAdd (cNl (aN pList (aCons (cVar 3) aNil))) (cVar 2)) (cVar 2)))
    (sSeq (sSet 7 (cB pIx (cVar 6) (cCall 2 F_w_draw (aCons (cVar 0) (aCons (cN pLen (aCons (cVar 6) aNil)) aNil)))))
    (sSeq (sSet 8 (cB pIx (cVar 6) (cCall 2 F_w_draw (aCons (cVar 0) (aCons (cN pLen (aCons (cVar 6) aNil)) aNil)))))
    (sSeq (sSet 9 (cCall 2 F_w_draw (aCons (cVar 0) (aCons (cK (.int 8)) aNil))))
    (sSeq (sIf (qT (cB pEq (cVar 9) (cK (.int 0))))
    (sRet (cN pTup (aCons (cK (.str "same")) (aCons (cVar 7) (aCons (cVar 8) aNil)))))
    sNx)
    (sSeq (sIf (qT (cB pEq (cVar 9) (cK (.int 1))))
    (sRet (cN pTup (aCons (cK (.str "least")) (aCons (cCall 2 F_w_sum (aCons (cVar 0) (aCons (cVar 4) aNil))) (aCons (cCall 2 F_w_sum (aCons (cVar 0) (aCons (cVar 4) aNil))) aNil)))))
    sNx)
    (sSeq (sIf (qAnd (qT (cB pEq (cVar 9) (cK (.int 2)))) (qT (cB pEq (cVar 2) (cN pLst aNil))))
    (sRet (cN pTup (aCons (cK (.str "false")) aNil)))
    sNx)
    (sSeq (sIf (qAnd (qT (cB pLt (cVar 9) (cK (.int 5)))) (qT (cB pNe (cVar 5) (cN pTup aNil))))
    (sRet (cN pTup (aCons (cK (.str "does")) (aCons (cB pIx (cVar 5) (cCall 2 F_w_draw (aCons (cVar 0) (aCons (cN pLen (aCons (cVar 5) aNil)) aNil)))) (aCons (cVar 7) (aCons (cVar 8) aNil))))))
    sNx)
    (sRet (cN pTup (aCons (cK (.str "is")) (aCons (cVar 7) (aCons (cB pIx (cVar 4) (cCall 2 F_w_draw (aCons (cVar 0) (aCons (cN pLen (aCons (cVar 4) aNil)) aNil)))) aNil))))))))))))))
def K_w_atom {S : Type} (F_w_draw : Fn S) (F_w_sum : Fn S) : Fn S := fnD 10 (B_w_atom F_w_draw F_w_sum)

-- _law_form: slots _law_deck_here 0, _law_vocabulary_here 1, _law_letters 2, _law_deep 3, _law_way 4, _law_x 5, _law_one 6, _law_other 7
def B_w_form {S : Type} (F_w_draw : Fn S) (F_w_atom : Fn S) (F_w_form : Fn S) : Sv S :=
    (sSeq (sSet 4 (cCall 2 F_w_draw (aCons (cVar 0) (aCons (cK (.int 9)) aNil))))
    (sSeq (sIf (qOr (qT (cB pEq (cVar 3) (cK (.int 0)))) (qT (cB pLt (cVar 4) (cK (.int 2)))))
    (sRet (cCall 3 F_w_atom (aCons (cVar 0) (aCons (cVar 1) (aCons (cVar 2) aNil)))))
    sNx)
    (sSeq (sIf (qT (cB pEq (cVar 4) (cK (.int 2))))
    (sRet (cN pTup (aCons (cK (.str "not")) (aCons (cCall 4 F_w_form (aCons (cVar 0) (aCons (cVar 1) (aCons (cVar 2) (aCons (cB pSub (cVar 3) (cK (.int 1))) aNil))))) aNil))))
    sNx)
    (sSeq (sIf (qT (cB pGt (cVar 4) (cK (.int 6))))
    (sSeq (sSet 5 (cB pIx (cN pLst (aCons (cK (.str "x")) (aCons (cK (.str "y")) (aCons (cK (.str "z")) (aCons (cK (.str "u")) (aCons (cK (.str "x1")) aNil)))))) (cCall 2 F_w_draw (aCons (cVar 0) (aCons (cK (.int 5)) aNil)))))
      (sRet (cN pTup (aCons (cB pIx (cN pLst (aCons (cK (.str "every")) (aCons (cK (.str "some")) aNil))) (cB pSub (cVar 4) (cK (.int 7)))) (aCons (cVar 5) (aCons (cCall 4 F_w_form (aCons (cVar 0) (aCons (cVar 1) (aCons (cB pAdd (cVar 2) (cN pLst (aCons (cVar 5) aNil))) (aCons (cB pSub (cVar 3) (cK (.int 1))) aNil))))) aNil))))))
    sNx)
    (sSeq (sSet 6 (cCall 4 F_w_form (aCons (cVar 0) (aCons (cVar 1) (aCons (cVar 2) (aCons (cB pSub (cVar 3) (cK (.int 1))) aNil))))))
    (sSeq (sSet 7 (cCall 4 F_w_form (aCons (cVar 0) (aCons (cVar 1) (aCons (cVar 2) (aCons (cB pSub (cVar 3) (cK (.int 1))) aNil))))))
    (sRet (cN pTup (aCons (cB pIx (cN pLst (aCons (cK (.str "and")) (aCons (cK (.str "or")) (aCons (cK (.str "if")) (aCons (cK (.str "if")) aNil))))) (cB pSub (cVar 4) (cK (.int 3)))) (aCons (cVar 6) (aCons (cVar 7) aNil)))))))))))
def K_w_form {S : Type} (F_w_draw : Fn S) (F_w_atom : Fn S) (F_w_form : Fn S) : Fn S := fnD 8 (B_w_form F_w_draw F_w_atom F_w_form)

-- is_all_of: slots text 0, signs 1, sign 2; cells signs
def B_is_all_of {S : Type}  : Sv S :=
    (sRet (cQu false (iOf asS (cVar 0)) (gNm 2) qYes (cB pIn (cVar 2) (cVar 1)) [2]))
def K_is_all_of {S : Type}  : Fn S := fnD 3 (B_is_all_of )

-- is_small: slots thing 0, least 1, most 2
def B_is_small {S : Type} (F_is_all_of : Fn S) : Sv S :=
    (sRet (cAnd (cU (pIsi "str") (cVar 0)) (cAnd (cCh pLe pLe (cVar 1) (cN pLen (aCons (cVar 0) aNil)) (cVar 2)) (cCall 2 F_is_all_of (aCons (cVar 0) (aCons (cK (.str "abcdefghijklmnopqrstuvwxyz")) aNil))))))
def K_is_small {S : Type} (F_is_all_of : Fn S) : Fn S := fnD 3 (B_is_small F_is_all_of)

-- is_name: slots thing 0
def B_is_name {S : Type} (F_is_small : Fn S) : Sv S :=
    (sSeq (sIf (qOr (qNot (qT (cU (pIsi "str") (cVar 0)))) (qNot (qT (cVar 0))))
    (sRet (cK (.bool false)))
    sNx)
    (sRet (cAnd (cB pIn (cB pIx (cVar 0) (cK (.int 0))) (cK (.str "ABCDEFGHIJKLMNOPQRSTUVWXYZ"))) (cCall 3 F_is_small (aCons (cSl pSl (cVar 0) (oOf (cK (.int 1))) oNo) (aCons (cK (.int 0)) (aCons (cK (.int 7)) aNil)))))))
def K_is_name {S : Type} (F_is_small : Fn S) : Fn S := fnD 1 (B_is_name F_is_small)

-- pieces: slots form 0, wanted 1, place 2, piece 3; cells wanted
def B_pieces {S : Type}  : Sv S :=
    (sRet (cNl (lcF (iOfA pZipS (aCons (cU (pDt t_SHAPES) (cB pIx (cVar 0) (cK (.int 0)))) (aCons (cSl pSl (cVar 0) (oOf (cK (.int 1))) oNo) aNil))) (gTp (gC (gNm 2) (gC (gNm 3) gN0))) (qT (cB pEq (cVar 2) (cVar 1))) (cVar 3) [2, 3])))
def K_pieces {S : Type}  : Fn S := fnD 4 (B_pieces )

-- put_for: slots form 0, x 1, name 2, put 3, place 4, piece 5; cells name, x
def B_put_at {S : Type} (F_put_for : Fn S) : Sv S :=
    (sSeq (sIf (qT (cB pEq (cVar 0) (cK (.str "F"))))
    (sRet (cCall 3 F_put_for (aCons (cVar 1) (aCons (cVar 2) (aCons (cVar 3) aNil)))))
    sNx)
    (sSeq (sIf (qAnd (qT (cB pEq (cVar 0) (cK (.str "t")))) (qT (cB pEq (cVar 1) (cVar 2))))
    (sRet (cVar 3))
    sNx)
    (sRet (cVar 1))))
def K_put_at {S : Type} (F_put_for : Fn S) : Fn S := fnD 4 (B_put_at F_put_for)

-- is_case: slots whole 0, word 1, name 2, case 3
def B_w_put {S : Type} (F_w_put : Fn S) : Sv S :=
    (sSeq (sSet 3 (cB pIx (cVar 0) (cK (.int 0))))
    (sSeq (sIf (qT (cB pIn (cVar 3) (cN pTup (aCons (cK (.str "false")) (aCons (cK (.str "least")) aNil)))))
    (sRet (cVar 0))
    sNx)
    (sSeq (sIf (qT (cB pIn (cVar 3) (cN pTup (aCons (cK (.str "is")) (aCons (cK (.str "does")) (aCons (cK (.str "same")) aNil))))))
    (sRet (cN pTuple (aCons (cNl (lcF (iOf asT (cVar 0)) (gNm 4) qYes (cB pIx (cN pLst (aCons (cVar 4) (aCons (cVar 2) aNil))) (cN pInt (aCons (cB pEq (cVar 4) (cVar 1)) aNil))) [4])) aNil)))
    sNx)
    (sSeq (sIf (qT (cB pIn (cVar 3) (cN pTup (aCons (cK (.str "every")) (aCons (cK (.str "some")) aNil)))))
    (sSeq (sIf (qT (cB pEq (cB pIx (cVar 0) (cK (.int 1))) (cVar 1)))
      (sRet (cVar 0))
      sNx)
      (sRet (cN pTup (aCons (cVar 3) (aCons (cB pIx (cVar 0) (cK (.int 1))) (aCons (cCall 3 F_w_put (aCons (cB pIx (cVar 0) (cK (.int 2))) (aCons (cVar 1) (aCons (cVar 2) aNil)))) aNil))))))
    sNx)
    (sRet (cB pAdd (cN pTup (aCons (cVar 3) aNil)) (cN pTuple (aCons (cNl (lcF (iOf asT (cSl pSl (cVar 0) (oOf (cK (.int 1))) oNo)) (gNm 4) qYes (cCall 3 F_w_put (aCons (cVar 4) (aCons (cVar 1) (aCons (cVar 2) aNil)))) [4])) aNil))))))))
def K_w_put {S : Type} (F_w_put : Fn S) : Fn S := fnD 5 (B_w_put F_w_put)

-- _law_deepened: slots _law_deck_here 0, _law_form_here 1, _law_letters 2, _law_still 3, _law_k 4, _law_way 5
def B_w_deepened {S : Type} (F_w_draw : Fn S) : Sv S :=
    (sSeq (sIf (qT (cB pNe (cCall 2 F_w_draw (aCons (cVar 0) (aCons (cK (.int 8)) aNil))) (cK (.int 3))))
    (sRet (cVar 1))
    sNx)
    (sSeq (sSet 3 (cN pTup (aCons (cK (.str "least")) (aCons (cN pTup (aCons (cN pTup aNil) (aCons (cK (.int 0)) aNil))) (aCons (cN pTup (aCons (cN pTup aNil) (aCons (cK (.int 1)) aNil))) aNil)))))
    (sSeq (sFor (iOfA pR1 (aCons (cK (.int 6)) aNil)) (gNm 4)
    (sSeq (sSet 5 (cCall 2 F_w_draw (aCons (cVar 0) (aCons (cK (.int 4)) aNil))))
      (sIf (qT (cB pEq (cVar 5) (cK (.int 0))))
      (sSet 1 (cN pTup (aCons (cK (.str "not")) (aCons (cVar 1) aNil))))
      (sIf (qT (cB pEq (cVar 5) (cK (.int 1))))
        (sSet 1 (cN pTup (aCons (cB pIx (cN pLst (aCons (cK (.str "every")) (aCons (cK (.str "some")) aNil))) (cB pMod (cVar 4) (cK (.int 2)))) (aCons (cB pIx (cVar 2) (cCall 2 F_w_draw (aCons (cVar 0) (aCons (cN pLen (aCons (cVar 2) aNil)) aNil)))) (aCons (cVar 1) aNil)))))
        (sSet 1 (cB pIx (cN pLst (aCons (cN pTup (aCons (cK (.str "or")) (aCons (cVar 3) (aCons (cVar 1) aNil)))) (aCons (cN pTup (aCons (cK (.str "if")) (aCons (cVar 1) (aCons (cVar 3) aNil)))) aNil))) (cB pSub (cVar 5) (cK (.int 2)))))))))
    (sRet (cVar 1)))))
def K_w_deepened {S : Type} (F_w_draw : Fn S) : Fn S := fnD 6 (B_w_deepened F_w_draw)

end Lw30
set_option Elab.async false
set_option linter.all false
set_option maxRecDepth 100000
set_option maxHeartbeats 4000000
/-! zip of a text and two tuples -/
namespace Dl
open PySem PySem.Spec PyProof.Rows L2
def Itz3 (K : PySem.W.Frag) (x : Str) (b c : Addr) : It :=
  ⟨fun i H => ∃ (ys zs : List V) (y z : V), SqT K H b ys ∧ SqT K H c zs ∧ i < x.cps.size ∧ ys[i]? = some y ∧ zs[i]? = some z,
    fun i H v H' => ∃ (T : Addr) (n : Nat) (y z : V), v = .ref T ∧ H T = none ∧ H' = upd H T (.tup [.str ⟨#[n]⟩, y, z]) ∧ x.cps[i]? = some n ∧ (∀ ys, SqT K H b ys → ys[i]? = some y) ∧ ∀ zs, SqT K H c zs → zs[i]? = some z,
    fun i H => ∃ ys zs : List V, SqT K H b ys ∧ SqT K H c zs ∧ i ≤ x.cps.size ∧ i ≤ ys.length ∧ i ≤ zs.length ∧ (x.cps.size ≤ i ∨ ys.length ≤ i ∨ zs.length ≤ i)⟩
theorem turn_zip3 {P : Program} {w : World} {K : PySem.W.Frag} {elts : List Expr} {kk : Nat} {tpos : Pos} {b c z TI TO i1 i2 i3 : Addr} {x : Str} {t : Tok} (S : ZipSep3 z TI TO i1 i2 i3 [i1] [i2, b] [i3, c]) (hb : b ≠ i2) (hc3 : c ≠ i3) :
    Turn P w K (.Tuple elts kk tpos) (Itz3 K x b c) [z, TI, TO, i1, i2, i3] z (fun i h => IsZip h z TI TO .none ∧ IsTupOf3 h TI (.ref i1) (.ref i2) (.ref i3) ∧ (∃ x y u, IsTupOf3 h TO x y u) ∧ h.IsStrIter i1 (strIterType x) x t i ∧ h.IsTupleIter i2 b i ∧ h.IsTupleIter i3 c i) where
  mem := by simp
  obj := fun i h st c hc => by
    obtain ⟨s1, s2, ⟨_, _, _, s3⟩, ⟨o, s4, _, s5⟩, ⟨o', s6, _, s7⟩, ⟨o'', s8, _, s9⟩⟩ := st
    simp only [List.mem_cons, List.not_mem_nil, or_false] at hc
    obtain rfl | rfl | rfl | rfl | rfl | rfl := hc
    · exact ⟨_, s1, fun _ n => nomatch n⟩
    · exact ⟨_, s2, fun _ n => nomatch n⟩
    · exact ⟨_, s3, fun _ n => nomatch n⟩
    · exact ⟨o, s4, fun _ n => nomatch s5.symm.trans n⟩
    · exact ⟨o', s6, fun _ n => nomatch s7.symm.trans n⟩
    · exact ⟨o'', s8, fun _ n => nomatch s9.symm.trans n⟩
  keep := fun i h h' st stays => by
    obtain ⟨s1, s2, ⟨u, v, w3, s3⟩, ⟨o, s4, s5⟩, s6, s7⟩ := st
    have of {q : Addr} (hq : q ∈ [z, TI, TO, i1, i2, i3] := by simp) {ob : Obj} (e : h.get? q = some ob) : h'.get? q = some ob := stays q hq ob e
    exact ⟨of (by simp) s1, of (by simp) s2, ⟨u, v, w3, of (by simp) s3⟩, ⟨o, of (by simp) s4, s5⟩, s6.at fun ob e => of (by simp) e, s7.at fun ob e => of (by simp) e⟩
  item := by
    intro X hP hw hK hc i pins s σ H E I hf st hg
    subst hP hw hK
    obtain ⟨hz, hTI, ⟨x0, y0, u0, hTO⟩, h1, h2, h3⟩ := st
    obtain ⟨ys, zs, y, q, hqy, hqz, hi, hy, hzq⟩ := hg
    obtain ⟨its2, rv2, p2, _⟩ := I.tuple hqy
    obtain ⟨u2, hu2, ru2⟩ := rv2.get hy
    obtain ⟨its3, rv3, p3, _⟩ := I.tuple hqz
    obtain ⟨u3, hu3, ru3⟩ := rv3.get hzq
    have hzl : z < s.heap.objs.size := Heap.lt_size hz
    have hh : X.A.in1.handled = none := I.ok.hd hc
    have hi2 : i < its2.toArray.size := by
      have := (List.getElem?_eq_some_iff.mp hu2).1
      simpa using this
    have hi3 : i < its3.toArray.size := by
      have := (List.getElem?_eq_some_iff.mp hu3).1
      simpa using this
    refine wpAny_pyNext_zipD3_item S (Draws.text hh i1 x t) (Draws.tuple hh i2 b hb its2.toArray) (Draws.tuple hh i3 c hc3 its3.toArray) hz hTI hTO h1 ⟨h2, p2⟩ ⟨h3, p3⟩ hi hi2 hi3 fun x1 x2 x3 h' tk y1 y2 y3 z' TO' s1' s2' s3' hT hsz hk => ?_
    obtain ⟨n, u, hcx, rfl⟩ := y1
    have ex2 : x2 = u2 := by
      have : its2.toArray[i]? = some u2 := by simpa using hu2
      rw [this] at y2
      exact (Option.some.inj y2).symm
    have ex3 : x3 = u3 := by
      have : its3.toArray[i]? = some u3 := by simpa using hu3
      rw [this] at y3
      exact (Option.some.inj y3).symm
    subst ex2 ex3
    refine ⟨_, rfl, wpAny_letOwnedTupleGo_zip (s := { s with heap := h', toks := tk }) z' fun h'' z'' sb => ?_⟩
    have hT2 : h''.get? s.heap.objs.size = some { cls := .type "tuple", data := .seq #[.str ⟨#[n]⟩ u, x2, x3] } := (sb.2 _ (Nat.ne_of_gt hzl)).trans hT
    have new : ObjOk X.prog X.w (upd H s.heap.objs.size (.tup [.str ⟨#[n]⟩, y, q])) h'' s.heap.objs.size (.tup [.str ⟨#[n]⟩, y, q]) :=
      ⟨by show 3 ≤ sizeLine; decide, [.str ⟨#[n]⟩ u, x2, x3], .cons ⟨u, rfl⟩ (.cons ru2 (.cons ru3 .nil)), ⟨_, hT2, rfl, _, rfl⟩⟩
    have I1 : Inv X pins σ (upd H s.heap.objs.size (.tup [.str ⟨#[n]⟩, y, q])) { s with heap := h'', toks := tk } :=
      I.turnedNew (t' := tk) (ch := [z, TI, TO, i1, i2, i3]) (fun c o hb q => (sb.2 c (fun q' => hb (by simp [q']))).trans (hk c o (fun q' => hb (by simp [q'])) (fun q' => hb (by simp [q'])) (fun q' => hb (by simp [q'])) (fun q' => hb (by simp [q'])) (fun q' => hb (by simp [q'])) q)) hf (Nat.le_refl _) new
    refine ⟨.ref s.heap.objs.size, _, I1, rfl, ⟨_, n, y, q, rfl, I.hok.fresh (Nat.le_refl _), rfl, hcx, fun l hl => by rw [I.tuple_inj hl hqy]; exact hy, fun l hl => by rw [I.tuple_inj hl hqz]; exact hzq⟩, ⟨z'', ?_, ⟨.str ⟨#[n]⟩ u, x2, x3, ?_⟩, ?_, ?_, ?_⟩, fun c hcm => ?_⟩
    · exact (sb.2 _ S.TIz).trans (hk _ _ S.TIz S.TITO S.TIi1 S.TIi2 S.TIi3 hTI)
    · exact (sb.2 _ S.TOz).trans TO'
    · obtain ⟨o1, e1, r1⟩ := s1'
      exact ⟨o1, (sb.2 _ S.zi1.symm).trans e1, r1⟩
    · exact s2'.1.at fun o q => (sb.2 _ S.zi2.symm).trans q
    · exact s3'.1.at fun o q => (sb.2 _ S.zi3.symm).trans q
    · have older : c < s.heap.objs.size := by
        simp only [List.mem_cons, List.not_mem_nil, or_false] at hcm
        obtain rfl | rfl | rfl | rfl | rfl | rfl := hcm
        · exact hzl
        · exact Heap.lt_size hTI
        · exact Heap.lt_size hTO
        · exact Heap.lt_size h1.choose_spec.1
        · exact Heap.lt_size h2.choose_spec.1
        · exact Heap.lt_size h3.choose_spec.1
      rw [upd_ne (Nat.ne_of_lt older)]
      exact (hf c hcm).1
  done := by
    intro X hP hw hK hc i pins s σ H E I hf st hg
    subst hP hw hK
    obtain ⟨hz, hTI, ⟨x0, y0, u0, hTO⟩, h1, h2, h3⟩ := st
    obtain ⟨ys, zs, hqy, hqz, l1, l2, l3, hend⟩ := hg
    obtain ⟨its2, rv2, p2, _⟩ := I.tuple hqy
    obtain ⟨its3, rv3, p3, _⟩ := I.tuple hqz
    have hsz : its2.toArray.size = ys.length := by simp [rv2.length]
    have hsz3 : its3.toArray.size = zs.length := by simp [rv3.length]
    have hh : X.A.in1.handled = none := I.ok.hd hc
    refine wpAny_pyNext_zipD3_end S (Draws.text hh i1 x t) (Draws.tuple hh i2 b hb its2.toArray) (Draws.tuple hh i3 c hc3 its3.toArray) hz hTI hTO h1 ⟨h2, p2⟩ ⟨h3, p3⟩ l1 (by rw [hsz]; exact l2) (by rw [hsz3]; exact l3) (by rw [hsz, hsz3]; omega) fun h' tk hk => ⟨rfl, I.turnedL (t' := tk) (ch := [z, TI, TO, i1, i2, i3]) (fun c o hb q =>
      hk c o (fun q' => hb (by simp [q'])) (fun q' => hb (by simp [q'])) (fun q' => hb (by simp [q'])) (fun q' => hb (by simp [q'])) (fun q' => hb (by simp [q'])) q) hf⟩
  self := fun A i s Q E st h => wpAny_pyIter_zip st.1 h
def YTri (f g h : Nat → Option V) (i : Nat) (H : Hp) (v : V) (H' : Hp) : Prop := ∃ T x y z, v = V.ref T ∧ H T = none ∧ H' = upd H T (.tup [x, y, z]) ∧ f i = some x ∧ g i = some y ∧ h i = some z
theorem walk_zip3 {K : PySem.W.Frag} {x : Str} {b c : Addr} {ys zs : List V} {n : Nat} (hn : n = min x.cps.size (min ys.length zs.length)) : Walk (Itz3 K x b c) n (fun H => SqT K H b ys ∧ SqT K H c zs) (YTri (fun i => (x.cps[i]?).map fun c => .str ⟨#[c]⟩) (fun i => ys[i]?) (fun i => zs[i]?)) := by
  subst hn
  refine ⟨fun i _ hi q => ?_, fun _ q => ⟨ys, zs, q.1, q.2, by omega, by omega, by omega, by omega⟩, fun i H v H' _ q y => ?_⟩
  · have h2 : i < ys.length := by omega
    have h3 : i < zs.length := by omega
    exact ⟨ys, zs, ys[i], zs[i], q.1, q.2, by omega, by simp [h2], by simp [h3]⟩
  · obtain ⟨T, m, y, z, h1, h2, h3, h4, h5, h6⟩ := y
    exact ⟨T, .str ⟨#[m]⟩, y, z, h1, h2, h3, by simp [h4], h5 ys q.1, h6 zs q.2⟩
def iZip3 (K : PySem.W.Frag) (ta : TA) : TI := fun σ H R => ta σ H fun vs H1 => ∃ x b c ys zs, vs = [.str x, .ref b, .ref c] ∧ SqT K H1 b ys ∧ SqT K H1 c zs ∧ R (Itz3 K x b c) H1
theorem pi_zip3 {X : Cx} {e e2 e3 : Expr} {ta : TA} {p pos tpos : Pos} {elts : List Expr} {kk : Nat} (hg : Gl X "zip") (hm : X.mg "zip" = none) (ha : PA X [e, e2, e3] ta)
    (hs : starEach [e, e2, e3] X.env = (false, eval e X.env) :: starEach [e2, e3] X.env := by rfl) (hpl : (backTo pos (starEach [e2, e3] X.env)).any (·.1) = false := by rfl) :
    PI X (.Tuple elts kk tpos) (.Call (.Name "zip" p) [e, e2, e3] [] pos) (iZip3 X.K ta) := by
  refine ⟨fun pins s σ H R I h => ?_⟩
  refine Call_ (ld_blt I hg hm PyProof.Rows.boot_zip (PyProof.Rows.callWith_type1 (thn (ha.run pos pins s σ H _ I h) fun us s1 ⟨vs, H1, I1, r1, q1⟩ => ?_) hs hpl))
  obtain ⟨x, b, c, ys, zs, ex, hqy, hqz, q⟩ := q1
  subst ex
  cases r1 with
  | cons r rr =>
    cases rr with
    | cons r' rr =>
      cases rr with
      | cons r'' rr =>
        cases rr
        obtain ⟨t, rfl⟩ := r
        cases r'
        cases r''
        have young : ∀ d ∈ [s1.heap.objs.size + 5, s1.heap.objs.size + 3, s1.heap.objs.size + 4, s1.heap.objs.size, s1.heap.objs.size + 1, s1.heap.objs.size + 2], FpOk X pins H1 d := fun d hd => by
          have at_least : s1.heap.objs.size ≤ d := by
            simp only [List.mem_cons, List.not_mem_nil, or_false] at hd
            omega
          exact I1.fpOk at_least (I1.hok.fresh at_least)
        obtain ⟨its2, rv2, p2, _⟩ := I1.tuple hqy
        obtain ⟨its3, rv3, p3, _⟩ := I1.tuple hqz
        obtain ⟨o2, ho2, _⟩ := id p2
        obtain ⟨o3, ho3, _⟩ := id p3
        have hbl : b < s1.heap.objs.size := Heap.lt_size ho2
        have hcl : c < s1.heap.objs.size := Heap.lt_size ho3
        refine zip_begins3 (begins_text x t) (begins_tuple b its2.toArray) (begins_tuple c its3.toArray) trivial p2 p3 fun h' hz hTI hTO g1 g2 g3 hsz hk => wpAny_pyIter_zip hz ?_
        have I2 : Inv X pins σ H1 { s1 with heap := h' } := I1.kept (t' := s1.toks) hk
        have sep : ZipSep3 (s1.heap.objs.size + 5) (s1.heap.objs.size + 3) (s1.heap.objs.size + 4) s1.heap.objs.size (s1.heap.objs.size + 1) (s1.heap.objs.size + 2) [s1.heap.objs.size] [s1.heap.objs.size + 1, b] [s1.heap.objs.size + 2, c] :=
          zip_sep3 (N := s1.heap.objs.size) (fp1 := []) (fp2 := [b]) (fp3 := [c]) (fun _ h => nomatch h) (fun c h => by rw [List.mem_singleton.mp h]; exact hbl) (fun c h => by rw [List.mem_singleton.mp h]; exact hcl)
        exact ⟨s1.heap.objs.size + 5, [s1.heap.objs.size + 5, s1.heap.objs.size + 3, s1.heap.objs.size + 4, s1.heap.objs.size, s1.heap.objs.size + 1, s1.heap.objs.size + 2], _, _, H1, rfl, I2, turn_zip3 (x := x) (t := t) sep (Nat.ne_of_lt (Nat.lt_succ_of_lt hbl)) (Nat.ne_of_lt (Nat.lt_succ_of_lt (Nat.lt_succ_of_lt hcl))), ⟨hz, hTI, ⟨_, _, _, hTO⟩, ⟨_, g1, rfl, rfl⟩, ⟨_, g2, rfl, rfl⟩, ⟨_, g3, rfl, rfl⟩⟩, young, q⟩
def zip3D : List D → List D → List D → List D
  | a :: as, b :: bs, c :: cs => .tuple [a, b, c] :: zip3D as bs cs
  | _, _, _ => []
theorem zip3D_len : ∀ (a b c : List D), (zip3D a b c).length = min a.length (min b.length c.length)
  | [], _, _ => by simp [zip3D]
  | _ :: _, [], _ => by simp [zip3D]
  | _ :: _, _ :: _, [] => by simp [zip3D]
  | a :: as, b :: bs, c :: cs => by
    simp only [zip3D, List.length_cons, zip3D_len as bs cs]
    omega
theorem zip3D_get : ∀ {a b c : List D} {i : Nat} {d : D}, (zip3D a b c)[i]? = some d → ∃ x y z, a[i]? = some x ∧ b[i]? = some y ∧ c[i]? = some z ∧ d = .tuple [x, y, z]
  | [], _, _, i, d, h => by simp [zip3D] at h
  | _ :: _, [], _, i, d, h => by simp [zip3D] at h
  | _ :: _, _ :: _, [], i, d, h => by simp [zip3D] at h
  | a :: as, b :: bs, c :: cs, 0, d, h => by
    simp [zip3D] at h
    exact ⟨a, b, c, rfl, rfl, rfl, h.symm⟩
  | a :: as, b :: bs, c :: cs, i + 1, d, h => by
    simp [zip3D] at h
    simpa using zip3D_get h
def pZip3 : List D → Option (List D)
  | [.str x, .tuple b, .tuple c] => some (zip3D (signsD x) b c)
  | _ => none
section
variable {S : Type} {X : Cx} {G : Kx} {Z : Zk S} {W : List Nat} {fa : Ea S} {e e2 e3 : Expr} {p pos : Pos}
theorem tri_rep {B2 : Bar} {H2 : Hp} {T : Addr} {u v y : V} {dx dy dz : D} (dm : ∀ a, B2 a → H2 a ≠ none) (hT : H2 T = none) (r1 : Rep G B2 H2 dx u) (r2 : Rep G B2 H2 dy v) (r3 : Rep G B2 H2 dz y) : Rep G B2 (L2.upd H2 T (.tup [u, v, y])) (.tuple [dx, dy, dz]) (.ref T) := by
  have st : ∀ a o, H2 a = some o → ¬ B2 a → L2.upd H2 T (.tup [u, v, y]) a = some o ∧ ¬ B2 a := fun a o e n => ⟨by rw [upd_ne (ne_of_none e hT)]; exact e, n⟩
  simp only [Rep]
  exact ⟨T, [u, v, y], rfl, .inl ⟨upd_same, fun z => dm T z hT⟩, Reps.cons (r1.mv st) (Reps.cons (r2.mv st) (Reps.cons (r3.mv st) Reps.nil))⟩
theorem ei_zip3 {elts : List Expr} {kk : Nat} {tpos : Pos} (h : PI X (.Tuple elts kk tpos) (.Call (.Name "zip" p) [e, e2, e3] [] pos) (iZip3 X.K (tEa G Z W fa))) (hK : X.K = G.K := by rfl) : PI X (.Tuple elts kk tpos) (.Call (.Name "zip" p) [e, e2, e3] [] pos) (tIt G Z W (iOfA pZip3 fa)) :=
  imp_pi h fun σ H Q ⟨B, O, ρ, s, d, s', eo, hR, hf, q⟩ => by
    unfold iOfA at hf
    obtain ⟨y, s1, h1, hf⟩ := bnd_some hf
    obtain ⟨h3, rfl⟩ := put_some hf
    refine ⟨B, O, ρ, s, y, _, eo, hR, h1, fun v H1 f1 r1 R1 => ?_⟩
    unfold pZip3 at h3
    split at h3
    · cases h3
      simp only [Reps] at r1
      obtain ⟨v1, r, rfl, h4, v2, r', rfl, h5, v3, r'', rfl, h6, rfl⟩ := r1
      simp only [Rep] at h4 h5 h6
      subst h4
      obtain ⟨b, us, rfl, k1, k3⟩ := h5
      obtain ⟨c, ws, rfl, l1, l3⟩ := h6
      have sq : ∀ {H : Hp} {c : Addr} {ws : List V}, ((H c = some (.tup ws)) ∨ KT G.K c ws) → SqT G.K H c ws := fun z => z.elim (fun z => .inl (.inl z)) .inr
      rw [hK]
      refine ⟨_, b, c, us, ws, rfl, sq (k1.imp (·.1) id), sq (l1.imp (·.1) id), q _ H1 f1 ?_ R1⟩
      refine ⟨_, _, walk_zip3 (ys := us) (zs := ws) (by rw [zip3D_len, k3.len, l3.len]; simp [signsD]), fun B2 H2 st dm => ⟨⟨sq (k1.imp (fun z => (st b _ z.1 z.2).1) id), sq (l1.imp (fun z => (st c _ z.1 z.2).1) id)⟩, fun i d x H3 hd y => ?_⟩⟩
      obtain ⟨T, u, v, y, rfl, hT, rfl, hu, hv, hy⟩ := y
      obtain ⟨dx, dy, dz, g1, g2, g3, rfl⟩ := zip3D_get hd
      obtain ⟨n, hn, rfl⟩ := signs_get g1
      obtain ⟨v', e2, q2⟩ := (k3.mv (B' := B2) (H' := H2) st).get g2
      obtain ⟨y', e3, q3⟩ := (l3.mv (B' := B2) (H' := H2) st).get g3
      have hv : us[i]? = some v := hv
      have hy : ws[i]? = some y := hy
      rw [hv] at e2
      rw [hy] at e3
      cases e2
      cases e3
      simp only [hn, Option.map_some, Option.some.injEq] at hu
      subst hu
      exact ⟨Lc.same_new hT, tri_rep dm hT (by simp only [Rep]) q2 q3⟩
    · cases h3
end
end Dl
set_option Elab.async false
set_option linter.all false
set_option maxRecDepth 100000
set_option maxHeartbeats 4000000
/-! x = {k: [..], k: [..], k: [..]}; return x[e]: a dict of three texts with lists of numbers, made and asked once -/
namespace Dl
open PySem PySem.Spec PyProof.Rows L2
theorem Eo.hide {S : Type} {G : Kx} {Z : Zk S} {W : List Nat} {B O : Bar} {H : Hp} {σ : L2.St} {ρ : Rho} (e : Eo G Z W B O H σ ρ) {i : Nat} {v : V} (hi : ρ[i]? = some none) (hw : i ∉ W) : Eo G Z W B O H (σ.set i (some v)) ρ := by
  obtain ⟨⟨len, pl, om, o1, o2⟩, bd, ol, mb, ob⟩ := e
  refine ⟨⟨by simp [len], fun j d hj hd => ?_, om, o1, fun j d hj hd => ?_⟩, bd, ol, mb, ob⟩
  · have hij : i ≠ j := fun z => by rw [z, hd] at hi; cases hi
    obtain ⟨v', e1, e2⟩ := pl j d hj hd
    exact ⟨v', by rw [List.getElem?_set_ne hij]; exact e1, e2⟩
  · have hij : i ≠ j := fun z => hw (z ▸ hj)
    obtain ⟨ds, vs, e1, e2, e3⟩ := o2 j d hj hd
    exact ⟨ds, vs, e1, by rw [List.getElem?_set_ne hij]; exact e2, e3⟩
/-- a new list of numbers -/
def tNum (L : List Int) : TE := fun σ H Q => ∀ p, H p = none → Q (.ref p) (upd H p (.lst (L.map V.int)))
section
variable {X : Cx}
theorem pe_num1 {a : Int} {j pos : Pos} {k} : PE X (.List [.Constant (.int a) k j] pos) (tNum [a]) :=
  imp_pe (pe_lst (pa_cons pe_int pa_nil)) fun σ H Q h => ⟨by show 1 ≤ sizeLine; decide, h⟩
theorem pe_num2 {a b : Int} {j j2 pos : Pos} {k k2} : PE X (.List [.Constant (.int a) k j, .Constant (.int b) k2 j2] pos) (tNum [a, b]) :=
  imp_pe (pe_lst (pa_cons pe_int (pa_cons pe_int pa_nil))) fun σ H Q h => ⟨by show 2 ≤ sizeLine; decide, h⟩
end
def tab3 (t : List (Str × List Int)) (k : Str) : Option (List Int) := (t.find? fun p => decide (p.1 = k)).map (·.2)
/-- x = {..}; return x[e] -/
def sTab {S : Type} (i : Nat) (t : List (Str × List Int)) (f : Ev S) : Sv S := fun ρ s => match ρ[i]? with
  | some none => bnd (f ρ s) fun d s => match d with
    | .str k => match tab3 t k with
      | some L => some (.rt (.list (L.map .int)), s)
      | none => none
    | _ => none
  | _ => none
section
variable {S : Type} {X : Cx} {G : Kx} {Z : Zk S} {W : List Nat} {f : Ev S} {e E1 E2 E3 : Expr} {x k1 k2 k3 : Str} {L1 L2 L3 : List Int}
theorem es_tab {i : Nat} {py p0 j1 j2 j3 pd ps pr pn : Pos} {c1 c2 c3} (hN : X.N.Nodup) (hi : X.N[i]? = some x) (hx : Loc X.env.scope x) (hu : X.A.units + 1 < cLine)
    (h1 : PE X E1 (tNum L1)) (h2 : PE X E2 (tNum L2)) (h3 : PE X E3 (tNum L3)) (he : PE X e (tEx G Z W f)) (hsl : NoSl e) (hw : W.contains i = false := by rfl)
    (ne : k1 ≠ k2 ∧ k1 ≠ k3 ∧ k2 ≠ k3 := by decide +kernel)
    (pvi : PE X (.Name x pn) (tVar i) := by exact pv _)
    (hs : swapsWith (.Dict [some (.Constant (.str k1) c1 j1), some (.Constant (.str k2) c2 j2), some (.Constant (.str k3) c3 j3)] [E1, E2, E3] pd) (some (.Name x py)) p0.line X.env = pure false := by rfl)
    (hf : X.fn x = true ∨ X.env.scope.names.lookup x = some .local := by first | exact .inl rfl | exact .inr rfl | assumption) :
    PSs X [.Assign [.Name x py] (.Dict [some (.Constant (.str k1) c1 j1), some (.Constant (.str k2) c2 j2), some (.Constant (.str k3) c3 j3)] [E1, E2, E3] pd) p0, .Return (some (.Subscript (.Name x pn) e ps)) pr] (tSt G Z W (sTab i [(k1, L1), (k2, L2), (k3, L3)] f)) :=
  imp_pss (pss_cons (ps_set hN hi hx (pe_disp (pps_cons pe_str h1 (pps_cons pe_str h2 (pps_cons pe_str h3 pps_nil))) rfl rfl (by simp) (by show 3 ≤ 15; decide)) hs hf) (pss_one (ps_ret (pe_dget hu pvi he hsl)))) fun E σ H ⟨B, H0, O, ρ, s, r, s', sr, hf, q⟩ => by
    unfold sTab at hf
    split at hf
    · rename_i hρ
      obtain ⟨d, s1, g1, hf⟩ := bnd_some hf
      split at hf
      · rename_i k
        split at hf
        · rename_i L hL
          cases hf
          intro p hp
          show ∀ q1, upd H p (.dK []) q1 = none → ∀ q2, _ → ∀ q3, _ → _
          intro q1 n1 q2 n2 q3 n3
          have hi2 : i < σ.length := by
            rw [sr.eo.er.len]
            exact (List.getElem?_eq_some_iff.mp hρ).1
          -- the dict and the lists are new
          have d1 : p ≠ q1 := fun z => by rw [z, upd_same] at n1; cases n1
          have n2p := n2
          have d2 : q1 ≠ q2 := fun z => by rw [z, upd_same] at n2; cases n2
          have d2' : p ≠ q2 := fun z => by rw [← z, upd_ne d1, upd_same] at n2; cases n2
          have d3 : q2 ≠ q3 := fun z => by rw [z, upd_same] at n3; cases n3
          have d3' : q1 ≠ q3 := fun z => by rw [← z, upd_ne d2, upd_same] at n3; cases n3
          have d3'' : p ≠ q3 := fun z => by rw [← z, upd_ne d2', upd_ne d1, upd_same] at n3; cases n3
          refine ⟨?_, [(.inr k1, .ref q1), (.inr k2, .ref q2), (.inr k3, .ref q3)], rfl, by show 3 ≤ 15; decide, ?_⟩
          · rw [upd_ne d3'', upd_ne d2', upd_ne d1, upd_same]
          have hm : mergeK ([] : List (Key × V)) [(.inr k1, .ref q1), (.inr k2, .ref q2), (.inr k3, .ref q3)] = [(.inr k1, .ref q1), (.inr k2, .ref q2), (.inr k3, .ref q3)] := by
            have a1 : ¬ (Sum.inr k1 : Key) = .inr k2 := fun z => ne.1 (Sum.inr.inj z)
            have a2 : ¬ (Sum.inr k1 : Key) = .inr k3 := fun z => ne.2.1 (Sum.inr.inj z)
            have a3 : ¬ (Sum.inr k2 : Key) = .inr k3 := fun z => ne.2.2 (Sum.inr.inj z)
            simp [mergeK, putK, a1, a2, a3]
          rw [hm]
          have f1 : Lc.Fr Z.M H (upd H p (.dK [])) := Lc.Fr.new hp
          have f2 := f1.trans (Lc.Fr.new (o := .lst (L1.map V.int)) n1)
          have f3 := f2.trans (Lc.Fr.new (o := .lst (L2.map V.int)) n2)
          have f4 := f3.trans (Lc.Fr.new (o := .lst (L3.map V.int)) n3)
          have f5 : Lc.Fr Z.M H (upd (upd (upd (upd (upd H p (.dK [])) q1 (.lst (L1.map V.int))) q2 (.lst (L2.map V.int))) q3 (.lst (L3.map V.int))) p (.dK [(.inr k1, .ref q1), (.inr k2, .ref q2), (.inr k3, .ref q3)])) := Lc.Fr.own f4 hp
          have e1 : (upd (upd (upd (upd (upd H p (.dK [])) q1 (.lst (L1.map V.int))) q2 (.lst (L2.map V.int))) q3 (.lst (L3.map V.int))) p (.dK [(.inr k1, .ref q1), (.inr k2, .ref q2), (.inr k3, .ref q3)])) q1 = some (.lst (L1.map V.int)) := by
            rw [upd_ne (Ne.symm d1), upd_ne d3', upd_ne d2, upd_same]
          have e2 : (upd (upd (upd (upd (upd H p (.dK [])) q1 (.lst (L1.map V.int))) q2 (.lst (L2.map V.int))) q3 (.lst (L3.map V.int))) p (.dK [(.inr k1, .ref q1), (.inr k2, .ref q2), (.inr k3, .ref q3)])) q2 = some (.lst (L2.map V.int)) := by
            rw [upd_ne (Ne.symm d2'), upd_ne d3, upd_same]
          have e3 : (upd (upd (upd (upd (upd H p (.dK [])) q1 (.lst (L1.map V.int))) q2 (.lst (L2.map V.int))) q3 (.lst (L3.map V.int))) p (.dK [(.inr k1, .ref q1), (.inr k2, .ref q2), (.inr k3, .ref q3)])) q3 = some (.lst (L3.map V.int)) := by
            rw [upd_ne (Ne.symm d3''), upd_same]
          have e0 : (upd (upd (upd (upd (upd H p (.dK [])) q1 (.lst (L1.map V.int))) q2 (.lst (L2.map V.int))) q3 (.lst (L3.map V.int))) p (.dK [(.inr k1, .ref q1), (.inr k2, .ref q2), (.inr k3, .ref q3)])) p = some (.dK [(.inr k1, .ref q1), (.inr k2, .ref q2), (.inr k3, .ref q3)]) := upd_same
          have nq1 : H q1 = none := f1.free n1
          have nq2 : H q2 = none := f2.free n2
          have nq3 : H q3 = none := f3.free n3
          have sm : Same H (upd (upd (upd (upd (upd H p (.dK [])) q1 (.lst (L1.map V.int))) q2 (.lst (L2.map V.int))) q3 (.lst (L3.map V.int))) p (.dK [(.inr k1, .ref q1), (.inr k2, .ref q2), (.inr k3, .ref q3)])) := fun a o h => by
            rw [upd_ne (ne_of_none h hp), upd_ne (ne_of_none h nq3), upd_ne (ne_of_none h nq2), upd_ne (ne_of_none h nq1), upd_ne (ne_of_none h hp)]
            exact h
          generalize (upd (upd (upd (upd (upd H p (.dK [])) q1 (.lst (L1.map V.int))) q2 (.lst (L2.map V.int))) q3 (.lst (L3.map V.int))) p (.dK [(.inr k1, .ref q1), (.inr k2, .ref q2), (.inr k3, .ref q3)])) = H5 at f5 sm e0 e1 e2 e3 ⊢
          have R5 : Z.R H5 s := Z.same sr.r sm
          show ∃ v, (σ.set i (some (.ref p)))[i]? = some (some v) ∧ _
          refine ⟨.ref p, by simp [hi2], ?_⟩
          refine ⟨B, O, ρ, s, _, _, (sr.eo.fr f5).hide hρ (by simpa using hw), R5, g1, fun v H6 f6 r6 R6 => ?_⟩
          simp only [Rep] at r6
          subst r6
          have np : ¬ Z.M p := fun z => Z.dom H s p sr.r z hp
          have m1 : ¬ Z.M q1 := fun z => Z.dom H s q1 sr.r z nq1
          have m2 : ¬ Z.M q2 := fun z => Z.dom H s q2 sr.r z nq2
          have m3 : ¬ Z.M q3 := fun z => Z.dom H s q3 sr.r z nq3
          have g0 := f6.at e0 np
          have fin : ∀ (b : Addr) (L' : List Int), H b = none → ¬ Z.M b → H5 b = some (.lst (L'.map V.int)) → valV [((.inr k1 : Key), V.ref q1), (.inr k2, .ref q2), (.inr k3, .ref q3)] (.inr k) = some (.ref b) → tab3 [(k1, L1), (k2, L2), (k3, L3)] k = some L' → ∃ a v, V.ref p = .ref a ∧ DGet H6 a (.str k) (some v) ∧ E.rt v H6 := fun b L' nb mb hb hd hL2 => by
            rw [hL] at hL2
            cases hL2
            refine ⟨p, .ref b, rfl, .inl ⟨_, .inr k, .inl g0, rfl, hd.symm⟩, ?_⟩
            refine q (.ref b) H6 (sr.fr.trans (f5.trans f6)) ?_ R6
            simp only [Rep]
            exact ⟨b, _, rfl, f6.at hb mb, fun z => sr.eo.bd b z nb, reps_ints⟩
          by_cases c1 : k1 = k
          · subst c1
            exact fin q1 L1 nq1 m1 e1 (by simp [valV]) (by simp [tab3])
          by_cases c2 : k2 = k
          · subst c2
            exact fin q2 L2 nq2 m2 e2 (by simp [valV, c1]) (by simp [tab3, c1])
          by_cases c3 : k3 = k
          · subst c3
            exact fin q3 L3 nq3 m3 e3 (by simp [valV, c1, c2]) (by simp [tab3, c1, c2])
          · simp [tab3, c1, c2, c3] at hL
        · cases hf
      · cases hf
    · cases hf
end
end Dl
set_option Elab.async false
set_option linter.all false
set_option maxRecDepth 100000
set_option maxHeartbeats 4000000
namespace Lw32
open PySem PySem.Spec PyProof.Rows L2 Dl
open Lw30 (t_SHAPES)
-- puts: slots t 0, u 1, old 2, new 3, bound 4, place 5, one 6, other 7; cells t, u
def B_puts {S : Type} (F_pieces : Fn S) (F_puts_at : Fn S) : Sv S :=
    (sSeq (sIf (qT (cB pNe (cB pIx (cVar 2) (cK (.int 0))) (cB pIx (cVar 3) (cK (.int 0)))))
    (sRet (cK (.bool false)))
    sNx)
    (sSeq (sSet 4 (cCall 2 F_pieces (aCons (cVar 2) (aCons (cK (.str "x")) aNil))))
    (sSeq (sIf (qOr (qT (cB pIn (cVar 0) (cVar 4))) (qT (cB pIn (cVar 1) (cVar 4))))
    (sRet (cB pEq (cVar 2) (cVar 3)))
    sNx)
    (sRet (cQu false (iOfA pZip3 (aCons (cU (pDt t_SHAPES) (cB pIx (cVar 2) (cK (.int 0)))) (aCons (cSl pSl (cVar 2) (oOf (cK (.int 1))) oNo) (aCons (cSl pSl (cVar 3) (oOf (cK (.int 1))) oNo) aNil)))) (gTp (gC (gNm 5) (gC (gNm 6) (gC (gNm 7) gN0)))) qYes (cCall 5 F_puts_at (aCons (cVar 5) (aCons (cVar 0) (aCons (cVar 1) (aCons (cVar 6) (aCons (cVar 7) aNil)))))) [5, 6, 7])))))
def K_puts {S : Type} (F_pieces : Fn S) (F_puts_at : Fn S) : Fn S := fnD 8 (B_puts F_pieces F_puts_at)

-- puts_at: slots place 0, t 1, u 2, old 3, new 4
def B_puts_at {S : Type} (F_puts : Fn S) : Sv S :=
    (sSeq (sIf (qT (cB pEq (cVar 0) (cK (.str "F"))))
    (sRet (cCall 4 F_puts (aCons (cVar 1) (aCons (cVar 2) (aCons (cVar 3) (aCons (cVar 4) aNil))))))
    sNx)
    (sRet (cOr (cB pEq (cVar 3) (cVar 4)) (cAnd (cB pEq (cVar 0) (cK (.str "t"))) (cAnd (cB pEq (cVar 3) (cVar 1)) (cB pEq (cVar 4) (cVar 2)))))))
def K_puts_at {S : Type} (F_puts : Fn S) : Fn S := fnD 5 (B_puts_at F_puts)

-- is_put: slots form 0, forms 1, name 2
def B_is_put {S : Type} (F_puts : Fn S) : Sv S :=
    (sRet (cAnd (cB pEq (cB pIx (cB pIx (cVar 1) (cK (.int 0))) (cK (.int 0))) (cK (.str "same"))) (cCall 4 F_puts (aCons (cB pIx (cB pIx (cVar 1) (cK (.int 0))) (cK (.int 1))) (aCons (cB pIx (cB pIx (cVar 1) (cK (.int 0))) (cK (.int 2))) (aCons (cB pIx (cVar 1) (cK (.int 1))) (aCons (cVar 0) aNil)))))))
def K_is_put {S : Type} (F_puts : Fn S) : Fn S := fnD 3 (B_is_put F_puts)

-- _law_terms: slots _law_form_here 0, _law_places 1
def B_w_terms {S : Type}  : Sv S :=
    (sTab 1 [(("is" : Str), [1]), (("does" : Str), [2, 3]), (("same" : Str), [1, 2])] (cB pIx (cVar 0) (cK (.int 0))))
def K_w_terms {S : Type}  : Fn S := fnD 2 (B_w_terms )

-- _law_variants: slots _law_form_here 0, _law_one 1, _law_other 2, _law_found 3, _law_k 4, _law_part 5, _law_more 6, _law_row 7, _law_ahead 8; cells _law_form_here, _law_k, _law_other, _law_row
def B_w_variants {S : Type} (F_w_terms : Fn S) (F_w_variants : Fn S) : Sv S :=
    (sSeq (sIf (qT (cB pIn (cB pIx (cVar 0) (cK (.int 0))) (cN pTup (aCons (cK (.str "is")) (aCons (cK (.str "does")) (aCons (cK (.str "same")) aNil))))))
    (sSeq (sSet 3 (cN pLst (aCons (cVar 0) aNil)))
      (sSeq (sFor (iOf asL (cCall 1 F_w_terms (aCons (cVar 0) aNil))) (gNm 4)
      (sIf (qT (cB pEq (cB pIx (cVar 0) (cVar 4)) (cVar 1)))
        (sSet 3 (cB pAdd (cVar 3) (cNl (lcF (iOf asL (cVar 3)) (gNm 7) qYes (cB pAdd (cB pAdd (cSl pSl (cVar 7) oNo (oOf (cVar 4))) (cN pTup (aCons (cVar 2) aNil))) (cSl pSl (cVar 7) (oOf (cB pAdd (cVar 4) (cK (.int 1)))) oNo)) [7]))))
        sNx))
      (sRet (cVar 3))))
    sNx)
    (sSeq (sIf (qT (cB pIn (cB pIx (cVar 0) (cK (.int 0))) (cN pTup (aCons (cK (.str "false")) (aCons (cK (.str "least")) aNil)))))
    (sRet (cN pLst (aCons (cVar 0) aNil)))
    sNx)
    (sSeq (sIf (qT (cB pIn (cB pIx (cVar 0) (cK (.int 0))) (cN pTup (aCons (cK (.str "every")) (aCons (cK (.str "some")) aNil)))))
    (sRet (cNl (lcF (iOf asL (cCall 3 F_w_variants (aCons (cB pIx (cVar 0) (cK (.int 2))) (aCons (cVar 1) (aCons (cVar 2) aNil))))) (gNm 7) qYes (cN pTup (aCons (cB pIx (cVar 0) (cK (.int 0))) (aCons (cB pIx (cVar 0) (cK (.int 1))) (aCons (cVar 7) aNil)))) [7])))
    sNx)
    (sSeq (sSet 3 (cN pLst (aCons (cN pTup (aCons (cB pIx (cVar 0) (cK (.int 0))) aNil)) aNil)))
    (sSeq (sFor (iOf asT (cSl pSl (cVar 0) (oOf (cK (.int 1))) oNo)) (gNm 5)
    (sSeq (sSet 6 (cN pLst aNil))
      (sSeq (sFor (iOf asL (cCall 3 F_w_variants (aCons (cVar 5) (aCons (cVar 1) (aCons (cVar 2) aNil))))) (gNm 7)
      (sSet 6 (cB pAdd (cVar 6) (cNl (lcF (iOf asL (cVar 3)) (gNm 8) qYes (cB pAdd (cVar 8) (cN pTup (aCons (cVar 7) aNil))) [8])))))
      (sSet 3 (cVar 6)))))
    (sRet (cVar 3)))))))
def K_w_variants {S : Type} (F_w_terms : Fn S) (F_w_variants : Fn S) : Fn S := fnD 9 (B_w_variants F_w_terms F_w_variants)

end Lw32
set_option Elab.async false
set_option linter.all false
set_option maxRecDepth 100000
set_option maxHeartbeats 4000000
/-! the deck of the laws of rules: the cells, taken from the front, and the last number -/
namespace Dl
open PySem PySem.Spec PyProof.Rows L2 GxR
def Dk9 (d c : Addr) (H : Hp) (s : DS) : Prop := H d = some (.lst [.ref c, .int s.2.1]) ∧ H c = some (.lst (s.1.map V.int)) ∧ s.1.length ≤ 63 ∧ 0 ≤ s.2.1 ∧ s.2.1 < 4294967296
def Zd9 (d c : Addr) : Zk DS where
  M := MD d c
  R := Dk9 d c
  dom := fun H s a h m => by
    rcases m with rfl | rfl
    · rw [h.1]; simp
    · rw [h.2.1]; simp
  loc := fun H H' s h k => ⟨(k d (.inl rfl)).trans h.1, (k c (.inr rfl)).trans h.2.1, h.2.2⟩
def d9a (n : Int) : Int := (n * n + 48271 * n + 11) % 2147483647
def d9b (n : Int) : Int := (d9a n * d9a n + 69621 * d9a n + 7) % 2147483629
def d9c (n : Int) : Int := (n + 69621) % 2147483629
def d9n (x n : Int) : Int := (x % 2147483647 * 48271 + d9c n) % 2147483629
def drawK (s : DS) (m : Int) : Int × DS := match s with
  | ([], n, k) => (d9b n / 8 % m, ([], d9b n, k))
  | (x :: r, n, k) => if 10 ^ 18 ≤ x then (x % m, (x / m :: r, n, k)) else ((d9n x n * d9n x n + 16807 * d9n x n) % 2147483587 / 8 % m, (r, d9c n, k))
theorem drawK_range (s : DS) {m : Int} (hm : 0 < m) : 0 ≤ (drawK s m).1 ∧ (drawK s m).1 < m := by
  have fin : ∀ r : Int, 0 ≤ r % m ∧ r % m < m := fun r => ⟨Int.emod_nonneg _ (by omega), Int.emod_lt_of_pos _ hm⟩
  unfold drawK
  split
  · exact fin _
  · split
    · exact fin _
    · exact fin _
def Fdraw9 : Fn DS := fun ds s => match ds with
  | [.dict [(.int 0, .none)], .int m] => if 0 < m ∧ m < 1073741824 then some (.int (drawK s m).1, (drawK s m).2) else none
  | _ => none
theorem fdraw9 {s : DS} {m : Int} (h : 0 < m) (h2 : m < 1073741824) : Fdraw9 [hnd 0, .int m] s = some (.int (drawK s m).1, (drawK s m).2) := by
  show (if 0 < m ∧ m < 1073741824 then some (PyData.int (drawK s m).1, (drawK s m).2) else none) = _
  rw [if_pos ⟨h, h2⟩]
theorem k_draw9 {s : DS} {m : Int} {Q : D → DS → Prop} (h : 0 < m) (h2 : m < 1073741824) (q : ∀ (r : Int) s', 0 ≤ r → r < m → Q (.int r) s') : Ok (Fdraw9 [hnd 0, .int m] s) Q :=
  ⟨_, _, fdraw9 h h2, q _ _ (drawK_range s h).1 (drawK_range s h).2⟩
theorem zd9_ne {d c : Addr} (H : Hp) (s : DS) (a : Addr) (h : (Zd9 d c).R H s) (m : (Zd9 d c).M a) (ps : Array Value) : H a ≠ some (.tbl ps) := by
  obtain ⟨h1, h2, _⟩ := h
  rcases m with rfl | rfl
  · rw [h1]; intro z; cases z
  · rw [h2]; intro z; cases z
def Zt9 (d c : Addr) (Ts : List Addr) : Zk DS := (Zd9 d c).tb Ts zd9_ne
theorem ztab9 {d c T : Addr} {Ts : List Addr} (hT : T ∈ Ts) : ZTab (Zt9 d c Ts) T where
  m := .inr hT
  tab := fun H s h => h.2 T hT
  put := fun H H' s h t => by
    have ne : ∀ a, (Zd9 d c).M a → a ≠ T := fun a m z => by
      obtain ⟨ps, e, _⟩ := h.2 T hT
      exact zd9_ne H s a h.1 m ps (by rw [z]; exact e)
    refine ⟨(Zd9 d c).loc H H' s h.1 fun a m => t.2 a (ne a m), fun T' m => ?_⟩
    by_cases e : T' = T
    · rw [e]; exact t.1
    · obtain ⟨ps, e1, e2⟩ := h.2 T' m
      exact ⟨ps, (t.2 T' e).trans e1, e2⟩
section
variable {P : Program} {w : World} {K : PySem.W.Frag} {mg : Str → Option Value} {base : Heap} {f : Addr} {fd : FuncData}
theorem fn_zt9 {d c : Addr} {Ts : List Addr} {k n : Nat} {ps : List Str} {F : Fn DS} {hd : Nat → Addr → Prop} (h : FnOk P w K mg base CX0 k f fd ps (spD ⟨K, hd⟩ (Zd9 d c) n F)) : FnOk P w K mg base CX0 k f fd ps (spD ⟨K, hd⟩ (Zt9 d c Ts) n F) := by
  have key : ∀ vs H Q E, spD ⟨K, hd⟩ (Zt9 d c Ts) n F vs H Q E → spD ⟨K, hd⟩ (Zd9 d c) n F vs H Q E := fun vs H Q E ⟨B, ds, s, x, s', h1, bd, mb, h2, R, hF, q⟩ =>
    ⟨B, ds, s, x, s', h1, bd, fun a m => mb a (.inl m), h2, R.1, hF, fun v H' f1 r1 R1 => q v H' (fun b o e => by
      obtain ⟨o', e1, e2⟩ := f1 b o e
      exact ⟨o', e1, fun n9 => e2 fun m => n9 (.inl m)⟩) r1 ⟨R1, fun T m => by
        obtain ⟨ps, e, t⟩ := R.2 T m
        exact ⟨ps, f1.at e fun m2 => zd9_ne H s T R.1 m2 ps e, t⟩⟩⟩
  exact ⟨fun vs H Q E z => h.len vs H Q E (key _ _ _ _ z), fun A outer s H args us vs Q E hr he hb hv hsp => h.run A outer s H args us vs Q E hr he hb hv (key _ _ _ _ hsp)⟩
def tRest9 (K : PySem.W.Frag) (Ts : List Addr) (W : List Nat) (F : Sv DS) : TS := fun E σ H => ∃ d c, tSt ⟨K, hdD d⟩ (Zt9 d c Ts) W F E σ H
theorem pss_rest9 {X : Cx} {Ts : List Addr} {W : List Nat} {F : Sv DS} {st : List Stmt} (h : ∀ d c, PSs X st (tSt ⟨K, hdD d⟩ (Zt9 d c Ts) W F)) : PSs X st (tRest9 K Ts W F) := ⟨fun pins s σ H D I ⟨d, c, q⟩ => (h d c).run pins s σ H D I q⟩
theorem rest_at9 {Ts : List Addr} {W : List Nat} {F : Sv DS} {n : Nat} {d c a : Addr} {H : Hp} {s : DS} {Q : VK} {nx : L2.St → Hp → Prop} (k : Dk9 d c H s) (kt : ∀ T ∈ Ts, TabG H T) (hW : ∀ i ∈ W, 2 ≤ i) (ht : Ok (F (lawR n) s) fun r _ => r = .rt (.bool true)) (q : ∀ H', Q (.bl true) H') :
    tRest9 K Ts W F { nx := nx, rt := Q } (some (.ref a) :: some (.ref d) :: List.replicate n none) H := by
  obtain ⟨r, s', e, rfl⟩ := ht
  have kz : (Zt9 d c Ts).R H s := ⟨k, kt⟩
  refine ⟨d, c, (Zt9 d c Ts).M, H, fun _ => False, lawR n, s, .rt (.bool true), s', ⟨⟨⟨?_, ?_, ?_⟩, ?_, fun _ z => z.elim, fun _ z => z, fun _ z => z.elim⟩, Lc.Fr.refl H, ?_, fun _ z => z.elim, kz⟩, e, ?_⟩
  · simp [lawR]
  · intro i x hi hx
    match i, hx with
    | 0, hx => cases hx
    | 1, hx =>
      cases hx
      refine ⟨.ref d, rfl, ?_⟩
      show Rep _ _ H (hnd 0) (.ref d)
      unfold hnd
      simp only [Rep]
      exact ⟨d, rfl, .inl ⟨0, rfl, rfl, rfl⟩⟩
    | i + 2, hx =>
      have hx : (List.replicate n (none : Option D))[i]? = some (some x) := hx
      rw [List.getElem?_replicate] at hx
      split at hx <;> cases hx
  · have no : ∀ i x, i ∈ W → (lawR n)[i]? = some (some x) → False := fun i x hi hx => by
      have h2 := hW i hi
      match i, hx with
      | i + 2, hx =>
        have hx : (List.replicate n (none : Option D))[i]? = some (some x) := hx
        rw [List.getElem?_replicate] at hx
        split at hx <;> cases hx
    exact ⟨fun _ => 0, (fun i j x y hi _ hx => (no i x hi hx).elim), fun i x hi hx => (no i x hi hx).elim⟩
  · exact fun a z => (Zt9 d c Ts).dom H s a kz z
  · exact fun a z => (Zt9 d c Ts).dom H s a kz z
  · intro v H' _ hr _
    simp only [Rep] at hr
    rw [hr]
    exact q H'
end
end Dl
namespace K32
open PySem
def topS (i : Nat) : Stmt := PySem.Challenge.pw_linecourt_k32_put_in_its_place.main.body.getD i (.Pass ⟨0, 0, 0, 0⟩)
end K32
set_option Elab.async false
set_option linter.all false
set_option maxRecDepth 100000
set_option maxHeartbeats 4000000
namespace K32
open PySem PySem.Spec PyProof.Rows L2 Dl Lw30 Lw32
abbrev s_is_again : Stmt := topS 15
abbrev s_is_itself : Stmt := topS 16
abbrev s_is_both : Stmt := topS 17
abbrev s_is_left : Stmt := topS 18
abbrev s_is_right_side : Stmt := topS 19
abbrev s_is_or_left : Stmt := topS 20
abbrev s_is_or_right : Stmt := topS 21
abbrev s_is_then : Stmt := topS 22
abbrev s_is_absurd : Stmt := topS 23
abbrev s_is_of_nothing : Stmt := topS 24
abbrev s_is_at : Stmt := topS 25
abbrev s_is_such : Stmt := topS 26
section
variable {P : Program} {w : World} {K : PySem.W.Frag} {mg : Str → Option Value} {base : Heap} {f : Addr} {fd : FuncData}
-- pieces: slots form 0, wanted 1, place 2, piece 3; cells wanted
abbrev s_pieces : Stmt := topS 9
abbrev N_pieces : List Str := ["form", "wanted", "place", "piece"]
theorem sc_pieces : FnScope N_pieces ["form", "wanted"] (defScope s_pieces) := ⟨rfl, rfl, rfl, by decide +kernel, rfl, by decide +kernel, by decide +kernel⟩
theorem P_pieces {S : Type} {Z : Zk S} {hd : Nat → Addr → Prop} {k : Nat} (U : Fun K "pieces" "pieces" s_pieces f fd) (m_zip : mg "zip" = none) {a_SHAPES : Addr} (g_SHAPES : mg "SHAPES" = some (.ref a_SHAPES)) (wd_SHAPES : WD K w a_SHAPES t_SHAPES) :
    FnOk P w K mg base CX0 (k + 1) f fd ["form", "wanted"] (spD ⟨K, hd⟩ Z 2 (K_pieces )) :=
  fn_ok (W := []) (F := B_pieces ) U sc_pieces rfl rfl (by decide) (by decide) fun cdv A outer s H E hr => by
    unfold B_pieces
    exact (es_one (es_ret (ex_nl (nl_lc (own := [("place", 2), ("piece", 3)]) rfl sc_pieces.nd (ei_zipS (pi_zipS (by rfl) m_zip (ea_cons (ex_dix wd_SHAPES (by rfl) g_SHAPES (ex_ix ix_seq os_ix (ex_var 0) ex_int (fun _ _ => rfl)) (fun _ _ => rfl)) (ea_cons (ex_slice od_sl os_sl (ex_var 0) (eo_some ex_int) eo_none) ea_nil)))) (blkOk_by (N := N_pieces) (sc := defScope s_pieces) (by decide +kernel)) (fun _ _ _ _ _ => (eg_tup rfl (egs_cons (eg_name (i := 2) sc_pieces.nd rfl (.inl rfl)) (egs_cons (eg_name (i := 3) sc_pieces.nd rfl (.inl rfl)) egs_nil)) (fun _ _ _ h => glC (fun _ _ _ h => glC (fun _ _ _ h => gl0 h) h) h))) (fun _ _ _ _ _ => pts_one (et_cmp (od_eq hr.units) os_eq (ex_var 2) (ex_var 1) (nomark _) (fun _ _ _ h => pEq_bool h))) (fun _ _ _ h => h) (fun _ _ _ _ _ => (ex_var 3))))))

-- puts: slots t 0, u 1, old 2, new 3, bound 4, place 5, one 6, other 7; cells t, u
abbrev s_puts : Stmt := topS 28
abbrev N_puts : List Str := ["t", "u", "old", "new", "bound", "place", "one", "other"]
theorem sc_puts : FnScope N_puts ["t", "u", "old", "new"] (defScope s_puts) := ⟨rfl, rfl, rfl, by decide +kernel, rfl, by decide +kernel, by decide +kernel⟩
theorem P_puts {S : Type} {Z : Zk S} {hd : Nat → Addr → Prop} {k : Nat} {c T : Addr} (U : FunC K "puts" "puts" s_puts f fd c) (TB : GxR.TabB base mg c T) (zt : ZTab Z T) {F_pieces : Fn S} {k_pieces : Nat} (C_pieces : Lc.Dn P w K mg base "pieces" ["form", "wanted"] k_pieces (spD ⟨K, hd⟩ Z 2 F_pieces)) (h_pieces : k_pieces ≤ k) {F_puts_at : Fn S} {k_puts_at : Nat} (C_puts_at : Lc.Dn P w K mg base "puts_at" ["place", "t", "u", "old", "new"] k_puts_at (spD ⟨K, hd⟩ Z 5 F_puts_at)) (h_puts_at : k_puts_at ≤ k) (m_all : mg "all" = none) (m_zip : mg "zip" = none) {a_SHAPES : Addr} (g_SHAPES : mg "SHAPES" = some (.ref a_SHAPES)) (wd_SHAPES : WD K w a_SHAPES t_SHAPES) :
    FnOk P w K mg base CX0 (k + 1 + 1) f fd ["t", "u", "old", "new"] (spD ⟨K, hd⟩ Z 4 (K_puts F_pieces F_puts_at)) :=
  fn_okC (W := []) (F := B_puts F_pieces F_puts_at) U sc_puts rfl rfl (by decide) (by decide) fun A outer s H E hr2 => by
    have hr := hr2.mono (Nat.le_succ k)
    unfold B_puts
    exact (es_cons (es_if (et_cmp (od_ne hr.units) os_ne (ex_ix ix_seq os_ix (ex_var 2) ex_int (fun _ _ => rfl)) (ex_ix ix_seq os_ix (ex_var 3) ex_int (fun _ _ => rfl)) (nomark _) (fun _ _ _ h => pNe_bool h))
    (es_one (es_ret ex_bl))
    es_nil)
    (es_cons (es_set (i := 4) sc_puts.nd rfl (.inl rfl) (ex_call C_pieces (hr.mono h_pieces) (by rfl) (ea_cons (ex_var 2) (ea_cons ex_str ea_nil))))
    (es_cons (es_if (PW.pt (ew_or (et_cmp (od_in (Room_units65 hr)) os_in (ex_var 0) (ex_var 4) (by rfl) (fun _ _ _ h => pIn_bool h)) (pw_or1 (et_cmp (od_in (Room_units65 hr)) os_in (ex_var 1) (ex_var 4) (by rfl) (fun _ _ _ h => pIn_bool h)))))
    (es_one (es_ret (ex_cmp (od_eq hr.units) os_eq (ex_var 2) (ex_var 3) (nomark _))))
    es_nil)
    (es_one (es_ret (ex_all (own := [("place", 5), ("one", 6), ("other", 7)]) (tt := tYes) zt TB rfl hr2 (by rfl) m_all rfl sc_puts.nd (ei_zip3 (pi_zip3 (by rfl) m_zip (ea_cons (ex_dix wd_SHAPES (by rfl) g_SHAPES (ex_ix ix_seq os_ix (ex_var 2) ex_int (fun _ _ => rfl)) (fun _ _ => rfl)) (ea_cons (ex_slice od_sl os_sl (ex_var 2) (eo_some ex_int) eo_none) (ea_cons (ex_slice od_sl os_sl (ex_var 3) (eo_some ex_int) eo_none) ea_nil))))) (blkOk_by (N := N_puts) (sc := defScope s_puts) (by decide +kernel)) (fun _ _ _ _ _ _ => (eg_tup rfl (egs_cons (eg_name (i := 5) sc_puts.nd rfl (.inl rfl)) (egs_cons (eg_name (i := 6) sc_puts.nd rfl (.inl rfl)) (egs_cons (eg_name (i := 7) sc_puts.nd rfl (.inl rfl)) egs_nil))) (fun _ _ _ h => glC (fun _ _ _ h => glC (fun _ _ _ h => glC (fun _ _ _ h => gl0 h) h) h) h))) (fun _ _ _ _ _ _ hr => pts_nil) (fun _ _ _ h => yes_of h) (fun _ _ _ _ _ _ hr => (ex_call C_puts_at (hr.mono h_puts_at) (by rfl) (ea_cons (ex_var 5) (ea_cons (ex_var 0) (ea_cons (ex_var 1) (ea_cons (ex_var 6) (ea_cons (ex_var 7) ea_nil)))))))))))))

-- puts_at: slots place 0, t 1, u 2, old 3, new 4
abbrev s_puts_at : Stmt := topS 29
abbrev N_puts_at : List Str := ["place", "t", "u", "old", "new"]
theorem sc_puts_at : FnScope N_puts_at ["place", "t", "u", "old", "new"] (defScope s_puts_at) := ⟨rfl, rfl, rfl, by decide +kernel, rfl, by decide +kernel, by decide +kernel⟩
theorem P_puts_at {S : Type} {Z : Zk S} {hd : Nat → Addr → Prop} {k : Nat} (U : Fun K "puts_at" "puts_at" s_puts_at f fd) {F_puts : Fn S} {k_puts : Nat} (C_puts : Lc.Dn P w K mg base "puts" ["t", "u", "old", "new"] k_puts (spD ⟨K, hd⟩ Z 4 F_puts)) (h_puts : k_puts ≤ k) :
    FnOk P w K mg base CX0 (k + 1) f fd ["place", "t", "u", "old", "new"] (spD ⟨K, hd⟩ Z 5 (K_puts_at F_puts)) :=
  fn_ok (W := []) (F := B_puts_at F_puts) U sc_puts_at rfl rfl (by decide) (by decide) fun cdv A outer s H E hr => by
    unfold B_puts_at
    exact (es_cons (es_if (et_cmp (od_eq hr.units) os_eq (ex_var 0) ex_str (nomark _) (fun _ _ _ h => pEq_bool h))
    (es_one (es_ret (ex_call C_puts (hr.mono h_puts) (by rfl) (ea_cons (ex_var 1) (ea_cons (ex_var 2) (ea_cons (ex_var 3) (ea_cons (ex_var 4) ea_nil)))))))
    es_nil)
    (es_one (es_ret (ex_or (ex_cmp (od_eq hr.units) os_eq (ex_var 3) (ex_var 4) (nomark _)) (ex_one (ex_and (ex_cmp (od_eq hr.units) os_eq (ex_var 0) ex_str (nomark _)) (ex_and (ex_cmp (od_eq hr.units) os_eq (ex_var 3) (ex_var 1) (nomark _)) (ex_one (ex_cmp (od_eq hr.units) os_eq (ex_var 4) (ex_var 2) (nomark _))))))))))

-- is_put: slots form 0, forms 1, name 2
abbrev s_is_put : Stmt := topS 27
abbrev N_is_put : List Str := ["form", "forms", "name"]
theorem sc_is_put : FnScope N_is_put ["form", "forms", "name"] (defScope s_is_put) := ⟨rfl, rfl, rfl, by decide +kernel, rfl, by decide +kernel, by decide +kernel⟩
theorem P_is_put {S : Type} {Z : Zk S} {hd : Nat → Addr → Prop} {k : Nat} (U : Fun K "is_put" "is_put" s_is_put f fd) {F_puts : Fn S} {k_puts : Nat} (C_puts : Lc.Dn P w K mg base "puts" ["t", "u", "old", "new"] k_puts (spD ⟨K, hd⟩ Z 4 F_puts)) (h_puts : k_puts ≤ k) :
    FnOk P w K mg base CX0 (k + 1) f fd ["form", "forms", "name"] (spD ⟨K, hd⟩ Z 3 (K_is_put F_puts)) :=
  fn_ok (W := []) (F := B_is_put F_puts) U sc_is_put rfl rfl (by decide) (by decide) fun cdv A outer s H E hr => by
    unfold B_is_put
    exact (es_one (es_ret (ex_and (ex_cmp (od_eq hr.units) os_eq (ex_ix ix_seq os_ix (ex_ix ix_seq os_ix (ex_var 1) ex_int (fun _ _ => rfl)) ex_int (fun _ _ => rfl)) ex_str (nomark _)) (ex_one (ex_call C_puts (hr.mono h_puts) (by rfl) (ea_cons (ex_ix ix_seq os_ix (ex_ix ix_seq os_ix (ex_var 1) ex_int (fun _ _ => rfl)) ex_int (fun _ _ => rfl)) (ea_cons (ex_ix ix_seq os_ix (ex_ix ix_seq os_ix (ex_var 1) ex_int (fun _ _ => rfl)) ex_int (fun _ _ => rfl)) (ea_cons (ex_ix ix_seq os_ix (ex_var 1) ex_int (fun _ _ => rfl)) (ea_cons (ex_var 0) ea_nil)))))))))

-- follows: slots word 0, form 1, forms 2, name 3, rule 4
abbrev s_follows : Stmt := topS 31
abbrev N_follows : List Str := ["word", "form", "forms", "name", "rule"]
theorem sc_follows : FnScope N_follows ["word", "form", "forms", "name"] (defScope s_follows) := ⟨rfl, rfl, rfl, by decide +kernel, rfl, by decide +kernel, by decide +kernel⟩
theorem P_follows {S : Type} {Z : Zk S} {hd : Nat → Addr → Prop} {k : Nat} {dvs : List V} {kws : List (Str × V)} (U : FunDf K "follows" "follows" s_follows dvs kws f fd) {F_is_again : Fn S} {F_is_itself : Fn S} {F_is_both : Fn S} {F_is_left : Fn S} {F_is_right_side : Fn S} {F_is_or_left : Fn S} {F_is_or_right : Fn S} {F_is_then : Fn S} {F_is_absurd : Fn S} {F_is_of_nothing : Fn S} {F_is_at : Fn S} {F_is_such : Fn S} {F_is_put : Fn S} {a_RULES : Addr} {tbl_RULES : List (Str × Addr)} (g_RULES : mg "RULES" = some (.ref a_RULES)) (fd_RULES : FD K w a_RULES tbl_RULES) (low_RULES : (a_RULES == sysModules) = false) (ok_RULES : TbOk P w K mg base k ⟨K, hd⟩ Z 3 [(("again" : Str), F_is_again), (("itself" : Str), F_is_itself), (("both" : Str), F_is_both), (("left" : Str), F_is_left), (("right" : Str), F_is_right_side), (("orleft" : Str), F_is_or_left), (("orright" : Str), F_is_or_right), (("then" : Str), F_is_then), (("absurd" : Str), F_is_absurd), (("nothing" : Str), F_is_of_nothing), (("at" : Str), F_is_at), (("such" : Str), F_is_such), (("put" : Str), F_is_put)] tbl_RULES) (m_len : mg "len" = none) {a_REASONS : Addr} (g_REASONS : mg "REASONS" = some (.ref a_REASONS)) (wd_REASONS : WD K w a_REASONS t_REASONS) :
    FnOk P w K mg base CX0 (k + 1) f fd ["word", "form", "forms", "name"] (spD ⟨K, hd⟩ Z 4 (K_follows F_is_again F_is_itself F_is_both F_is_left F_is_right_side F_is_or_left F_is_or_right F_is_then F_is_absurd F_is_of_nothing F_is_at F_is_such F_is_put)) :=
  fn_okF (W := []) (F := B_follows F_is_again F_is_itself F_is_both F_is_left F_is_right_side F_is_or_left F_is_or_right F_is_then F_is_absurd F_is_of_nothing F_is_at F_is_such F_is_put) U sc_follows rfl rfl (by decide) (by decide) fun cdv A outer s H E hr => by
    unfold B_follows
    exact (es_cons (es_if (PW.pt (ew_or (et_hasNot fd_RULES (tb_keys ok_RULES) low_RULES (by rfl) g_RULES (ex_var 0)) (pw_or1 (et_cmp (od_ne hr.units) os_ne (ex_callB od_len os_len (by rfl) m_len (by decide +kernel) (ea_cons (ex_var 2) ea_nil)) (ex_count (ex_dix wd_REASONS (by rfl) g_REASONS (ex_var 0) (fun _ _ => rfl)) ex_str) (nomark _) (fun _ _ _ h => pNe_bool h)))))
    (es_one (es_ret ex_bl))
    es_nil)
    (es_disp (i := 4) fd_RULES ok_RULES hr (by rfl) g_RULES (ex_var 0) (fun _ _ => rfl) sc_follows.nd rfl (.inl rfl) (.inl rfl) (ea_cons (ex_var 1) (ea_cons (ex_var 2) (ea_cons (ex_var 3) ea_nil)))))

-- _law_word: slots _law_deck_here 0, _law_most 1, _law_letters 2, _law_k 3; cells _law_deck_here, _law_letters
abbrev s_w_word : Stmt := topS 35
abbrev N_w_word : List Str := ["_law_deck_here", "_law_most", "_law_letters", "_law_k"]
theorem sc_w_word : FnScope N_w_word ["_law_deck_here", "_law_most"] (defScope s_w_word) := ⟨rfl, rfl, rfl, by decide +kernel, rfl, by decide +kernel, by decide +kernel⟩
theorem P_w_word {S : Type} {Z : Zk S} {hd : Nat → Addr → Prop} {k : Nat} (U : Fun K "_law_word" "_law_word" s_w_word f fd) {F_w_draw : Fn S} {k_w_draw : Nat} (C_w_draw : Lc.Dn P w K mg base "_law_draw" ["_law_deck_here", "_law_most"] k_w_draw (spD ⟨K, hd⟩ Z 2 F_w_draw)) (h_w_draw : k_w_draw ≤ k) (m_range : mg "range" = none) :
    FnOk P w K mg base CX0 (k + 1) f fd ["_law_deck_here", "_law_most"] (spD ⟨K, hd⟩ Z 2 (K_w_word F_w_draw)) :=
  fn_ok (W := []) (F := B_w_word F_w_draw) U sc_w_word rfl rfl (by decide) (by decide) fun cdv A outer s H E hr => by
    unfold B_w_word
    exact (es_cons (es_set (i := 2) sc_w_word.nd rfl (.inr rfl) ex_str)
    (es_one (es_ret (ex_join ex_str (ex_nl (nl_lc (own := [("_law_k", 3)]) (tt := tYes) rfl sc_w_word.nd (ei_range1 (pi_range1 (by rfl) m_range (ea_cons (ex_call C_w_draw (hr.mono h_w_draw) (by rfl) (ea_cons (ex_var 0) (ea_cons (ex_bin od_add os_add (ex_var 1) ex_int) ea_nil))) ea_nil))) (blkOk_by (N := N_w_word) (sc := defScope s_w_word) (by decide +kernel)) (fun _ _ _ _ _ => (eg_name (i := 3) sc_w_word.nd rfl (.inl rfl))) (fun _ _ _ _ _ => pts_nil) (fun _ _ _ h => yes_of h) (fun _ _ _ _ _ => (ex_ix ix_seq os_ix (ex_var 2) (ex_call C_w_draw (hr.mono h_w_draw) (by rfl) (ea_cons (ex_var 0) (ea_cons ex_int ea_nil))) (fun _ _ => rfl)))))))))

-- _law_some: slots _law_deck_here 0, _law_many 1, _law_heads 2, _law_tail 3, _law_most 4, _law_found 5, _law_k 6, _law_word_here 7
abbrev s_w_some : Stmt := topS 36
abbrev N_w_some : List Str := ["_law_deck_here", "_law_many", "_law_heads", "_law_tail", "_law_most", "_law_found", "_law_k", "_law_word_here"]
theorem sc_w_some : FnScope N_w_some ["_law_deck_here", "_law_many", "_law_heads", "_law_tail", "_law_most"] (defScope s_w_some) := ⟨rfl, rfl, rfl, by decide +kernel, rfl, by decide +kernel, by decide +kernel⟩
theorem P_w_some {S : Type} {Z : Zk S} {hd : Nat → Addr → Prop} {k : Nat} (U : Fun K "_law_some" "_law_some" s_w_some f fd) {F_w_draw : Fn S} {k_w_draw : Nat} (C_w_draw : Lc.Dn P w K mg base "_law_draw" ["_law_deck_here", "_law_most"] k_w_draw (spD ⟨K, hd⟩ Z 2 F_w_draw)) (h_w_draw : k_w_draw ≤ k) {F_w_word : Fn S} {k_w_word : Nat} (C_w_word : Lc.Dn P w K mg base "_law_word" ["_law_deck_here", "_law_most"] k_w_word (spD ⟨K, hd⟩ Z 2 F_w_word)) (h_w_word : k_w_word ≤ k) (m_range : mg "range" = none) (m_len : mg "len" = none) (m_list : mg "list" = none) (m_tuple : mg "tuple" = none) (m_sorted : mg "sorted" = none) :
    FnOk P w K mg base CX0 (k + 1) f fd ["_law_deck_here", "_law_many", "_law_heads", "_law_tail", "_law_most"] (spD ⟨K, hd⟩ Z 5 (K_w_some F_w_draw F_w_word)) :=
  Dg.fn_okD (VA := Bool) (W := []) (i := 5) (F := B_w_some F_w_draw F_w_word) U sc_w_some rfl rfl (by decide) (by decide) rfl rfl (fun cdv A outer s H E => ps_set sc_w_some.nd rfl (.inl rfl) pe_dnewK) fun p cdv A outer s H E hr => by
    unfold B_w_some
    exact (es_cons (es_for PassesOwn.never rfl (ei_range1 (pi_range1 (by rfl) m_range (ea_cons (ex_var 1) ea_nil))) (eg_name (i := 6) sc_w_some.nd rfl (.inl rfl))
    (es_cons (es_set (i := 7) sc_w_some.nd rfl (.inl rfl) (ex_bin od_add os_add (ex_bin od_add os_add (ex_ix ix_seq os_ix (ex_var 2) (ex_call (Dg.dn_up C_w_draw) (hr.mono h_w_draw) (by rfl) (ea_cons (ex_var 0) (ea_cons (ex_callB od_len os_len (by rfl) m_len (by decide +kernel) (ea_cons (ex_var 2) ea_nil)) ea_nil))) (fun _ _ => rfl)) (ex_call (Dg.dn_up C_w_word) (hr.mono h_w_word) (by rfl) (ea_cons (ex_var 0) (ea_cons (ex_var 4) ea_nil)))) (ex_var 3)))
      (es_cons (es_if (PW.pt (ew_and (et_cmp (od_eq hr.units) os_eq (ex_bin op_mod os_mod (ex_var 6) ex_int) ex_int (nomark _) (fun _ _ _ h => pEq_bool h)) (ew_and (et_cmp op_gt os_gt (Dg.ex_dlen (by rfl) m_len (pv 5)) ex_int (nomark _) (fun _ _ _ h => pIB_bool h)) (pw_and1 (et_cmp (od_eq hr.units) os_eq (ex_call (Dg.dn_up C_w_draw) (hr.mono h_w_draw) (by rfl) (ea_cons (ex_var 0) (ea_cons ex_int ea_nil))) ex_int (nomark _) (fun _ _ _ h => pEq_bool h))))))
      (es_one (es_set (i := 7) sc_w_some.nd rfl (.inl rfl) (ex_bin od_add os_add (ex_bin od_add os_add (ex_slice od_sl os_sl (ex_ix ix_seq os_ix (ex_nl (Dg.nl_dlist rfl (by rfl) m_list (pv 5))) ex_int (fun _ _ => rfl)) eo_none (eo_some ex_int)) ex_str) (ex_var 3))))
      es_nil)
      (es_one (Dg.es_dput (Room_units1 hr) (pv 5) (ex_var 7) ex_bl)))))
    (es_one (es_ret (ex_callTy od_tuple os_tuple (by rfl) m_tuple (by decide +kernel) (ea_cons (ex_nl (Dg.nl_sortD rfl (by rfl) m_sorted (pv 5))) ea_nil)))))

-- _law_vocabulary: slots _law_deck_here 0, _law_names 1, _law_kinds 2, _law_doings 3, _law_some_here 4, _law_rows 5, _law_more 6
abbrev s_w_vocabulary : Stmt := topS 37
abbrev N_w_vocabulary : List Str := ["_law_deck_here", "_law_names", "_law_kinds", "_law_doings", "_law_some_here", "_law_rows", "_law_more"]
theorem sc_w_vocabulary : FnScope N_w_vocabulary ["_law_deck_here", "_law_names", "_law_kinds", "_law_doings"] (defScope s_w_vocabulary) := ⟨rfl, rfl, rfl, by decide +kernel, rfl, by decide +kernel, by decide +kernel⟩
theorem P_w_vocabulary {S : Type} {Z : Zk S} {hd : Nat → Addr → Prop} {k : Nat} (U : Fun K "_law_vocabulary" "_law_vocabulary" s_w_vocabulary f fd) {F_w_some : Fn S} {k_w_some : Nat} (C_w_some : Lc.Dn P w K mg base "_law_some" ["_law_deck_here", "_law_many", "_law_heads", "_law_tail", "_law_most"] k_w_some (spD ⟨K, hd⟩ Z 5 F_w_some)) (h_w_some : k_w_some ≤ k) {F_w_draw : Fn S} {k_w_draw : Nat} (C_w_draw : Lc.Dn P w K mg base "_law_draw" ["_law_deck_here", "_law_most"] k_w_draw (spD ⟨K, hd⟩ Z 2 F_w_draw)) (h_w_draw : k_w_draw ≤ k) :
    FnOk P w K mg base CX0 (k + 1) f fd ["_law_deck_here", "_law_names", "_law_kinds", "_law_doings"] (spD ⟨K, hd⟩ Z 4 (K_w_vocabulary F_w_some F_w_draw)) :=
  fn_ok (W := []) (F := B_w_vocabulary F_w_some F_w_draw) U sc_w_vocabulary rfl rfl (by decide) (by decide) fun cdv A outer s H E hr => by
    unfold B_w_vocabulary
    exact (es_cons (es_set (i := 4) sc_w_vocabulary.nd rfl (.inl rfl) (ex_call C_w_some (hr.mono h_w_some) (by rfl) (ea_cons (ex_var 0) (ea_cons (ex_bin od_add os_add ex_int (ex_call C_w_draw (hr.mono h_w_draw) (by rfl) (ea_cons (ex_var 0) (ea_cons (ex_var 1) ea_nil)))) (ea_cons ex_str (ea_cons ex_str (ea_cons ex_int ea_nil)))))))
    (es_cons (es_set (i := 5) sc_w_vocabulary.nd rfl (.inl rfl) (ex_call C_w_some (hr.mono h_w_some) (by rfl) (ea_cons (ex_var 0) (ea_cons (ex_bin od_add os_add ex_int (ex_call C_w_draw (hr.mono h_w_draw) (by rfl) (ea_cons (ex_var 0) (ea_cons (ex_var 2) ea_nil)))) (ea_cons ex_str (ea_cons ex_str (ea_cons ex_int ea_nil)))))))
    (es_cons (es_set (i := 6) sc_w_vocabulary.nd rfl (.inl rfl) (ex_call C_w_some (hr.mono h_w_some) (by rfl) (ea_cons (ex_var 0) (ea_cons (ex_call C_w_draw (hr.mono h_w_draw) (by rfl) (ea_cons (ex_var 0) (ea_cons (ex_bin od_add os_add (ex_var 3) ex_int) ea_nil))) (ea_cons ex_str (ea_cons ex_str (ea_cons ex_int ea_nil)))))))
    (es_one (es_ret (ex_tup (ea_cons (ex_var 4) (ea_cons (ex_var 5) (ea_cons (ex_var 6) ea_nil)))))))))

-- _law_sum: slots _law_deck_here 0, _law_kinds 1, _law_parts 2, _law_kind 3; cells _law_deck_here
abbrev s_w_sum : Stmt := topS 38
abbrev N_w_sum : List Str := ["_law_deck_here", "_law_kinds", "_law_parts", "_law_kind"]
theorem sc_w_sum : FnScope N_w_sum ["_law_deck_here", "_law_kinds"] (defScope s_w_sum) := ⟨rfl, rfl, rfl, by decide +kernel, rfl, by decide +kernel, by decide +kernel⟩
theorem P_w_sum {S : Type} {Z : Zk S} {hd : Nat → Addr → Prop} {k : Nat} (U : Fun K "_law_sum" "_law_sum" s_w_sum f fd) {F_w_draw : Fn S} {k_w_draw : Nat} (C_w_draw : Lc.Dn P w K mg base "_law_draw" ["_law_deck_here", "_law_most"] k_w_draw (spD ⟨K, hd⟩ Z 2 F_w_draw)) (h_w_draw : k_w_draw ≤ k) (m_tuple : mg "tuple" = none) :
    FnOk P w K mg base CX0 (k + 1) f fd ["_law_deck_here", "_law_kinds"] (spD ⟨K, hd⟩ Z 2 (K_w_sum F_w_draw)) :=
  fn_ok (W := []) (F := B_w_sum F_w_draw) U sc_w_sum rfl rfl (by decide) (by decide) fun cdv A outer s H E hr => by
    unfold B_w_sum
    exact (es_cons (es_setNl (ps_setLc (i := 2) (own := [("_law_kind", 3)]) rfl sc_w_sum.nd rfl rfl (sw_true rfl rfl rfl (by decide +kernel)) (ei_tup (ex_var 1)) (blkOk_by (N := N_w_sum) (sc := defScope s_w_sum) (by decide +kernel)) (fun _ _ _ _ _ => (eg_name (i := 3) sc_w_sum.nd rfl (.inl rfl))) (fun _ _ _ _ _ => pts_one (et_cmp (od_eq hr.units) os_eq (ex_call C_w_draw (hr.mono h_w_draw) (by rfl) (ea_cons (ex_var 0) (ea_cons ex_int ea_nil))) ex_int (nomark _) (fun _ _ _ h => pEq_bool h))) (fun _ _ _ _ _ => (ex_tup (ea_cons (ex_var 3) (ea_cons (ex_bin od_add os_add ex_int (ex_call C_w_draw (hr.mono h_w_draw) (by rfl) (ea_cons (ex_var 0) (ea_cons ex_int ea_nil)))) ea_nil))))) (fun _ _ _ h => nl_lcT (hu := by decide) (fun _ _ _ h => h) h))
    (es_one (es_ret (ex_tup (ea_cons (ex_callTy od_tuple os_tuple (by rfl) m_tuple (by decide +kernel) (ea_cons (ex_var 2) ea_nil)) (ea_cons (ex_call C_w_draw (hr.mono h_w_draw) (by rfl) (ea_cons (ex_var 0) (ea_cons ex_int ea_nil))) ea_nil))))))

-- _law_atom: slots _law_deck_here 0, _law_vocabulary_here 1, _law_letters 2, _law_names 3, _law_kinds 4, _law_doings 5, _law_terms_here 6, _law_t 7, _law_u 8, _law_way 9
abbrev s_w_atom : Stmt := topS 39
abbrev N_w_atom : List Str := ["_law_deck_here", "_law_vocabulary_here", "_law_letters", "_law_names", "_law_kinds", "_law_doings", "_law_terms_here", "_law_t", "_law_u", "_law_way"]
theorem sc_w_atom : FnScope N_w_atom ["_law_deck_here", "_law_vocabulary_here", "_law_letters"] (defScope s_w_atom) := ⟨rfl, rfl, rfl, by decide +kernel, rfl, by decide +kernel, by decide +kernel⟩
theorem P_w_atom {S : Type} {Z : Zk S} {hd : Nat → Addr → Prop} {k : Nat} (U : Fun K "_law_atom" "_law_atom" s_w_atom f fd) {F_w_draw : Fn S} {k_w_draw : Nat} (C_w_draw : Lc.Dn P w K mg base "_law_draw" ["_law_deck_here", "_law_most"] k_w_draw (spD ⟨K, hd⟩ Z 2 F_w_draw)) (h_w_draw : k_w_draw ≤ k) {F_w_sum : Fn S} {k_w_sum : Nat} (C_w_sum : Lc.Dn P w K mg base "_law_sum" ["_law_deck_here", "_law_kinds"] k_w_sum (spD ⟨K, hd⟩ Z 2 F_w_sum)) (h_w_sum : k_w_sum ≤ k) (m_list : mg "list" = none) (m_len : mg "len" = none) :
    FnOk P w K mg base CX0 (k + 1) f fd ["_law_deck_here", "_law_vocabulary_here", "_law_letters"] (spD ⟨K, hd⟩ Z 3 (K_w_atom F_w_draw F_w_sum)) :=
  fn_ok (W := []) (F := B_w_atom F_w_draw F_w_sum) U sc_w_atom rfl rfl (by decide) (by decide) fun cdv A outer s H E hr => by
    unfold B_w_atom
    exact (es_cons (es_asgT (ps_asg (ex_var 1) (eg_tup rfl (egs_cons (eg_name (i := 3) sc_w_atom.nd rfl (.inl rfl)) (egs_cons (eg_name (i := 4) sc_w_atom.nd rfl (.inl rfl)) (egs_cons (eg_name (i := 5) sc_w_atom.nd rfl (.inl rfl)) egs_nil))) (fun _ _ _ h => glC (fun _ _ _ h => glC (fun _ _ _ h => glC (fun _ _ _ h => gl0 h) h) h) h))))
    (es_cons (es_set (i := 6) sc_w_atom.nd rfl (.inl rfl) (ex_bin od_add os_add (ex_bin od_add os_add (ex_nl (nl_callTy od_list on_list (by rfl) m_list (by decide +kernel) (ea_cons (ex_var 3) ea_nil))) (ex_var 2)) (ex_var 2)))
    (es_cons (es_set (i := 7) sc_w_atom.nd rfl (.inl rfl) (ex_ix ix_seq os_ix (ex_var 6) (ex_call C_w_draw (hr.mono h_w_draw) (by rfl) (ea_cons (ex_var 0) (ea_cons (ex_callB od_len os_len (by rfl) m_len (by decide +kernel) (ea_cons (ex_var 6) ea_nil)) ea_nil))) (fun _ _ => rfl)))
    (es_cons (es_set (i := 8) sc_w_atom.nd rfl (.inl rfl) (ex_ix ix_seq os_ix (ex_var 6) (ex_call C_w_draw (hr.mono h_w_draw) (by rfl) (ea_cons (ex_var 0) (ea_cons (ex_callB od_len os_len (by rfl) m_len (by decide +kernel) (ea_cons (ex_var 6) ea_nil)) ea_nil))) (fun _ _ => rfl)))
    (es_cons (es_set (i := 9) sc_w_atom.nd rfl (.inl rfl) (ex_call C_w_draw (hr.mono h_w_draw) (by rfl) (ea_cons (ex_var 0) (ea_cons ex_int ea_nil))))
    (es_cons (es_if (et_cmp (od_eq hr.units) os_eq (ex_var 9) ex_int (nomark _) (fun _ _ _ h => pEq_bool h))
    (es_one (es_ret (ex_tup (ea_cons ex_str (ea_cons (ex_var 7) (ea_cons (ex_var 8) ea_nil))))))
    es_nil)
    (es_cons (es_if (et_cmp (od_eq hr.units) os_eq (ex_var 9) ex_int (nomark _) (fun _ _ _ h => pEq_bool h))
    (es_one (es_ret (ex_tup (ea_cons ex_str (ea_cons (ex_call C_w_sum (hr.mono h_w_sum) (by rfl) (ea_cons (ex_var 0) (ea_cons (ex_var 4) ea_nil))) (ea_cons (ex_call C_w_sum (hr.mono h_w_sum) (by rfl) (ea_cons (ex_var 0) (ea_cons (ex_var 4) ea_nil))) ea_nil))))))
    es_nil)
    (es_cons (es_if (PW.pt (ew_and (et_cmp (od_eq hr.units) os_eq (ex_var 9) ex_int (nomark _) (fun _ _ _ h => pEq_bool h)) (pw_and1 (et_cmp (od_eq hr.units) os_eq (ex_var 2) (ex_lst ea_nil) (nomark _) (fun _ _ _ h => pEq_bool h)))))
    (es_one (es_ret (ex_tup (ea_cons ex_str ea_nil))))
    es_nil)
    (es_cons (es_if (PW.pt (ew_and (et_cmp (od_lt hr.units) os_lt (ex_var 9) ex_int (nomark _) (fun _ _ _ h => pLt_bool h)) (pw_and1 (et_cmp (od_ne hr.units) os_ne (ex_var 5) (ex_tup ea_nil) (nomark _) (fun _ _ _ h => pNe_bool h)))))
    (es_one (es_ret (ex_tup (ea_cons ex_str (ea_cons (ex_ix ix_seq os_ix (ex_var 5) (ex_call C_w_draw (hr.mono h_w_draw) (by rfl) (ea_cons (ex_var 0) (ea_cons (ex_callB od_len os_len (by rfl) m_len (by decide +kernel) (ea_cons (ex_var 5) ea_nil)) ea_nil))) (fun _ _ => rfl)) (ea_cons (ex_var 7) (ea_cons (ex_var 8) ea_nil)))))))
    es_nil)
    (es_one (es_ret (ex_tup (ea_cons ex_str (ea_cons (ex_var 7) (ea_cons (ex_ix ix_seq os_ix (ex_var 4) (ex_call C_w_draw (hr.mono h_w_draw) (by rfl) (ea_cons (ex_var 0) (ea_cons (ex_callB od_len os_len (by rfl) m_len (by decide +kernel) (ea_cons (ex_var 4) ea_nil)) ea_nil))) (fun _ _ => rfl)) ea_nil)))))))))))))))

-- _law_form: slots _law_deck_here 0, _law_vocabulary_here 1, _law_letters 2, _law_deep 3, _law_way 4, _law_x 5, _law_one 6, _law_other 7
abbrev s_w_form : Stmt := topS 40
abbrev N_w_form : List Str := ["_law_deck_here", "_law_vocabulary_here", "_law_letters", "_law_deep", "_law_way", "_law_x", "_law_one", "_law_other"]
theorem sc_w_form : FnScope N_w_form ["_law_deck_here", "_law_vocabulary_here", "_law_letters", "_law_deep"] (defScope s_w_form) := ⟨rfl, rfl, rfl, by decide +kernel, rfl, by decide +kernel, by decide +kernel⟩
theorem P_w_form {S : Type} {Z : Zk S} {hd : Nat → Addr → Prop} {k : Nat} (U : Fun K "_law_form" "_law_form" s_w_form f fd) {F_w_draw : Fn S} {k_w_draw : Nat} (C_w_draw : Lc.Dn P w K mg base "_law_draw" ["_law_deck_here", "_law_most"] k_w_draw (spD ⟨K, hd⟩ Z 2 F_w_draw)) (h_w_draw : k_w_draw ≤ k) {F_w_atom : Fn S} {k_w_atom : Nat} (C_w_atom : Lc.Dn P w K mg base "_law_atom" ["_law_deck_here", "_law_vocabulary_here", "_law_letters"] k_w_atom (spD ⟨K, hd⟩ Z 3 F_w_atom)) (h_w_atom : k_w_atom ≤ k) {F_w_form : Fn S} {k_w_form : Nat} (C_w_form : Lc.Dn P w K mg base "_law_form" ["_law_deck_here", "_law_vocabulary_here", "_law_letters", "_law_deep"] k_w_form (spD ⟨K, hd⟩ Z 4 F_w_form)) (h_w_form : k_w_form ≤ k) :
    FnOk P w K mg base CX0 (k + 1) f fd ["_law_deck_here", "_law_vocabulary_here", "_law_letters", "_law_deep"] (spD ⟨K, hd⟩ Z 4 (K_w_form F_w_draw F_w_atom F_w_form)) :=
  fn_ok (W := []) (F := B_w_form F_w_draw F_w_atom F_w_form) U sc_w_form rfl rfl (by decide) (by decide) fun cdv A outer s H E hr => by
    unfold B_w_form
    exact (es_cons (es_set (i := 4) sc_w_form.nd rfl (.inl rfl) (ex_call C_w_draw (hr.mono h_w_draw) (by rfl) (ea_cons (ex_var 0) (ea_cons ex_int ea_nil))))
    (es_cons (es_if (PW.pt (ew_or (et_cmp (od_eq hr.units) os_eq (ex_var 3) ex_int (nomark _) (fun _ _ _ h => pEq_bool h)) (pw_or1 (et_cmp (od_lt hr.units) os_lt (ex_var 4) ex_int (nomark _) (fun _ _ _ h => pLt_bool h)))))
    (es_one (es_ret (ex_call C_w_atom (hr.mono h_w_atom) (by rfl) (ea_cons (ex_var 0) (ea_cons (ex_var 1) (ea_cons (ex_var 2) ea_nil))))))
    es_nil)
    (es_cons (es_if (et_cmp (od_eq hr.units) os_eq (ex_var 4) ex_int (nomark _) (fun _ _ _ h => pEq_bool h))
    (es_one (es_ret (ex_tup (ea_cons ex_str (ea_cons (ex_call C_w_form (hr.mono h_w_form) (by rfl) (ea_cons (ex_var 0) (ea_cons (ex_var 1) (ea_cons (ex_var 2) (ea_cons (ex_bin op_sub os_sub (ex_var 3) ex_int) ea_nil))))) ea_nil)))))
    es_nil)
    (es_cons (es_if (et_cmp op_gt os_gt (ex_var 4) ex_int (nomark _) (fun _ _ _ h => pIB_bool h))
    (es_cons (es_set (i := 5) sc_w_form.nd rfl (.inl rfl) (ex_ix ix_seq os_ix (ex_lst (ea_cons ex_str (ea_cons ex_str (ea_cons ex_str (ea_cons ex_str (ea_cons ex_str ea_nil)))))) (ex_call C_w_draw (hr.mono h_w_draw) (by rfl) (ea_cons (ex_var 0) (ea_cons ex_int ea_nil))) (fun _ _ => rfl)))
      (es_one (es_ret (ex_tup (ea_cons (ex_ix ix_seq os_ix (ex_lst (ea_cons ex_str (ea_cons ex_str ea_nil))) (ex_bin op_sub os_sub (ex_var 4) ex_int) (fun _ _ => rfl)) (ea_cons (ex_var 5) (ea_cons (ex_call C_w_form (hr.mono h_w_form) (by rfl) (ea_cons (ex_var 0) (ea_cons (ex_var 1) (ea_cons (ex_bin od_add os_add (ex_var 2) (ex_lst (ea_cons (ex_var 5) ea_nil))) (ea_cons (ex_bin op_sub os_sub (ex_var 3) ex_int) ea_nil))))) ea_nil)))))))
    es_nil)
    (es_cons (es_set (i := 6) sc_w_form.nd rfl (.inl rfl) (ex_call C_w_form (hr.mono h_w_form) (by rfl) (ea_cons (ex_var 0) (ea_cons (ex_var 1) (ea_cons (ex_var 2) (ea_cons (ex_bin op_sub os_sub (ex_var 3) ex_int) ea_nil))))))
    (es_cons (es_set (i := 7) sc_w_form.nd rfl (.inl rfl) (ex_call C_w_form (hr.mono h_w_form) (by rfl) (ea_cons (ex_var 0) (ea_cons (ex_var 1) (ea_cons (ex_var 2) (ea_cons (ex_bin op_sub os_sub (ex_var 3) ex_int) ea_nil))))))
    (es_one (es_ret (ex_tup (ea_cons (ex_ix ix_seq os_ix (ex_lst (ea_cons ex_str (ea_cons ex_str (ea_cons ex_str (ea_cons ex_str ea_nil))))) (ex_bin op_sub os_sub (ex_var 4) ex_int) (fun _ _ => rfl)) (ea_cons (ex_var 6) (ea_cons (ex_var 7) ea_nil))))))))))))

-- _law_terms: slots _law_form_here 0, _law_places 1
abbrev s_w_terms : Stmt := topS 41
abbrev N_w_terms : List Str := ["_law_form_here", "_law_places"]
theorem sc_w_terms : FnScope N_w_terms ["_law_form_here"] (defScope s_w_terms) := ⟨rfl, rfl, rfl, by decide +kernel, rfl, by decide +kernel, by decide +kernel⟩
theorem P_w_terms {S : Type} {Z : Zk S} {hd : Nat → Addr → Prop} {k : Nat} (U : Fun K "_law_terms" "_law_terms" s_w_terms f fd)  :
    FnOk P w K mg base CX0 (k + 1) f fd ["_law_form_here"] (spD ⟨K, hd⟩ Z 1 (K_w_terms )) :=
  fn_ok (W := []) (F := B_w_terms ) U sc_w_terms rfl rfl (by decide) (by decide) fun cdv A outer s H E hr => by
    unfold B_w_terms
    exact (es_tab (i := 1) sc_w_terms.nd rfl (.inl rfl) (Room_units1 hr) pe_num1 pe_num2 pe_num2 (ex_ix ix_seq os_ix (ex_var 0) ex_int (fun _ _ => rfl)) (fun _ _ => rfl))

-- _law_variants: slots _law_form_here 0, _law_one 1, _law_other 2, _law_found 3, _law_k 4, _law_part 5, _law_more 6, _law_row 7, _law_ahead 8; cells _law_form_here, _law_k, _law_other, _law_row
abbrev s_w_variants : Stmt := topS 42
abbrev N_w_variants : List Str := ["_law_form_here", "_law_one", "_law_other", "_law_found", "_law_k", "_law_part", "_law_more", "_law_row", "_law_ahead"]
theorem sc_w_variants : FnScope N_w_variants ["_law_form_here", "_law_one", "_law_other"] (defScope s_w_variants) := ⟨rfl, rfl, rfl, by decide +kernel, rfl, by decide +kernel, by decide +kernel⟩
theorem P_w_variants {S : Type} {Z : Zk S} {hd : Nat → Addr → Prop} {k : Nat} (U : Fun K "_law_variants" "_law_variants" s_w_variants f fd) {F_w_terms : Fn S} {k_w_terms : Nat} (C_w_terms : Lc.Dn P w K mg base "_law_terms" ["_law_form_here"] k_w_terms (spD ⟨K, hd⟩ Z 1 F_w_terms)) (h_w_terms : k_w_terms ≤ k) {F_w_variants : Fn S} {k_w_variants : Nat} (C_w_variants : Lc.Dn P w K mg base "_law_variants" ["_law_form_here", "_law_one", "_law_other"] k_w_variants (spD ⟨K, hd⟩ Z 3 F_w_variants)) (h_w_variants : k_w_variants ≤ k) :
    FnOk P w K mg base CX0 (k + 1) f fd ["_law_form_here", "_law_one", "_law_other"] (spD ⟨K, hd⟩ Z 3 (K_w_variants F_w_terms F_w_variants)) :=
  fn_ok (W := []) (F := B_w_variants F_w_terms F_w_variants) U sc_w_variants rfl rfl (by decide) (by decide) fun cdv A outer s H E hr => by
    unfold B_w_variants
    exact (es_cons (es_if (et_cmp (od_in (Room_units65 hr)) os_in (ex_ix ix_seq os_ix (ex_var 0) ex_int (fun _ _ => rfl)) (ex_tup (ea_cons ex_str (ea_cons ex_str (ea_cons ex_str ea_nil)))) (by rfl) (fun _ _ _ h => pIn_bool h))
    (es_cons (es_set (i := 3) sc_w_variants.nd rfl (.inl rfl) (ex_lst (ea_cons (ex_var 0) ea_nil)))
      (es_cons (es_for PassesOwn.never rfl (ei_list (ex_call C_w_terms (hr.mono h_w_terms) (by rfl) (ea_cons (ex_var 0) ea_nil))) (eg_name (i := 4) sc_w_variants.nd rfl (.inr rfl))
      (es_one (es_if (et_cmp (od_eq hr.units) os_eq (ex_ix ix_seq os_ix (ex_var 0) (ex_var 4) (fun _ _ => rfl)) (ex_var 1) (nomark _) (fun _ _ _ h => pEq_bool h))
        (es_one (es_set (i := 3) sc_w_variants.nd rfl (.inl rfl) (ex_bin od_add os_add (ex_var 3) (ex_nl (nl_lc (own := [("_law_row", 7)]) (tt := tYes) rfl sc_w_variants.nd (ei_list (ex_var 3)) (blkOk_by (N := N_w_variants) (sc := defScope s_w_variants) (by decide +kernel)) (fun _ _ _ _ _ => (eg_name (i := 7) sc_w_variants.nd rfl (.inl rfl))) (fun _ _ _ _ _ => pts_nil) (fun _ _ _ h => yes_of h) (fun _ _ _ _ _ => (ex_bin od_add os_add (ex_bin od_add os_add (ex_slice od_sl os_sl (ex_var 7) eo_none (eo_some (ex_var 4))) (ex_tup (ea_cons (ex_var 2) ea_nil))) (ex_slice od_sl os_sl (ex_var 7) (eo_some (ex_bin od_add os_add (ex_var 4) ex_int)) eo_none))))))))
        es_nil)))
      (es_one (es_ret (ex_var 3)))))
    es_nil)
    (es_cons (es_if (et_cmp (od_in (Room_units65 hr)) os_in (ex_ix ix_seq os_ix (ex_var 0) ex_int (fun _ _ => rfl)) (ex_tup (ea_cons ex_str (ea_cons ex_str ea_nil))) (by rfl) (fun _ _ _ h => pIn_bool h))
    (es_one (es_ret (ex_lst (ea_cons (ex_var 0) ea_nil))))
    es_nil)
    (es_cons (es_if (et_cmp (od_in (Room_units65 hr)) os_in (ex_ix ix_seq os_ix (ex_var 0) ex_int (fun _ _ => rfl)) (ex_tup (ea_cons ex_str (ea_cons ex_str ea_nil))) (by rfl) (fun _ _ _ h => pIn_bool h))
    (es_one (es_ret (ex_nl (nl_lc (own := [("_law_row", 7)]) (tt := tYes) rfl sc_w_variants.nd (ei_list (ex_call C_w_variants (hr.mono h_w_variants) (by rfl) (ea_cons (ex_ix ix_seq os_ix (ex_var 0) ex_int (fun _ _ => rfl)) (ea_cons (ex_var 1) (ea_cons (ex_var 2) ea_nil))))) (blkOk_by (N := N_w_variants) (sc := defScope s_w_variants) (by decide +kernel)) (fun _ _ _ _ _ => (eg_name (i := 7) sc_w_variants.nd rfl (.inl rfl))) (fun _ _ _ _ _ => pts_nil) (fun _ _ _ h => yes_of h) (fun _ _ _ _ _ => (ex_tup (ea_cons (ex_ix ix_seq os_ix (ex_var 0) ex_int (fun _ _ => rfl)) (ea_cons (ex_ix ix_seq os_ix (ex_var 0) ex_int (fun _ _ => rfl)) (ea_cons (ex_var 7) ea_nil)))))))))
    es_nil)
    (es_cons (es_set (i := 3) sc_w_variants.nd rfl (.inl rfl) (ex_lst (ea_cons (ex_tup (ea_cons (ex_ix ix_seq os_ix (ex_var 0) ex_int (fun _ _ => rfl)) ea_nil)) ea_nil)))
    (es_cons (es_for PassesOwn.never rfl (ei_tup (ex_slice od_sl os_sl (ex_var 0) (eo_some ex_int) eo_none)) (eg_name (i := 5) sc_w_variants.nd rfl (.inl rfl))
    (es_cons (es_set (i := 6) sc_w_variants.nd rfl (.inl rfl) (ex_lst ea_nil))
      (es_cons (es_for PassesOwn.never rfl (ei_list (ex_call C_w_variants (hr.mono h_w_variants) (by rfl) (ea_cons (ex_var 5) (ea_cons (ex_var 1) (ea_cons (ex_var 2) ea_nil))))) (eg_name (i := 7) sc_w_variants.nd rfl (.inr rfl))
      (es_one (es_set (i := 6) sc_w_variants.nd rfl (.inl rfl) (ex_bin od_add os_add (ex_var 6) (ex_nl (nl_lc (own := [("_law_ahead", 8)]) (tt := tYes) rfl sc_w_variants.nd (ei_list (ex_var 3)) (blkOk_by (N := N_w_variants) (sc := defScope s_w_variants) (by decide +kernel)) (fun _ _ _ _ _ => (eg_name (i := 8) sc_w_variants.nd rfl (.inl rfl))) (fun _ _ _ _ _ => pts_nil) (fun _ _ _ h => yes_of h) (fun _ _ _ _ _ => (ex_bin od_add os_add (ex_var 8) (ex_tup (ea_cons (ex_var 7) ea_nil))))))))))
      (es_one (es_set (i := 3) sc_w_variants.nd rfl (.inl rfl) (ex_var 6))))))
    (es_one (es_ret (ex_var 3))))))))

-- _law_deepened: slots _law_deck_here 0, _law_form_here 1, _law_letters 2, _law_still 3, _law_k 4, _law_way 5
abbrev s_w_deepened : Stmt := topS 43
abbrev N_w_deepened : List Str := ["_law_deck_here", "_law_form_here", "_law_letters", "_law_still", "_law_k", "_law_way"]
theorem sc_w_deepened : FnScope N_w_deepened ["_law_deck_here", "_law_form_here", "_law_letters"] (defScope s_w_deepened) := ⟨rfl, rfl, rfl, by decide +kernel, rfl, by decide +kernel, by decide +kernel⟩
theorem P_w_deepened {S : Type} {Z : Zk S} {hd : Nat → Addr → Prop} {k : Nat} (U : Fun K "_law_deepened" "_law_deepened" s_w_deepened f fd) {F_w_draw : Fn S} {k_w_draw : Nat} (C_w_draw : Lc.Dn P w K mg base "_law_draw" ["_law_deck_here", "_law_most"] k_w_draw (spD ⟨K, hd⟩ Z 2 F_w_draw)) (h_w_draw : k_w_draw ≤ k) (m_range : mg "range" = none) (m_len : mg "len" = none) :
    FnOk P w K mg base CX0 (k + 1) f fd ["_law_deck_here", "_law_form_here", "_law_letters"] (spD ⟨K, hd⟩ Z 3 (K_w_deepened F_w_draw)) :=
  fn_ok (W := []) (F := B_w_deepened F_w_draw) U sc_w_deepened rfl rfl (by decide) (by decide) fun cdv A outer s H E hr => by
    unfold B_w_deepened
    exact (es_cons (es_if (et_cmp (od_ne hr.units) os_ne (ex_call C_w_draw (hr.mono h_w_draw) (by rfl) (ea_cons (ex_var 0) (ea_cons ex_int ea_nil))) ex_int (nomark _) (fun _ _ _ h => pNe_bool h))
    (es_one (es_ret (ex_var 1)))
    es_nil)
    (es_cons (es_set (i := 3) sc_w_deepened.nd rfl (.inl rfl) (ex_tup (ea_cons ex_str (ea_cons (ex_tup (ea_cons (ex_tup ea_nil) (ea_cons ex_int ea_nil))) (ea_cons (ex_tup (ea_cons (ex_tup ea_nil) (ea_cons ex_int ea_nil))) ea_nil)))))
    (es_cons (es_for PassesOwn.never rfl (ei_range1 (pi_range1 (by rfl) m_range (ea_cons ex_int ea_nil))) (eg_name (i := 4) sc_w_deepened.nd rfl (.inl rfl))
    (es_cons (es_set (i := 5) sc_w_deepened.nd rfl (.inl rfl) (ex_call C_w_draw (hr.mono h_w_draw) (by rfl) (ea_cons (ex_var 0) (ea_cons ex_int ea_nil))))
      (es_one (es_if (et_cmp (od_eq hr.units) os_eq (ex_var 5) ex_int (nomark _) (fun _ _ _ h => pEq_bool h))
      (es_one (es_set (i := 1) sc_w_deepened.nd rfl (.inl rfl) (ex_tup (ea_cons ex_str (ea_cons (ex_var 1) ea_nil)))))
      (es_one (es_if (et_cmp (od_eq hr.units) os_eq (ex_var 5) ex_int (nomark _) (fun _ _ _ h => pEq_bool h))
        (es_one (es_set (i := 1) sc_w_deepened.nd rfl (.inl rfl) (ex_tup (ea_cons (ex_ix ix_seq os_ix (ex_lst (ea_cons ex_str (ea_cons ex_str ea_nil))) (ex_bin op_mod os_mod (ex_var 4) ex_int) (fun _ _ => rfl)) (ea_cons (ex_ix ix_seq os_ix (ex_var 2) (ex_call C_w_draw (hr.mono h_w_draw) (by rfl) (ea_cons (ex_var 0) (ea_cons (ex_callB od_len os_len (by rfl) m_len (by decide +kernel) (ea_cons (ex_var 2) ea_nil)) ea_nil))) (fun _ _ => rfl)) (ea_cons (ex_var 1) ea_nil))))))
        (es_one (es_set (i := 1) sc_w_deepened.nd rfl (.inl rfl) (ex_ix ix_seq os_ix (ex_lst (ea_cons (ex_tup (ea_cons ex_str (ea_cons (ex_var 3) (ea_cons (ex_var 1) ea_nil)))) (ea_cons (ex_tup (ea_cons ex_str (ea_cons (ex_var 1) (ea_cons (ex_var 3) ea_nil)))) ea_nil))) (ex_bin op_sub os_sub (ex_var 5) ex_int) (fun _ _ => rfl))))))))))
    (es_one (es_ret (ex_var 1))))))

-- law: slots _law_script 0, _law_deck_here 1, _law_turn 2, _law_most 3, _law_kinds 4, _law_doings 5, _law_vocabulary_here 6, _law_names 7, _law_one 8, _law_other 9, _law_known 10, _law_some_here 11, _law_form_here 12, _law_first 13, _law_way 14, _law_third 15, _law_due 16, _law_found 17
abbrev s_law : Stmt := topS 44
abbrev N_law : List Str := ["_law_script", "_law_deck_here", "_law_turn", "_law_most", "_law_kinds", "_law_doings", "_law_vocabulary_here", "_law_names", "_law_one", "_law_other", "_law_known", "_law_some_here", "_law_form_here", "_law_first", "_law_way", "_law_third", "_law_due", "_law_found"]
theorem sc_law : FnScope N_law ["_law_script"] (defScope s_law) := ⟨rfl, rfl, rfl, by decide +kernel, rfl, by decide +kernel, by decide +kernel⟩
def B_law {S : Type} (F_w_draw : Fn S) (F_w_vocabulary : Fn S) (F_w_deepened : Fn S) (F_w_form : Fn S) (F_w_variants : Fn S) (F_follows : Fn S) : Sv S :=
    (sSeq (sFor (iOfA pR1 (aCons (cK (.int 5)) aNil)) (gNm 2)
    (sSeq (sAsg (cB pIx (cN pLst (aCons (cN pTup (aCons (cK (.int 3)) (aCons (cK (.int 2)) (aCons (cK (.int 2)) aNil)))) (aCons (cN pTup (aCons (cK (.int 6)) (aCons (cK (.int 6)) (aCons (cK (.int 3)) aNil)))) aNil))) (cN pInt (aCons (cB pEq (cCall 2 F_w_draw (aCons (cVar 1) (aCons (cK (.int 8)) aNil))) (cK (.int 5))) aNil))) (gTp (gC (gNm 3) (gC (gNm 4) (gC (gNm 5) gN0)))))
      (sSeq (sSet 6 (cCall 4 F_w_vocabulary (aCons (cVar 1) (aCons (cVar 3) (aCons (cVar 4) (aCons (cVar 5) aNil))))))
      (sSeq (sSet 7 (cB pIx (cVar 6) (cK (.int 0))))
      (sSeq (sSet 8 (cB pIx (cVar 7) (cCall 2 F_w_draw (aCons (cVar 1) (aCons (cN pLen (aCons (cVar 7) aNil)) aNil)))))
      (sSeq (sSet 9 (cB pIx (cVar 7) (cCall 2 F_w_draw (aCons (cVar 1) (aCons (cN pLen (aCons (cVar 7) aNil)) aNil)))))
      (sSeq (sSet 10 (cCall 3 F_w_deepened (aCons (cVar 1) (aCons (cCall 4 F_w_form (aCons (cVar 1) (aCons (cVar 6) (aCons (cN pLst aNil) (aCons (cK (.int 2)) aNil))))) (aCons (cN pLst (aCons (cK (.str "x")) (aCons (cK (.str "y1")) (aCons (cK (.str "w")) aNil)))) aNil)))))
      (sSeq (sSet 11 (cCall 3 F_w_variants (aCons (cVar 10) (aCons (cVar 8) (aCons (cVar 9) aNil)))))
      (sSeq (sSet 12 (cB pIx (cVar 11) (cCall 2 F_w_draw (aCons (cVar 1) (aCons (cN pLen (aCons (cVar 11) aNil)) aNil)))))
      (sSeq (sIf (qT (cB pNotB (cCall1 3 F_follows (aCons (cK (.str "put")) (aCons (cVar 12) (aCons (cN pTup (aCons (cN pTup (aCons (cK (.str "same")) (aCons (cVar 8) (aCons (cVar 9) aNil)))) (aCons (cVar 10) aNil))) aNil)))) (cK (.bool true))))
      (sRet (cK (.bool false)))
      sNx)
      (sSeq (sSet 13 (cN pTup (aCons (cK (.str "same")) (aCons (cVar 8) (aCons (cVar 9) aNil)))))
      (sSeq (sSet 14 (cCall 2 F_w_draw (aCons (cVar 1) (aCons (cK (.int 5)) aNil))))
      (sSeq (sIf (qT (cB pEq (cVar 14) (cK (.int 1))))
      (sSet 13 (cN pTup (aCons (cK (.str "same")) (aCons (cVar 9) (aCons (cVar 8) aNil)))))
      (sIf (qT (cB pEq (cVar 14) (cK (.int 2))))
        (sSeq (sSet 15 (cB pIx (cVar 7) (cCall 2 F_w_draw (aCons (cVar 1) (aCons (cN pLen (aCons (cVar 7) aNil)) aNil)))))
          (sSeq (sSet 11 (cCall 3 F_w_variants (aCons (cVar 12) (aCons (cVar 9) (aCons (cVar 15) aNil)))))
          (sSet 12 (cB pIx (cVar 11) (cCall 2 F_w_draw (aCons (cVar 1) (aCons (cN pLen (aCons (cVar 11) aNil)) aNil)))))))
        (sIf (qT (cB pEq (cVar 14) (cK (.int 3))))
          (sSet 12 (cCall 4 F_w_form (aCons (cVar 1) (aCons (cVar 6) (aCons (cN pLst aNil) (aCons (cK (.int 2)) aNil))))))
          (sIf (qT (cB pEq (cVar 14) (cK (.int 4))))
            (sSet 13 (cB pIx (cN pLst (aCons (cVar 10) (aCons (cN pTup (aCons (cK (.str "not")) (aCons (cVar 13) aNil))) (aCons (cN pTup (aCons (cK (.str "is")) (aCons (cVar 8) (aCons (cB pIx (cB pIx (cVar 6) (cK (.int 1))) (cK (.int 0))) aNil)))) aNil)))) (cCall 2 F_w_draw (aCons (cVar 1) (aCons (cK (.int 3)) aNil)))))
            sNx))))
      (sSeq (sSet 16 (cK (.bool false)))
      (sSeq (sIf (qT (cB pEq (cB pIx (cVar 13) (cK (.int 0))) (cK (.str "same"))))
      (sSet 16 (cB pIn (cVar 12) (cCall 3 F_w_variants (aCons (cVar 10) (aCons (cB pIx (cVar 13) (cK (.int 1))) (aCons (cB pIx (cVar 13) (cK (.int 2))) aNil))))))
      sNx)
      (sSeq (sSet 17 (cCall1 3 F_follows (aCons (cK (.str "put")) (aCons (cVar 12) (aCons (cN pTup (aCons (cVar 13) (aCons (cVar 10) aNil))) aNil)))))
      (sIf (qOr (qNot (qT (cU (pIsi "bool") (cVar 17)))) (qT (cB pNe (cVar 17) (cVar 16))))
      (sRet (cK (.bool false)))
      sNx)))))))))))))))))
    (sRet (cK (.bool true))))
theorem P_law {S : Type} {Z : Zk S} {hd : Nat → Addr → Prop} {k : Nat} {F_w_draw : Fn S} {k_w_draw : Nat} (C_w_draw : Lc.Dn P w K mg base "_law_draw" ["_law_deck_here", "_law_most"] k_w_draw (spD ⟨K, hd⟩ Z 2 F_w_draw)) (h_w_draw : k_w_draw ≤ k) {F_w_vocabulary : Fn S} {k_w_vocabulary : Nat} (C_w_vocabulary : Lc.Dn P w K mg base "_law_vocabulary" ["_law_deck_here", "_law_names", "_law_kinds", "_law_doings"] k_w_vocabulary (spD ⟨K, hd⟩ Z 4 F_w_vocabulary)) (h_w_vocabulary : k_w_vocabulary ≤ k) {F_w_deepened : Fn S} {k_w_deepened : Nat} (C_w_deepened : Lc.Dn P w K mg base "_law_deepened" ["_law_deck_here", "_law_form_here", "_law_letters"] k_w_deepened (spD ⟨K, hd⟩ Z 3 F_w_deepened)) (h_w_deepened : k_w_deepened ≤ k) {F_w_form : Fn S} {k_w_form : Nat} (C_w_form : Lc.Dn P w K mg base "_law_form" ["_law_deck_here", "_law_vocabulary_here", "_law_letters", "_law_deep"] k_w_form (spD ⟨K, hd⟩ Z 4 F_w_form)) (h_w_form : k_w_form ≤ k) {F_w_variants : Fn S} {k_w_variants : Nat} (C_w_variants : Lc.Dn P w K mg base "_law_variants" ["_law_form_here", "_law_one", "_law_other"] k_w_variants (spD ⟨K, hd⟩ Z 3 F_w_variants)) (h_w_variants : k_w_variants ≤ k) {F_follows : Fn S} {k_follows : Nat} (C_follows : Lc.Dn P w K mg base "follows" ["word", "form", "forms", "name"] k_follows (spD ⟨K, hd⟩ Z 4 F_follows)) (h_follows : k_follows ≤ k) (D_follows : Dn1 P w K mg base "follows" ["word", "form", "forms", "name"] k_follows (spD ⟨K, hd⟩ Z 4 F_follows)) (m_range : mg "range" = none) (m_int : mg "int" = none) (m_len : mg "len" = none) (m_isinstance : mg "isinstance" = none) (m_bool : mg "bool" = none) {cdv : Value} {A : Around} {outer : List Env} {s : Shared} {H : Hp} {E : XK} (hr : Room k (A.deeper (envOfC "law" (defScope s_law) s.heap.objs.size f cdv))) :
    PSs (cxOf CX0 P w K mg base N_law "law" (defScope s_law) f cdv A outer s H E).nox ((defBody s_law).drop 1) (tSt ⟨K, hd⟩ Z [] (B_law F_w_draw F_w_vocabulary F_w_deepened F_w_form F_w_variants F_follows)) := by
    unfold B_law
    exact (es_cons (es_for PassesOwn.never rfl (ei_range1 (pi_range1 (by rfl) m_range (ea_cons ex_int ea_nil))) (eg_name (i := 2) sc_law.nd rfl (.inl rfl))
    (es_cons (es_asgT (ps_asg (ex_ix ix_seq os_ix (ex_lst (ea_cons (ex_tup (ea_cons ex_int (ea_cons ex_int (ea_cons ex_int ea_nil)))) (ea_cons (ex_tup (ea_cons ex_int (ea_cons ex_int (ea_cons ex_int ea_nil)))) ea_nil))) (ex_callTy call_int1 os_int (by rfl) m_int (by decide +kernel) (ea_cons (ex_cmp (od_eq hr.units) os_eq (ex_call C_w_draw (hr.mono h_w_draw) (by rfl) (ea_cons (ex_var 1) (ea_cons ex_int ea_nil))) ex_int (nomark _)) ea_nil)) (fun _ _ => rfl)) (eg_tup rfl (egs_cons (eg_name (i := 3) sc_law.nd rfl (.inl rfl)) (egs_cons (eg_name (i := 4) sc_law.nd rfl (.inl rfl)) (egs_cons (eg_name (i := 5) sc_law.nd rfl (.inl rfl)) egs_nil))) (fun _ _ _ h => glC (fun _ _ _ h => glC (fun _ _ _ h => glC (fun _ _ _ h => gl0 h) h) h) h))))
      (es_cons (es_set (i := 6) sc_law.nd rfl (.inl rfl) (ex_call C_w_vocabulary (hr.mono h_w_vocabulary) (by rfl) (ea_cons (ex_var 1) (ea_cons (ex_var 3) (ea_cons (ex_var 4) (ea_cons (ex_var 5) ea_nil))))))
      (es_cons (es_set (i := 7) sc_law.nd rfl (.inl rfl) (ex_ix ix_seq os_ix (ex_var 6) ex_int (fun _ _ => rfl)))
      (es_cons (es_set (i := 8) sc_law.nd rfl (.inl rfl) (ex_ix ix_seq os_ix (ex_var 7) (ex_call C_w_draw (hr.mono h_w_draw) (by rfl) (ea_cons (ex_var 1) (ea_cons (ex_callB od_len os_len (by rfl) m_len (by decide +kernel) (ea_cons (ex_var 7) ea_nil)) ea_nil))) (fun _ _ => rfl)))
      (es_cons (es_set (i := 9) sc_law.nd rfl (.inl rfl) (ex_ix ix_seq os_ix (ex_var 7) (ex_call C_w_draw (hr.mono h_w_draw) (by rfl) (ea_cons (ex_var 1) (ea_cons (ex_callB od_len os_len (by rfl) m_len (by decide +kernel) (ea_cons (ex_var 7) ea_nil)) ea_nil))) (fun _ _ => rfl)))
      (es_cons (es_set (i := 10) sc_law.nd rfl (.inl rfl) (ex_call C_w_deepened (hr.mono h_w_deepened) (by rfl) (ea_cons (ex_var 1) (ea_cons (ex_call C_w_form (hr.mono h_w_form) (by rfl) (ea_cons (ex_var 1) (ea_cons (ex_var 6) (ea_cons (ex_lst ea_nil) (ea_cons ex_int ea_nil))))) (ea_cons (ex_lst (ea_cons ex_str (ea_cons ex_str (ea_cons ex_str ea_nil)))) ea_nil)))))
      (es_cons (es_set (i := 11) sc_law.nd rfl (.inl rfl) (ex_call C_w_variants (hr.mono h_w_variants) (by rfl) (ea_cons (ex_var 10) (ea_cons (ex_var 8) (ea_cons (ex_var 9) ea_nil)))))
      (es_cons (es_set (i := 12) sc_law.nd rfl (.inl rfl) (ex_ix ix_seq os_ix (ex_var 11) (ex_call C_w_draw (hr.mono h_w_draw) (by rfl) (ea_cons (ex_var 1) (ea_cons (ex_callB od_len os_len (by rfl) m_len (by decide +kernel) (ea_cons (ex_var 11) ea_nil)) ea_nil))) (fun _ _ => rfl)))
      (es_cons (es_if (et_cmp op_notBl os_notB (ex_call1 D_follows (hr.mono h_follows) (by rfl) (ea_cons ex_str (ea_cons (ex_var 12) (ea_cons (ex_tup (ea_cons (ex_tup (ea_cons ex_str (ea_cons (ex_var 8) (ea_cons (ex_var 9) ea_nil)))) (ea_cons (ex_var 10) ea_nil))) ea_nil)))) ex_bl (nomark _) (fun _ _ _ h => pNotB_bool h))
      (es_one (es_ret ex_bl))
      es_nil)
      (es_cons (es_set (i := 13) sc_law.nd rfl (.inl rfl) (ex_tup (ea_cons ex_str (ea_cons (ex_var 8) (ea_cons (ex_var 9) ea_nil)))))
      (es_cons (es_set (i := 14) sc_law.nd rfl (.inl rfl) (ex_call C_w_draw (hr.mono h_w_draw) (by rfl) (ea_cons (ex_var 1) (ea_cons ex_int ea_nil))))
      (es_cons (es_if (et_cmp (od_eq hr.units) os_eq (ex_var 14) ex_int (nomark _) (fun _ _ _ h => pEq_bool h))
      (es_one (es_set (i := 13) sc_law.nd rfl (.inl rfl) (ex_tup (ea_cons ex_str (ea_cons (ex_var 9) (ea_cons (ex_var 8) ea_nil))))))
      (es_one (es_if (et_cmp (od_eq hr.units) os_eq (ex_var 14) ex_int (nomark _) (fun _ _ _ h => pEq_bool h))
        (es_cons (es_set (i := 15) sc_law.nd rfl (.inl rfl) (ex_ix ix_seq os_ix (ex_var 7) (ex_call C_w_draw (hr.mono h_w_draw) (by rfl) (ea_cons (ex_var 1) (ea_cons (ex_callB od_len os_len (by rfl) m_len (by decide +kernel) (ea_cons (ex_var 7) ea_nil)) ea_nil))) (fun _ _ => rfl)))
          (es_cons (es_set (i := 11) sc_law.nd rfl (.inl rfl) (ex_call C_w_variants (hr.mono h_w_variants) (by rfl) (ea_cons (ex_var 12) (ea_cons (ex_var 9) (ea_cons (ex_var 15) ea_nil)))))
          (es_one (es_set (i := 12) sc_law.nd rfl (.inl rfl) (ex_ix ix_seq os_ix (ex_var 11) (ex_call C_w_draw (hr.mono h_w_draw) (by rfl) (ea_cons (ex_var 1) (ea_cons (ex_callB od_len os_len (by rfl) m_len (by decide +kernel) (ea_cons (ex_var 11) ea_nil)) ea_nil))) (fun _ _ => rfl))))))
        (es_one (es_if (et_cmp (od_eq hr.units) os_eq (ex_var 14) ex_int (nomark _) (fun _ _ _ h => pEq_bool h))
          (es_one (es_set (i := 12) sc_law.nd rfl (.inl rfl) (ex_call C_w_form (hr.mono h_w_form) (by rfl) (ea_cons (ex_var 1) (ea_cons (ex_var 6) (ea_cons (ex_lst ea_nil) (ea_cons ex_int ea_nil)))))))
          (es_one (es_if (et_cmp (od_eq hr.units) os_eq (ex_var 14) ex_int (nomark _) (fun _ _ _ h => pEq_bool h))
            (es_one (es_set (i := 13) sc_law.nd rfl (.inl rfl) (ex_ix ix_seq os_ix (ex_lst (ea_cons (ex_var 10) (ea_cons (ex_tup (ea_cons ex_str (ea_cons (ex_var 13) ea_nil))) (ea_cons (ex_tup (ea_cons ex_str (ea_cons (ex_var 8) (ea_cons (ex_ix ix_seq os_ix (ex_ix ix_seq os_ix (ex_var 6) ex_int (fun _ _ => rfl)) ex_int (fun _ _ => rfl)) ea_nil)))) ea_nil)))) (ex_call C_w_draw (hr.mono h_w_draw) (by rfl) (ea_cons (ex_var 1) (ea_cons ex_int ea_nil))) (fun _ _ => rfl))))
            es_nil)))))))
      (es_cons (es_set (i := 16) sc_law.nd rfl (.inl rfl) ex_bl)
      (es_cons (es_if (et_cmp (od_eq hr.units) os_eq (ex_ix ix_seq os_ix (ex_var 13) ex_int (fun _ _ => rfl)) ex_str (nomark _) (fun _ _ _ h => pEq_bool h))
      (es_one (es_set (i := 16) sc_law.nd rfl (.inl rfl) (ex_cmp (od_in (Room_units65 hr)) os_in (ex_var 12) (ex_call C_w_variants (hr.mono h_w_variants) (by rfl) (ea_cons (ex_var 10) (ea_cons (ex_ix ix_seq os_ix (ex_var 13) ex_int (fun _ _ => rfl)) (ea_cons (ex_ix ix_seq os_ix (ex_var 13) ex_int (fun _ _ => rfl)) ea_nil)))) (by rfl))))
      es_nil)
      (es_cons (es_set (i := 17) sc_law.nd rfl (.inl rfl) (ex_call1 D_follows (hr.mono h_follows) (by rfl) (ea_cons ex_str (ea_cons (ex_var 12) (ea_cons (ex_tup (ea_cons (ex_var 13) (ea_cons (ex_var 10) ea_nil))) ea_nil)))))
      (es_one (es_if (PW.pt (ew_or (et_not (et_val (ex_isi (by rfl) m_isinstance (ex_var 17) (pe_bltn (v := .ty "bool") (by rfl) m_bool (by decide +kernel) rfl)))) (pw_or1 (et_cmp (od_ne hr.units) os_ne (ex_var 17) (ex_var 16) (nomark _) (fun _ _ _ h => pNe_bool h)))))
      (es_one (es_ret ex_bl))
      es_nil))))))))))))))))))
    (es_one (es_ret ex_bl)))

end
end K32
set_option Elab.async false
set_option linter.all false
set_option maxRecDepth 100000
set_option maxHeartbeats 4000000
namespace Lw38
open PySem PySem.Spec PyProof.Rows L2 Dl
def t_SHAPES : List (Str × Str) := [(("is" : Str), ("tk" : Str)), (("does" : Str), ("dtt" : Str)), (("same" : Str), ("tt" : Str)), (("least" : Str), ("ss" : Str)), (("false" : Str), ("" : Str)), (("not" : Str), ("F" : Str)), (("and" : Str), ("FF" : Str)), (("or" : Str), ("FF" : Str)), (("if" : Str), ("FF" : Str)), (("every" : Str), ("xF" : Str)), (("some" : Str), ("xF" : Str))]
def t_REASONS : List (Str × Str) := [(("given" : Str), ("" : Str)), (("supposed" : Str), ("" : Str)), (("any" : Str), ("N" : Str)), (("called" : Str), ("Nk" : Str)), (("again" : Str), ("k" : Str)), (("itself" : Str), ("" : Str)), (("both" : Str), ("kk" : Str)), (("left" : Str), ("k" : Str)), (("right" : Str), ("k" : Str)), (("orleft" : Str), ("k" : Str)), (("orright" : Str), ("k" : Str)), (("then" : Str), ("kk" : Str)), (("absurd" : Str), ("kk" : Str)), (("nothing" : Str), ("k" : Str)), (("at" : Str), ("kN" : Str)), (("such" : Str), ("kN" : Str)), (("put" : Str), ("kk" : Str)), (("soif" : Str), ("k" : Str)), (("not" : Str), ("k" : Str)), (("contrary" : Str), ("k" : Str)), (("cases" : Str), ("kkk" : Str)), (("forany" : Str), ("k" : Str)), (("forsome" : Str), ("k" : Str)), (("meaning" : Str), ("k" : Str)), (("earlier" : Str), ("EK" : Str)), (("asmany" : Str), ("k" : Str)), (("one" : Str), ("k" : Str)), (("two" : Str), ("kkk" : Str)), (("someof" : Str), ("k" : Str)), (("none" : Str), ("k" : Str)), (("nomore" : Str), ("k" : Str)), (("apart" : Str), ("kk" : Str)), (("cover" : Str), ("k" : Str)), (("turned" : Str), ("k" : Str)), (("sums" : Str), ("KT" : Str)), (("by" : Str), ("B" : Str)), (("clearly" : Str), ("" : Str))]
-- is_all_of: slots text 0, signs 1, sign 2; cells signs
def B_is_all_of {S : Type}  : Sv S :=
    (sRet (cQu false (iOf asS (cVar 0)) (gNm 2) qYes (cB pIn (cVar 2) (cVar 1)) [2]))
def K_is_all_of {S : Type}  : Fn S := fnD 3 (B_is_all_of )

-- is_small: slots thing 0, least 1, most 2
def B_is_small {S : Type} (F_is_all_of : Fn S) : Sv S :=
    (sRet (cAnd (cU (pIsi "str") (cVar 0)) (cAnd (cCh pLe pLe (cVar 1) (cN pLen (aCons (cVar 0) aNil)) (cVar 2)) (cCall 2 F_is_all_of (aCons (cVar 0) (aCons (cK (.str "abcdefghijklmnopqrstuvwxyz")) aNil))))))
def K_is_small {S : Type} (F_is_all_of : Fn S) : Fn S := fnD 3 (B_is_small F_is_all_of)

-- is_name: slots thing 0
def B_is_name {S : Type} (F_is_small : Fn S) : Sv S :=
    (sSeq (sIf (qOr (qNot (qT (cU (pIsi "str") (cVar 0)))) (qNot (qT (cVar 0))))
    (sRet (cK (.bool false)))
    sNx)
    (sRet (cAnd (cB pIn (cB pIx (cVar 0) (cK (.int 0))) (cK (.str "ABCDEFGHIJKLMNOPQRSTUVWXYZ"))) (cCall 3 F_is_small (aCons (cSl pSl (cVar 0) (oOf (cK (.int 1))) oNo) (aCons (cK (.int 0)) (aCons (cK (.int 7)) aNil)))))))
def K_is_name {S : Type} (F_is_small : Fn S) : Fn S := fnD 1 (B_is_name F_is_small)

-- pieces: slots form 0, wanted 1, place 2, piece 3; cells wanted
def B_pieces {S : Type}  : Sv S :=
    (sRet (cNl (lcF (iOfA pZipS (aCons (cU (pDt t_SHAPES) (cB pIx (cVar 0) (cK (.int 0)))) (aCons (cSl pSl (cVar 0) (oOf (cK (.int 1))) oNo) aNil))) (gTp (gC (gNm 2) (gC (gNm 3) gN0))) (qT (cB pEq (cVar 2) (cVar 1))) (cVar 3) [2, 3])))
def K_pieces {S : Type}  : Fn S := fnD 4 (B_pieces )

-- parts_of: slots form 0, told 1, inner 2; own [1]
def B_w_word {S : Type} (F_w_draw : Fn S) : Sv S :=
    (sSeq (sSet 3 (cK (.str "abcdefghijklmnopqrstuvwxyz")))
    (sSeq (sSet 4 (cK (.str "")))
    (sSeq (sFor (iOfA pR1 (aCons (cB pAdd (cVar 1) (cCall 2 F_w_draw (aCons (cVar 0) (aCons (cB pAdd (cB pSub (cVar 2) (cVar 1)) (cK (.int 1))) aNil)))) aNil)) (gNm 5)
    (sSet 4 (cB pAdd (cVar 4) (cB pIx (cVar 3) (cCall 2 F_w_draw (aCons (cVar 0) (aCons (cK (.int 26)) aNil)))))))
    (sRet (cVar 4)))))
def K_w_word {S : Type} (F_w_draw : Fn S) : Fn S := fnD 6 (B_w_word F_w_draw)

-- _law_kinds: slots _law_deck_here 0, _law_many 1, _law_taken 2, _law_kinds_here 3, _law_k 4, _law_word_here 5, _law_way 6, _law_at 7, _law_one 8, _law_sign 9; cells _law_kinds_here; own [3]
def B_w_kinds {S : Type} (F_w_word : Fn S) (F_w_draw : Fn S) : Sv S :=
    (sSeq (sSet 2 (cK (.str "absurd all an and any are as at be by false if is least many more no not only or same some than")))
    (sSeq (sSet 2 (cNl (aSplit (cB pAdd (cVar 2) (cK (.str " the then there every either unless"))) (cK (.str " ")))))
    (sSeq (sOwn 3 (aN lenOk aNil))
    (sSeq (sFor (iOfA pR1 (aCons (cVar 1) aNil)) (gNm 4)
    (sSeq (sSet 5 (cCall 3 F_w_word (aCons (cVar 0) (aCons (cK (.int 2)) (aCons (cK (.int 8)) aNil)))))
      (sSeq (sSet 6 (cCall 2 F_w_draw (aCons (cVar 0) (aCons (cK (.int 3)) aNil))))
      (sSeq (sIf (qAnd (qT (cB pEq (cVar 6) (cK (.int 1)))) (qT (cB pNe (cVar 3) (cN pLst aNil))))
      (sSet 5 (cFl (cSl pSl (cB pAdd (cB pIx (cVar 3) (cK (.int 0))) (cVar 5)) oNo (oOf (cK (.int 8))))))
      sNx)
      (sSeq (sIf (qAnd (qT (cB pEq (cVar 6) (cK (.int 2)))) (qT (cB pNe (cVar 3) (cN pLst aNil))))
      (sSeq (sSet 7 (cFl (cCall 2 F_w_draw (aCons (cVar 0) (aCons (cN pLen (aCons (cB pIx (cVar 3) (cK (.int 0))) aNil)) aNil)))))
        (sSet 5 (cFl (cB pAdd (cB pAdd (cSl pSl (cB pIx (cVar 3) (cK (.int 0))) oNo (oOf (cVar 7))) (cB pIx (cVar 5) (cK (.int 0)))) (cSl pSl (cB pIx (cVar 3) (cK (.int 0))) (oOf (cB pAdd (cVar 7) (cK (.int 1)))) oNo)))))
      sNx)
      (sSeq (sIf (qOr (qT (cB pIn (cVar 5) (cVar 2))) (qT (cB pIn (cVar 5) (cVar 3))))
      (sSet 5 (cFl (cB pIx (cNl (lcF (iOf asL (cNl (lcF (iOf asS (cK (.str "abcdefghijklmnopqrst"))) (gNm 9) qYes (cB pAdd (cK (.str "q")) (cVar 9)) [9]))) (gNm 8) (qT (cB pNotIn (cVar 8) (cVar 3))) (cVar 8) [8])) (cK (.int 0)))))
      sNx)
      (sApp 3 (cVar 5))))))))
    (sRet (cVar 3))))))
def K_w_kinds {S : Type} (F_w_word : Fn S) (F_w_draw : Fn S) : Fn S := fnD 10 (B_w_kinds F_w_word F_w_draw)

-- _law_names: slots _law_deck_here 0, _law_many 1, _law_names_here 2, _law_k 3, _law_name 4, _law_one 5; cells _law_names_here; own [2]
def B_w_names {S : Type} (F_w_draw : Fn S) (F_w_word : Fn S) : Sv S :=
    (sSeq (sOwn 2 (aN lenOk aNil))
    (sSeq (sFor (iOfA pR1 (aCons (cVar 1) aNil)) (gNm 3)
    (sSeq (sSet 4 (cB pAdd (cB pIx (cK (.str "ABCDEFGHIJKLMNOPQRSTUVWXYZ")) (cCall 2 F_w_draw (aCons (cVar 0) (aCons (cK (.int 26)) aNil)))) (cCall 3 F_w_word (aCons (cVar 0) (aCons (cK (.int 0)) (aCons (cK (.int 7)) aNil))))))
      (sSeq (sIf (qT (cB pIn (cVar 4) (cVar 2)))
      (sSet 4 (cFl (cB pIx (cNl (lcF (iOf asL (cN pLst (aCons (cK (.str "Qa")) (aCons (cK (.str "Qb")) (aCons (cK (.str "Qc")) (aCons (cK (.str "Qd")) (aCons (cK (.str "Qe")) (aCons (cK (.str "Qf")) (aCons (cK (.str "Qg")) aNil))))))))) (gNm 5) (qT (cB pNotIn (cVar 5) (cVar 2))) (cVar 5) [5])) (cK (.int 0)))))
      sNx)
      (sApp 2 (cVar 4)))))
    (sRet (cVar 2))))
def K_w_names {S : Type} (F_w_draw : Fn S) (F_w_word : Fn S) : Fn S := fnD 6 (B_w_names F_w_draw F_w_word)

-- _law_letter: slots _law_deck_here 0
def B_w_put {S : Type} (F_w_put : Fn S) : Sv S :=
    (sSeq (sIf (qT (cB pEq (cB pIx (cVar 0) (cK (.int 0))) (cK (.str "is"))))
    (sRet (cN pTup (aCons (cK (.str "is")) (aCons (cB pIx (cN pLst (aCons (cB pIx (cVar 0) (cK (.int 1))) (aCons (cVar 2) aNil))) (cN pInt (aCons (cB pEq (cB pIx (cVar 0) (cK (.int 1))) (cVar 1)) aNil))) (aCons (cB pIx (cVar 0) (cK (.int 2))) aNil)))))
    sNx)
    (sSeq (sIf (qT (cB pEq (cB pIx (cVar 0) (cK (.int 0))) (cK (.str "least"))))
    (sRet (cVar 0))
    sNx)
    (sRet (cB pAdd (cSl pSl (cVar 0) oNo (oOf (cK (.int 1)))) (cN pTuple (aCons (cNl (lcF (iOf asT (cSl pSl (cVar 0) (oOf (cK (.int 1))) oNo)) (gNm 3) qYes (cCall 3 F_w_put (aCons (cVar 3) (aCons (cVar 1) (aCons (cVar 2) aNil)))) [3])) aNil))))))
def K_w_put {S : Type} (F_w_put : Fn S) : Fn S := fnD 4 (B_w_put F_w_put)

-- _law_bent_least: slots _law_form 0, _law_deck_here 1, _law_kinds_here 2, _law_way 3, _law_at 4, _law_parts 5, _law_number 6, _law_kind 7, _law_times 8
end Lw38
set_option Elab.async false
set_option linter.all false
set_option maxRecDepth 100000
set_option maxHeartbeats 4000000
namespace Lw41
open PySem PySem.Spec PyProof.Rows L2 Dl
-- sum_of: slots totals 0, times 1, number 2, parts 3, more 4, kind 5, often 6; cells times
def B_w_word {S : Type} (F_w_draw : Fn S) : Sv S :=
    (sSeq (sSet 3 (cK (.str "abcdefghijklmnopqrstuvwxyz")))
    (sSeq (sSet 4 (cK (.str "")))
    (sSeq (sFor (iOfA pR1 (aCons (cB pAdd (cVar 1) (cCall 2 F_w_draw (aCons (cVar 0) (aCons (cB pAdd (cB pSub (cVar 2) (cVar 1)) (cK (.int 1))) aNil)))) aNil)) (gNm 5)
    (sSet 4 (cB pAdd (cVar 4) (cB pIx (cVar 3) (cCall 2 F_w_draw (aCons (cVar 0) (aCons (cK (.int 26)) aNil)))))))
    (sRet (cVar 4)))))
def K_w_word {S : Type} (F_w_draw : Fn S) : Fn S := fnD 6 (B_w_word F_w_draw)

-- _law_kinds: slots _law_deck_here 0, _law_many 1, _law_taken 2, _law_kinds_here 3, _law_k 4, _law_word_here 5, _law_way 6, _law_at 7, _law_one 8, _law_sign 9; cells _law_kinds_here; own [3]
def B_w_kinds {S : Type} (F_w_word : Fn S) (F_w_draw : Fn S) : Sv S :=
    (sSeq (sSet 2 (cK (.str "absurd all an and any are as at be by false if is least many more no not only or same some than")))
    (sSeq (sSet 2 (cNl (aSplit (cB pAdd (cVar 2) (cK (.str " the then there every either unless"))) (cK (.str " ")))))
    (sSeq (sOwn 3 (aN lenOk aNil))
    (sSeq (sFor (iOfA pR1 (aCons (cVar 1) aNil)) (gNm 4)
    (sSeq (sSet 5 (cCall 3 F_w_word (aCons (cVar 0) (aCons (cK (.int 2)) (aCons (cK (.int 8)) aNil)))))
      (sSeq (sSet 6 (cCall 2 F_w_draw (aCons (cVar 0) (aCons (cK (.int 3)) aNil))))
      (sSeq (sIf (qAnd (qT (cB pEq (cVar 6) (cK (.int 1)))) (qT (cB pNe (cVar 3) (cN pLst aNil))))
      (sSet 5 (cFl (cSl pSl (cB pAdd (cB pIx (cVar 3) (cK (.int 0))) (cVar 5)) oNo (oOf (cK (.int 8))))))
      sNx)
      (sSeq (sIf (qAnd (qT (cB pEq (cVar 6) (cK (.int 2)))) (qT (cB pNe (cVar 3) (cN pLst aNil))))
      (sSeq (sSet 7 (cFl (cCall 2 F_w_draw (aCons (cVar 0) (aCons (cN pLen (aCons (cB pIx (cVar 3) (cK (.int 0))) aNil)) aNil)))))
        (sSet 5 (cFl (cB pAdd (cB pAdd (cSl pSl (cB pIx (cVar 3) (cK (.int 0))) oNo (oOf (cVar 7))) (cB pIx (cVar 5) (cK (.int 0)))) (cSl pSl (cB pIx (cVar 3) (cK (.int 0))) (oOf (cB pAdd (cVar 7) (cK (.int 1)))) oNo)))))
      sNx)
      (sSeq (sIf (qOr (qT (cB pIn (cVar 5) (cVar 2))) (qT (cB pIn (cVar 5) (cVar 3))))
      (sSet 5 (cFl (cB pIx (cNl (lcF (iOf asL (cNl (lcF (iOf asS (cK (.str "abcdefghijklmnopqrst"))) (gNm 9) qYes (cB pAdd (cK (.str "q")) (cVar 9)) [9]))) (gNm 8) (qT (cB pNotIn (cVar 8) (cVar 3))) (cVar 8) [8])) (cK (.int 0)))))
      sNx)
      (sApp 3 (cVar 5))))))))
    (sRet (cVar 3))))))
def K_w_kinds {S : Type} (F_w_word : Fn S) (F_w_draw : Fn S) : Fn S := fnD 10 (B_w_kinds F_w_word F_w_draw)

-- _law_times: slots _law_deck_here 0
def B_w_sum {S : Type} (F_w_draw : Fn S) (F_w_times : Fn S) : Sv S :=
    (sSeq (sOwn 2 (aN lenOk aNil))
    (sSeq (sFor (iOf asL (cNl (aN pSorted (aCons (cVar 1) aNil)))) (gNm 3)
    (sIf (qT (cB pEq (cCall 2 F_w_draw (aCons (cVar 0) (aCons (cK (.int 2)) aNil))) (cK (.int 1))))
      (sApp 2 (cN pTup (aCons (cVar 3) (aCons (cCall 1 F_w_times (aCons (cVar 0) aNil)) aNil))))
      sNx))
    (sRet (cN pTup (aCons (cN pTuple (aCons (cVar 2) aNil)) (aCons (cCall 2 F_w_draw (aCons (cVar 0) (aCons (cB pIx (cN pLst (aCons (cK (.int 4)) (aCons (cB pPow (cK (.int 10)) (cK (.int 8))) aNil))) (cCall 2 F_w_draw (aCons (cVar 0) (aCons (cK (.int 2)) aNil)))) aNil))) aNil))))))
def K_w_sum {S : Type} (F_w_draw : Fn S) (F_w_times : Fn S) : Fn S := fnD 4 (B_w_sum F_w_draw F_w_times)

-- _law_whole: slots _law_found 0
end Lw41
set_option Elab.async false
set_option linter.all false
set_option maxRecDepth 100000
set_option maxHeartbeats 4000000
namespace Lc
open PySem PySem.W PySem.Calls PyProof.Rows PyProof.V PySem.Spec L2 RT
/-! ### list(reversed(x)), x a list: a new list -/
section
variable {prog : Program} {w : World} {A : Around} {E : Value → Shared → Prop} {s : Shared}
end
section
variable {X : Cx}
end
end Lc
set_option Elab.async false
set_option linter.all false
set_option maxRecDepth 100000
set_option maxHeartbeats 4000000
/-! the deck of the laws of words and forms: cells taken from the end -/
namespace Dl
open PySem PySem.Spec PyProof.Rows L2
def mixZ (a b : Int) : Int := ((a % 2147483629 + 7919 * b + 1) * 48271) % 2147483647
def mixY (a b : Int) : Int := (mixZ a b * mixZ a b + 69621 * b + 7) % 2147483587
def mixF (a b : Int) : Int := mixY a b * 2147483563 + (mixY a b * mixY a b + 16807 * mixY a b + b) % 2147483563
def takeF (s : DS) (m : Int) : Int × DS := match s.1.getLast? with
  | none => (mixF s.2.1 (s.2.2 + 1) % m, ([], s.2.1, s.2.2 + 1))
  | some x => if x < 10 ^ 18 then (mixF x (s.2.2 + 1) % m, (s.1.dropLast, s.2.1, s.2.2 + 1)) else
      if 0 < x / m then (x % m, (s.1.dropLast ++ [x / m], s.2.1, s.2.2 + 1)) else (x % m, (s.1.dropLast, s.2.1, s.2.2 + 1))
theorem takeF_range (s : DS) {m : Int} (hm : 0 < m) : 0 ≤ (takeF s m).1 ∧ (takeF s m).1 < m := by
  have fin : ∀ r : Int, 0 ≤ r % m ∧ r % m < m := fun r => ⟨Int.emod_nonneg _ (by omega), Int.emod_lt_of_pos _ hm⟩
  unfold takeF
  split
  · exact fin _
  · split
    · exact fin _
    · split
      · exact fin _
      · exact fin _
/-- a number below m -/
def Ftake : Fn DS := fun ds s => match ds with
  | [.dict [(.int 0, .none)], .int m] => if 0 < m ∧ m < 1073741824 then some (.int (takeF s m).1, (takeF s m).2) else none
  | _ => none
theorem ftake {s : DS} {m : Int} (h : 0 < m) (h2 : m < 1073741824) : Ftake [hnd 0, .int m] s = some (.int (takeF s m).1, (takeF s m).2) := by
  show (if 0 < m ∧ m < 1073741824 then some (PyData.int (takeF s m).1, (takeF s m).2) else none) = _
  rw [if_pos ⟨h, h2⟩]
end Dl
set_option Elab.async false
set_option linter.all false
set_option maxRecDepth 100000
set_option maxHeartbeats 4000000
namespace Lw01
open PySem PySem.Spec PyProof.Rows L2 Dl
def barW : List Str := ["absurd", "all", "an", "and", "any", "are", "as", "at", "be", "by", "false", "if", "is", "least", "many", "more", "no", "not", "only", "or", "same", "some", "than", "the", "then", "there", "every", "either", "unless"]
def B_is_all_of {S : Type}  : Sv S :=
    (sRet (cQu false (iOf asS (cVar 0)) (gNm 2) qYes (cB pIn (cVar 2) (cVar 1)) [2]))
def K_is_all_of {S : Type}  : Fn S := fnD 3 (B_is_all_of )

-- is_small: slots thing 0, least 1, most 2
def B_is_small {S : Type} (F_is_all_of : Fn S) : Sv S :=
    (sRet (cAnd (cU (pIsi "str") (cVar 0)) (cAnd (cCh pLe pLe (cVar 1) (cN pLen (aCons (cVar 0) aNil)) (cVar 2)) (cCall 2 F_is_all_of (aCons (cVar 0) (aCons (cK (.str "abcdefghijklmnopqrstuvwxyz")) aNil))))))
def K_is_small {S : Type} (F_is_all_of : Fn S) : Fn S := fnD 3 (B_is_small F_is_all_of)

-- is_name: slots thing 0
def B_is_name {S : Type} (F_is_small : Fn S) : Sv S :=
    (sSeq (sIf (qOr (qNot (qT (cU (pIsi "str") (cVar 0)))) (qNot (qT (cVar 0))))
    (sRet (cK (.bool false)))
    sNx)
    (sRet (cAnd (cB pIn (cB pIx (cVar 0) (cK (.int 0))) (cK (.str "ABCDEFGHIJKLMNOPQRSTUVWXYZ"))) (cCall 3 F_is_small (aCons (cSl pSl (cVar 0) (oOf (cK (.int 1))) oNo) (aCons (cK (.int 0)) (aCons (cK (.int 7)) aNil)))))))
def K_is_name {S : Type} (F_is_small : Fn S) : Fn S := fnD 1 (B_is_name F_is_small)

-- is_kind: slots thing 0
def B_w_tail {S : Type} (F_w_take : Fn S) : Sv S :=
    (sRet (cB pJoin (cK (.str "")) (cNl (lcF (iOfA pR1 (aCons (cVar 1) aNil)) (gNm 2) qYes (cB pIx (cK (.str "abcdefghijklmnopqrstuvwxyz")) (cCall 2 F_w_take (aCons (cVar 0) (aCons (cK (.int 26)) aNil)))) [2]))))
def K_w_tail {S : Type} (F_w_take : Fn S) : Fn S := fnD 3 (B_w_tail F_w_take)

-- _law_names: slots _law_deck_here 0, _law_many 1, _law_great 2, _law_first 3, _law_word 4, _law_k 5; cells _law_deck_here, _law_first, _law_great, _law_word
def B_w_names {S : Type} (F_w_take : Fn S) (F_w_tail : Fn S) : Sv S :=
    (sSeq (sSet 2 (cK (.str "ABCDEFGHIJKLMNOPQRSTUVWXYZ")))
    (sSeq (sSet 3 (cCall 2 F_w_take (aCons (cVar 0) (aCons (cK (.int 26)) aNil))))
    (sSeq (sIf (qT (cB pEq (cCall 2 F_w_take (aCons (cVar 0) (aCons (cK (.int 3)) aNil))) (cK (.int 0))))
    (sSeq (sSet 4 (cB pAdd (cB pIx (cVar 2) (cVar 3)) (cCall 2 F_w_tail (aCons (cVar 0) (aCons (cK (.int 7)) aNil)))))
      (sRet (cNl (lcF (iOfA pR1 (aCons (cVar 1) aNil)) (gNm 5) qYes (cSl pSl (cVar 4) oNo (oOf (cB pAdd (cK (.int 1)) (cVar 5)))) [5]))))
    sNx)
    (sRet (cNl (lcF (iOfA pR1 (aCons (cVar 1) aNil)) (gNm 5) qYes (cB pAdd (cB pIx (cVar 2) (cB pMod (cB pAdd (cVar 3) (cVar 5)) (cK (.int 26)))) (cCall 2 F_w_tail (aCons (cVar 0) (aCons (cCall 2 F_w_take (aCons (cVar 0) (aCons (cK (.int 8)) aNil))) aNil)))) [5]))))))
def K_w_names {S : Type} (F_w_take : Fn S) (F_w_tail : Fn S) : Fn S := fnD 6 (B_w_names F_w_take F_w_tail)

-- _law_words: slots _law_deck_here 0, _law_many 1, _law_small 2, _law_first 3, _law_word 4, _law_found 5, _law_k 6; cells _law_word; own [5]
def B_w_words {S : Type} (F_w_take : Fn S) (F_w_tail : Fn S) : Sv S :=
    (sSeq (sSet 2 (cK (.str "abcdefghijklmnopqrstuvwxyz")))
    (sSeq (sSet 3 (cCall 2 F_w_take (aCons (cVar 0) (aCons (cK (.int 26)) aNil))))
    (sSeq (sIf (qAnd (qT (cB pEq (cCall 2 F_w_take (aCons (cVar 0) (aCons (cK (.int 3)) aNil))) (cK (.int 0)))) (qT (cB pLt (cVar 1) (cK (.int 7)))))
    (sSeq (sSet 4 (cB pAdd (cB pAdd (cB pIx (cVar 2) (cVar 3)) (cB pIx (cK (.str "qzkj")) (cCall 2 F_w_take (aCons (cVar 0) (aCons (cK (.int 4)) aNil))))) (cCall 2 F_w_tail (aCons (cVar 0) (aCons (cK (.int 6)) aNil)))))
      (sRet (cNl (lcF (iOfA pR1 (aCons (cVar 1) aNil)) (gNm 6) qYes (cSl pSl (cVar 4) oNo (oOf (cB pAdd (cK (.int 2)) (cVar 6)))) [6]))))
    sNx)
    (sSeq (sOwn 5 (aN lenOk aNil))
    (sSeq (sFor (iOfA pR1 (aCons (cVar 1) aNil)) (gNm 6)
    (sApp 5 (cB pAdd (cB pAdd (cB pIx (cVar 2) (cB pMod (cB pAdd (cVar 3) (cVar 6)) (cK (.int 26)))) (cB pIx (cK (.str "qzkj")) (cCall 2 F_w_take (aCons (cVar 0) (aCons (cK (.int 4)) aNil))))) (cCall 2 F_w_tail (aCons (cVar 0) (aCons (cCall 2 F_w_take (aCons (cVar 0) (aCons (cK (.int 7)) aNil))) aNil))))))
    (sRet (cVar 5)))))))
def K_w_words {S : Type} (F_w_take : Fn S) (F_w_tail : Fn S) : Fn S := fnD 7 (B_w_words F_w_take F_w_tail)

-- _law_vocabulary: slots _law_deck_here 0, _law_most 1, _law_names_here 2, _law_lots 3, _law_words_here 4, _law_turn 5
def B_w_vocabulary {S : Type} (F_w_take : Fn S) (F_w_names : Fn S) (F_w_words : Fn S) : Sv S :=
    (sSeq (sSet 1 (cB pIx (cN pLst (aCons (cN pLst (aCons (cK (.int 3)) (aCons (cK (.int 4)) (aCons (cK (.int 2)) aNil)))) (aCons (cN pLst (aCons (cK (.int 6)) (aCons (cK (.int 6)) (aCons (cK (.int 3)) aNil)))) aNil))) (cN pInt (aCons (cB pEq (cCall 2 F_w_take (aCons (cVar 0) (aCons (cK (.int 8)) aNil))) (cK (.int 7))) aNil))))
    (sSeq (sSet 2 (cNl (aN pSorted (aCons (cCall 2 F_w_names (aCons (cVar 0) (aCons (cCall 2 F_w_take (aCons (cVar 0) (aCons (cB pAdd (cB pIx (cVar 1) (cK (.int 0))) (cK (.int 1))) aNil))) aNil))) aNil))))
    (sSeq (sSet 3 (cCall 2 F_w_take (aCons (cVar 0) (aCons (cB pAdd (cB pIx (cVar 1) (cK (.int 1))) (cK (.int 1))) aNil))))
    (sSeq (sSet 4 (cCall 2 F_w_words (aCons (cVar 0) (aCons (cB pAdd (cVar 3) (cCall 2 F_w_take (aCons (cVar 0) (aCons (cB pAdd (cB pIx (cVar 1) (cK (.int 2))) (cK (.int 1))) aNil)))) aNil))))
    (sSeq (sSet 5 (cCall 2 F_w_take (aCons (cVar 0) (aCons (cB pAdd (cN pLen (aCons (cVar 4) aNil)) (cK (.int 1))) aNil))))
    (sSeq (sSet 4 (cB pAdd (cSl pSl (cVar 4) (oOf (cVar 5)) oNo) (cSl pSl (cVar 4) oNo (oOf (cVar 5)))))
    (sRet (cN pTup (aCons (cN pTuple (aCons (cVar 2) aNil)) (aCons (cN pTuple (aCons (cNl (aN pSorted (aCons (cSl pSl (cVar 4) oNo (oOf (cVar 3))) aNil))) aNil)) (aCons (cN pTuple (aCons (cNl (aN pSorted (aCons (cSl pSl (cVar 4) (oOf (cVar 3)) oNo) aNil))) aNil)) aNil)))))))))))
def K_w_vocabulary {S : Type} (F_w_take : Fn S) (F_w_names : Fn S) (F_w_words : Fn S) : Fn S := fnD 6 (B_w_vocabulary F_w_take F_w_names F_w_words)

-- _law_all_in: slots _law_text 0, _law_signs 1, _law_sign 2; cells _law_signs
end Lw01
set_option Elab.async false
set_option linter.all false
set_option maxRecDepth 100000
set_option maxHeartbeats 1000000
/-! small facts for the mathematics of a law -/
namespace Mx
open PySem PySem.Spec L2 Dl
theorem szL {n : Nat} (h : n ≤ 100000) : n ≤ sizeLine := Nat.le_trans h (by decide)
theorem szl {n : Nat} (h : n < 100000) : n < sizeLine := Nat.lt_of_lt_of_le h (by decide)
theorem rng_len (lo : Int) (n : Nat) : (rngD lo n).length = n := by simp [rngD]
theorem rng_get {n j : Nat} {lo : Int} {d : D} (h : (rngD lo n)[j]? = some d) : j < n ∧ d = .int (lo + j) := by
  unfold rngD at h
  rw [List.getElem?_map] at h
  by_cases hj : j < n
  · rw [List.getElem?_range hj] at h
    cases h
    exact ⟨hj, rfl⟩
  · rw [List.getElem?_eq_none (by simpa using hj)] at h
    cases h
theorem pr1 {j : Int} (h : -(2 ^ 62) ≤ j) (h2 : j < 2 ^ 62) : pR1 [.int j] = some (rngD 0 j.toNat) := by simp only [pR1]; rw [if_pos ⟨h, h2⟩]
section
variable {S : Type} {s : S}
theorem ok_eq {o : Option (D × S)} {d : D} (h : Ok o fun a b => a = d ∧ b = s) : o = some (d, s) := by
  obtain ⟨a, b, e, rfl, rfl⟩ := h
  exact e
theorem ok_eqL {o : Option (List D × S)} {d : List D} (h : Ok o fun a b => a = d ∧ b = s) : o = some (d, s) := by
  obtain ⟨a, b, e, rfl, rfl⟩ := h
  exact e
end
theorem k_keep {S : Type} {ds : List D} {q : Et S} {f : Ev S} {fi : Ea S} {t : Tg} {vs : List Nat} {ρ : Rho} {s : S} (c : D → Bool) (g : D → D) (hl : ds.length ≤ sizeLine) (hi : fi ρ s = some (ds, s))
    (hq : ∀ d ∈ ds, ∃ ρ1, t d (wipeR ρ vs) = some ρ1 ∧ q ρ1 s = some (c d, s) ∧ (c d = true → f ρ1 s = some (g d, s))) : lcF fi t q f vs ρ s = some ((ds.filter c).map g, s) := by
  unfold lcF
  rw [hi]
  show (if ds.length ≤ sizeLine then compF t q f (wipeR ρ vs) ds s else none) = _
  rw [if_pos hl]
  clear hl hi
  induction ds with
  | nil => rfl
  | cons d ds ih =>
    obtain ⟨ρ1, h1, h2, h3⟩ := hq d List.mem_cons_self
    have ih := ih fun x hx => hq x (List.mem_cons_of_mem _ hx)
    unfold compF
    rw [h1]
    show bnd (q ρ1 s) _ = _
    rw [h2]
    cases hc : c d with
    | false =>
      rw [List.filter_cons_of_neg (by rw [hc]; decide)]
      exact ih
    | true =>
      rw [List.filter_cons_of_pos hc, List.map_cons]
      show bnd (f ρ1 s) _ = _
      rw [h3 hc]
      show bnd (compF t q f (wipeR ρ vs) ds s) _ = _
      rw [ih]
      rfl
theorem mem_strs (w : Str) (ns : List Str) : memD (.str w) (ns.map .str) = some (decide (w ∈ ns)) := by
  unfold memD
  rw [if_pos ⟨rfl, by rw [List.all_map]; exact List.all_eq_true.mpr fun _ _ => rfl⟩]
  congr 1
  rw [List.any_map, Bool.eq_iff_iff, List.any_eq_true, decide_eq_true_eq]
  constructor
  · rintro ⟨x, hx, e⟩
    have e : decide (x = w) = true := e
    rw [← of_decide_eq_true e]
    exact hx
  · intro h
    exact ⟨w, h, decide_eq_true rfl⟩
theorem in_strs (w : Str) (ns : List Str) : pIn (.str w) (.tuple (ns.map .str)) = some (.bool (decide (w ∈ ns))) := by
  simp only [pIn, inD, mem_strs, Option.map_some]
theorem in_strsL (w : Str) (ns : List Str) : pIn (.str w) (.list (ns.map .str)) = some (.bool (decide (w ∈ ns))) := by
  simp only [pIn, inD, mem_strs, Option.map_some]
theorem notIn_strsL (w : Str) (ns : List Str) : pNotIn (.str w) (.list (ns.map .str)) = some (.bool (!decide (w ∈ ns))) := by
  simp only [pNotIn, inD, mem_strs, Option.map_some]
theorem cps_inj {a b : Str} (h : a.cps = b.cps) : a = b := by
  cases a
  cases b
  cases h
  rfl
theorem cpl_inj {a b : Str} (h : a.cps.toList = b.cps.toList) : a = b := cps_inj (Array.toList_inj.mp h)
theorem v_slT {ds : List D} {lo hi : Option Int} : pSl (.tuple ds) lo hi = some (.tuple (cutD ds lo hi)) := rfl
theorem v_slL {ds : List D} {lo hi : Option Int} : pSl (.list ds) lo hi = some (.list (cutD ds lo hi)) := rfl
theorem v_slS {z : Str} {lo hi : Option Int} (h : z.length ≤ sizeLine) : pSl (.str z) lo hi = some (.str (cutS z lo hi)) := by simp only [pSl]; rw [if_pos h]
theorem cutD_to (xs : List D) (k : Nat) : cutD xs none (some (k : Int)) = xs.take k := by
  unfold cutD
  rw [HT.sIx_none, HT.sIx_nat, List.drop_zero, Nat.sub_zero]
  by_cases h : k ≤ xs.length
  · rw [Nat.min_eq_left h]
  · rw [Nat.min_eq_right (by omega), List.take_length, List.take_of_length_le (by omega)]
theorem cutD_from (xs : List D) (k : Nat) : cutD xs (some (k : Int)) none = xs.drop k := by
  unfold cutD
  rw [HT.sIx_nat, HT.sIx_none]
  by_cases h : k ≤ xs.length
  · rw [Nat.min_eq_left h, List.take_of_length_le (by rw [List.length_drop]; exact Nat.le_refl _)]
  · rw [Nat.min_eq_right (by omega), Nat.sub_self, List.take_zero, List.drop_of_length_le (by omega)]
theorem lay_strs : ∀ ns : List Str, (∀ n ∈ ns, PyData.strOk n = true) → PyData.canLayAll0 (ns.map .str) = true
  | [], _ => by simp [PyData.canLayAll0]
  | n :: ns, h => by simp [PyData.canLayAll0, PyData.canLay0, lay_strs ns (fun x hx => h x (List.mem_cons_of_mem _ hx)), h n List.mem_cons_self]
theorem dep_strs : ∀ ns : List Str, PyData.depthAll (ns.map .str) = 0
  | [] => by simp [PyData.depthAll]
  | n :: ns => by simp [PyData.depthAll, PyData.depth, dep_strs ns]
end Mx
set_option Elab.async false
set_option linter.all false
set_option maxRecDepth 100000
set_option maxHeartbeats 1000000
namespace Lw01
open PySem PySem.Spec L2 Dl Mx Ds
section
variable {S : Type} {s : S}
/-! ### the program's functions, as equations -/
def inAll (l : List Nat) (b : Str) : Bool := l.all fun c => decide (c ∈ b.cps.toList)
def sgD (c : Nat) : D := .str ⟨#[c]⟩
def smallB (lo hi : Int) : D → Bool
  | .str z => decide (lo ≤ (z.length : Int)) && (decide ((z.length : Int) ≤ hi) && inAll z.cps.toList "abcdefghijklmnopqrstuvwxyz")
  | _ => false
def nameL : List Nat → Bool
  | [] => false
  | c :: r => decide (c ∈ (Str.ofString "ABCDEFGHIJKLMNOPQRSTUVWXYZ").cps.toList) && (decide (r.length ≤ 7) && inAll r "abcdefghijklmnopqrstuvwxyz")
def nameB : D → Bool
  | .str z => nameL z.cps.toList
  | _ => false
theorem nameB_str (z : Str) : nameB (.str z) = nameL z.cps.toList := rfl
theorem smallB_str (lo hi : Int) (z : Str) : smallB lo hi (.str z) = (decide (lo ≤ (z.length : Int)) && (decide ((z.length : Int) ≤ hi) && inAll z.cps.toList "abcdefghijklmnopqrstuvwxyz")) := rfl
def kindB : D → Bool
  | .str z => smallB 2 8 (.str z) && !decide (z ∈ barW)
  | _ => false
theorem kindB_str (z : Str) : kindB (.str z) = (smallB 2 8 (.str z) && !decide (z ∈ barW)) := rfl
/-! rows -/
def txt : D → Str
  | .str z => z
  | _ => Str.empty
def ltS (a b : Str) : Bool := decide (a.cps.toList < b.cps.toList)
def risS : List Str → Bool
  | a :: b :: r => ltS a b && risS (b :: r)
  | _ => true
theorem strs_of {p : D → Bool} (hp : ∀ d, p d = true → d = .str (txt d)) {ds : List D} (h : ds.all p = true) : ds = (ds.map txt).map .str := by
  induction ds with
  | nil => rfl
  | cons d ds ih =>
    rw [List.all_cons, Bool.and_eq_true] at h
    rw [List.map_cons, List.map_cons, ← hp d h.1, ← ih h.2]
theorem dStrs_map : ∀ xs : List Str, dStrs (xs.map .str) = some xs
  | [] => rfl
  | x :: xs => by simp [dStrs, dStrs_map xs]
end
end Lw01
set_option Elab.async false
set_option linter.all false
set_option maxRecDepth 100000
set_option maxHeartbeats 1000000
namespace Lw01
open PySem PySem.Spec L2 Dl Mx Ds
/-! ### rising rows -/
theorem ltS_trans {a b c : Str} (h : ltS a b = true) (g : ltS b c = true) : ltS a c = true := by
  unfold ltS at *
  exact decide_eq_true (List.lt_trans (of_decide_eq_true h) (of_decide_eq_true g))
theorem lt_of_le {a b : Str} (h : leS a b = true) (n : a ≠ b) : ltS a b = true := by
  cases e : ltS a b with
  | true => rfl
  | false =>
    have : leS b a = true := by
      unfold leS
      unfold ltS at e
      rw [e]
      rfl
    exact absurd (leS_anti h this) n
theorem ris_pw : ∀ {xs : List Str}, risS xs = true ↔ xs.Pairwise fun a b => ltS a b = true
  | [] => by simp [risS]
  | [a] => by simp [risS]
  | a :: b :: r => by
    have ih := ris_pw (xs := b :: r)
    unfold risS
    rw [Bool.and_eq_true, ih, List.pairwise_cons (a := a) (l := b :: r)]
    constructor
    · rintro ⟨h1, h2⟩
      refine ⟨fun x hx => ?_, h2⟩
      rcases List.mem_cons.mp hx with rfl | hx
      · exact h1
      · exact ltS_trans h1 ((List.pairwise_cons.mp h2).1 x hx)
    · rintro ⟨h1, h2⟩
      exact ⟨h1 b List.mem_cons_self, h2⟩
theorem pw_le_lt {xs : List Str} (h : xs.Pairwise fun a b => leS a b = true) (nd : xs.Nodup) : xs.Pairwise fun a b => ltS a b = true := by
  induction xs with
  | nil => exact List.Pairwise.nil
  | cons a xs ih =>
    obtain ⟨h1, h2⟩ := List.pairwise_cons.mp h
    obtain ⟨n1, n2⟩ := List.nodup_cons.mp nd
    exact List.pairwise_cons.mpr ⟨fun b hb => lt_of_le (h1 b hb) fun e => n1 (e ▸ hb), ih h2 n2⟩
theorem ris_sort {xs : List Str} (nd : xs.Nodup) : risS (sortS xs) = true := ris_pw.mpr (pw_le_lt (sortS_pw xs) ((sortS_perm xs).nodup_iff.mpr nd))
/-! ### what the law looks at -/
section
variable {S : Type} {s : S}
theorem nameL_cons (c : Nat) (r : List Nat) : nameL (c :: r) = (decide (c ∈ (Str.ofString "ABCDEFGHIJKLMNOPQRSTUVWXYZ").cps.toList) && (decide (r.length ≤ 7) && inAll r "abcdefghijklmnopqrstuvwxyz")) := rfl
/-! the law's own looking -/
end
end Lw01
set_option Elab.async false
set_option linter.all false
set_option maxRecDepth 100000
set_option maxHeartbeats 1000000
namespace Lw01
open PySem PySem.Spec L2 Dl Mx Ds
section
variable {S : Type} {s : S}
end
end Lw01
set_option Elab.async false
set_option linter.all false
set_option maxRecDepth 100000
set_option maxHeartbeats 1000000
namespace Lw01
open PySem PySem.Spec L2 Dl Mx Ds
/-! ### what is drawn -/
theorem k_take {s : DS} {m : Int} {Q : D → DS → Prop} (h : 0 < m) (h2 : m < 1073741824) (q : ∀ (r : Int) s', 0 ≤ r → r < m → Q (.int r) s') : Ok (Ftake [hnd 0, .int m] s) Q :=
  ⟨_, _, ftake h h2, q _ _ (takeF_range s h).1 (takeF_range s h).2⟩
abbrev smS : Str := Str.ofString "abcdefghijklmnopqrstuvwxyz"
abbrev grS : Str := Str.ofString "ABCDEFGHIJKLMNOPQRSTUVWXYZ"
abbrev qzS : Str := Str.ofString "qzkj"
abbrev mk (l : List Nat) : Str := ⟨l.toArray⟩
theorem mk_cps (l : List Nat) : (mk l).cps.toList = l := by simp [mk]
theorem mk_len (l : List Nat) : (mk l).length = l.length := by simp [mk, Str.length]
theorem mk_app (a b : List Nat) : mk a ++ mk b = mk (a ++ b) := TL.ext_tl (TL.tl_append (mk a) (mk b))
theorem ix_at {z : Str} {r : Int} (hz : z.length ≤ sizeLine) (h0 : 0 ≤ r) (h : r < z.length) : ∃ c, c ∈ z.cps.toList ∧ z.cps.toList[r.toNat]? = some c ∧ pIx (.str z) (.int r) = some (.str (mk [c])) := by
  obtain ⟨c, h1, h2, e⟩ := atI_lt (xs := z.cps.toList) h0 (by simpa [Str.length] using h)
  exact ⟨c, h1, h2, by simp only [pIx]; rw [if_pos hz, e]; rfl⟩
theorem sg_strs (cs : List Nat) : dStrs (cs.map sgD) = some (cs.map fun c => mk [c]) := by
  have : cs.map sgD = (cs.map fun c => mk [c]).map PyData.str := by rw [List.map_map]; rfl
  rw [this, dStrs_map]
theorem joinL_sg : ∀ cs : List Nat, TL.joinL [] (cs.map fun c => [c]) = cs
  | [] => rfl
  | [c] => rfl
  | c :: d :: r => by
    have ih := joinL_sg (d :: r)
    show [c] ++ ([] ++ TL.joinL [] ((d :: r).map fun c => [c])) = _
    rw [ih]
    rfl
theorem join_sg (cs : List Nat) : Txt.join (Str.ofString "") (cs.map fun c => mk [c]) = mk cs := by
  rw [TL.join_eq]
  apply cpl_inj
  have h := TL.tl_join (Str.ofString "") (cs.map fun c => mk [c])
  have e0 : TL.tl (Str.ofString "") = [] := rfl
  rw [e0, List.map_map] at h
  have e1 : cs.map (TL.tl ∘ fun c => mk [c]) = cs.map fun c => [c] := rfl
  rw [e1, joinL_sg] at h
  rw [mk_cps]
  exact h
theorem join_eq {cs : List Nat} (h : cs.length ≤ 1000) : pJoin (.str "") (.list (cs.map sgD)) = some (.str (mk cs)) := by
  simp only [pJoin, sg_strs]
  have hs : ((cs.map fun c => mk [c]).map (·.length)).sum = cs.length := by
    rw [List.map_map]
    have : cs.map ((·.length) ∘ fun c => mk [c]) = List.replicate cs.length 1 := by
      apply List.ext_getElem (by simp)
      intro i h1 h2
      simp [mk, Str.length]
    rw [this]
    simp
  have e0 : (Str.ofString "").length = 0 := rfl
  rw [if_pos (by rw [hs, e0]; omega)]
  exact congrArg some (congrArg PyData.str (join_sg cs))
theorem inAll_app {a b : List Nat} {z : Str} : inAll (a ++ b) z = (inAll a z && inAll b z) := by
  unfold inAll
  exact List.all_append
theorem inAll_one {c : Nat} {z : Str} (h : c ∈ z.cps.toList) : inAll [c] z = true := by
  unfold inAll
  rw [List.all_cons, decide_eq_true h]
  rfl
theorem ok_tail {s : DS} {n : Nat} (h : n ≤ 100) {Q : D → DS → Prop} (q : ∀ l s', l.length = n → inAll l smS = true → Q (.str (mk l)) s') : Ok (K_w_tail Ftake [hnd 0, .int (n : Nat)] s) Q := by
  unfold K_w_tail B_w_tail
  refine k_fn (k_ret ?_)
  simp only [ok_V0, ok_Vs, ok_K, ok_B, ok_U, ok_nil, ok_cons, ok_N, ok_aN, ok_call, ok_nl, ok_fl, ok_afl, ok_T, ok_qNot, ok_qAnd, ok_qOr, ok_and, ok_or, ok_not, ok_if, ok_Sl, ok_oNo, ok_oOf, ok_Ch, ok_it, ok_itA, ok_yes, v_addI, v_sub, v_neg, v_eqI, v_eqS, v_eqB, v_eq0, v_eqT0, v_neI, v_neS, v_neB, v_ne0, v_neT0, v_ltI, v_leI, v_gtI, v_geI, v_is, v_isNot, v_nn, v_ns, v_ni, v_nl, v_nt, v_tb, v_tl, v_tt, v_tn, v_ti, v_asB, v_asI, v_asL, v_asT, v_asS, v_lenL, v_lenT, v_tupL, v_tupT, v_listL, v_listT, v_intB, v_tup0, v_tup1, v_tup2, v_tup3, v_tup4, v_tup5, v_lst0, v_lst1, v_lst2, v_lst3, v_lst4, v_lst5, v_ok0, v_ok1, v_ok2, v_ix0L, v_ix0, v_ix1, v_ix2, v_ix3, v_fs, v_fi, v_fb, v_fn, v_ft, v_f0, v_fc, startR, List.map_cons, List.map_nil, List.length_cons, List.length_nil, List.replicate, List.cons_append, List.nil_append, List.set_cons_zero, List.set_cons_succ, Option.some.injEq, exists_eq_left', Nat.reduceAdd, Nat.reduceSub, Nat.sub_zero, Nat.sub_self, Nat.zero_add, Nat.reduceEqDiff, Bool.not_true, Bool.not_false, if_true, if_false, Bool.and_self, Bool.true_and, Bool.and_true, Bool.false_eq_true, ↓reduceIte, true_and, and_true, decide_true, decide_false, wipeR]
  refine k_lcP (fun ds s' => ds = rngD 0 n) ?_ ?_
  · simp only [ok_V0, ok_Vs, ok_K, ok_B, ok_U, ok_nil, ok_cons, ok_N, ok_aN, ok_call, ok_nl, ok_fl, ok_afl, ok_T, ok_qNot, ok_qAnd, ok_qOr, ok_and, ok_or, ok_not, ok_if, ok_Sl, ok_oNo, ok_oOf, ok_Ch, ok_it, ok_itA, ok_yes, v_addI, v_sub, v_neg, v_eqI, v_eqS, v_eqB, v_eq0, v_eqT0, v_neI, v_neS, v_neB, v_ne0, v_neT0, v_ltI, v_leI, v_gtI, v_geI, v_is, v_isNot, v_nn, v_ns, v_ni, v_nl, v_nt, v_tb, v_tl, v_tt, v_tn, v_ti, v_asB, v_asI, v_asL, v_asT, v_asS, v_lenL, v_lenT, v_tupL, v_tupT, v_listL, v_listT, v_intB, v_tup0, v_tup1, v_tup2, v_tup3, v_tup4, v_tup5, v_lst0, v_lst1, v_lst2, v_lst3, v_lst4, v_lst5, v_ok0, v_ok1, v_ok2, v_ix0L, v_ix0, v_ix1, v_ix2, v_ix3, v_fs, v_fi, v_fb, v_fn, v_ft, v_f0, v_fc, startR, List.map_cons, List.map_nil, List.length_cons, List.length_nil, List.replicate, List.cons_append, List.nil_append, List.set_cons_zero, List.set_cons_succ, Option.some.injEq, exists_eq_left', Nat.reduceAdd, Nat.reduceSub, Nat.sub_zero, Nat.sub_self, Nat.zero_add, Nat.reduceEqDiff, Bool.not_true, Bool.not_false, if_true, if_false, Bool.and_self, Bool.true_and, Bool.and_true, Bool.false_eq_true, ↓reduceIte, true_and, and_true, decide_true, decide_false, wipeR]
    rw [pr1 (by omega) (by omega)]
    simp only [ok_V0, ok_Vs, ok_K, ok_B, ok_U, ok_nil, ok_cons, ok_N, ok_aN, ok_call, ok_nl, ok_fl, ok_afl, ok_T, ok_qNot, ok_qAnd, ok_qOr, ok_and, ok_or, ok_not, ok_if, ok_Sl, ok_oNo, ok_oOf, ok_Ch, ok_it, ok_itA, ok_yes, v_addI, v_sub, v_neg, v_eqI, v_eqS, v_eqB, v_eq0, v_eqT0, v_neI, v_neS, v_neB, v_ne0, v_neT0, v_ltI, v_leI, v_gtI, v_geI, v_is, v_isNot, v_nn, v_ns, v_ni, v_nl, v_nt, v_tb, v_tl, v_tt, v_tn, v_ti, v_asB, v_asI, v_asL, v_asT, v_asS, v_lenL, v_lenT, v_tupL, v_tupT, v_listL, v_listT, v_intB, v_tup0, v_tup1, v_tup2, v_tup3, v_tup4, v_tup5, v_lst0, v_lst1, v_lst2, v_lst3, v_lst4, v_lst5, v_ok0, v_ok1, v_ok2, v_ix0L, v_ix0, v_ix1, v_ix2, v_ix3, v_fs, v_fi, v_fb, v_fn, v_ft, v_f0, v_fc, startR, List.map_cons, List.map_nil, List.length_cons, List.length_nil, List.replicate, List.cons_append, List.nil_append, List.set_cons_zero, List.set_cons_succ, Option.some.injEq, exists_eq_left', Nat.reduceAdd, Nat.reduceSub, Nat.sub_zero, Nat.sub_self, Nat.zero_add, Nat.reduceEqDiff, Bool.not_true, Bool.not_false, if_true, if_false, Bool.and_self, Bool.true_and, Bool.and_true, Bool.false_eq_true, ↓reduceIte, true_and, and_true, decide_true, decide_false, wipeR]
    rfl
  · rintro ds s1 rfl
    refine ⟨by rw [rng_len]; exact szL (by omega), fun j acc _ => ∃ cs : List Nat, acc = cs.map sgD ∧ cs.length = j ∧ inAll cs smS = true, ⟨[], rfl, rfl, rfl⟩, ?_, ?_⟩
    · rintro j d acc s hd ⟨cs, rfl, hl, hx⟩
      refine ⟨_, rfl, ?_⟩
      simp only [ok_V0, ok_Vs, ok_K, ok_B, ok_U, ok_nil, ok_cons, ok_N, ok_aN, ok_call, ok_nl, ok_fl, ok_afl, ok_T, ok_qNot, ok_qAnd, ok_qOr, ok_and, ok_or, ok_not, ok_if, ok_Sl, ok_oNo, ok_oOf, ok_Ch, ok_it, ok_itA, ok_yes, v_addI, v_sub, v_neg, v_eqI, v_eqS, v_eqB, v_eq0, v_eqT0, v_neI, v_neS, v_neB, v_ne0, v_neT0, v_ltI, v_leI, v_gtI, v_geI, v_is, v_isNot, v_nn, v_ns, v_ni, v_nl, v_nt, v_tb, v_tl, v_tt, v_tn, v_ti, v_asB, v_asI, v_asL, v_asT, v_asS, v_lenL, v_lenT, v_tupL, v_tupT, v_listL, v_listT, v_intB, v_tup0, v_tup1, v_tup2, v_tup3, v_tup4, v_tup5, v_lst0, v_lst1, v_lst2, v_lst3, v_lst4, v_lst5, v_ok0, v_ok1, v_ok2, v_ix0L, v_ix0, v_ix1, v_ix2, v_ix3, v_fs, v_fi, v_fb, v_fn, v_ft, v_f0, v_fc, startR, List.map_cons, List.map_nil, List.length_cons, List.length_nil, List.replicate, List.cons_append, List.nil_append, List.set_cons_zero, List.set_cons_succ, Option.some.injEq, exists_eq_left', Nat.reduceAdd, Nat.reduceSub, Nat.sub_zero, Nat.sub_self, Nat.zero_add, Nat.reduceEqDiff, Bool.not_true, Bool.not_false, if_true, if_false, Bool.and_self, Bool.true_and, Bool.and_true, Bool.false_eq_true, ↓reduceIte, true_and, and_true, decide_true, decide_false, wipeR]
      refine k_take (by omega) (by omega) fun r s' h0 h1 => ?_
      obtain ⟨c, c1, _, hc⟩ := ix_at (z := smS) (r := r) (by decide) h0 h1
      refine ⟨_, hc, cs ++ [c], by simp [sgD, mk], by simp [hl], ?_⟩
      rw [inAll_app, hx, inAll_one c1]
      rfl
    · rintro acc s ⟨cs, rfl, hl, hx⟩
      rw [rng_len] at hl
      exact ⟨_, join_eq (by omega), q cs s hl hx⟩
/-! names -/
structure Nms (xs : List Str) (n : Nat) : Prop where
  len : xs.length = n
  nd : xs.Nodup
  nm : ∀ x ∈ xs, nameB (.str x) = true
theorem name_mk {c : Nat} {l : List Nat} (h : c ∈ grS.cps.toList) (hl : l.length ≤ 7) (hs : inAll l smS = true) : nameB (.str (mk (c :: l))) = true := by
  rw [nameB_str, mk_cps, nameL_cons, decide_eq_true h, decide_eq_true hl]
  exact hs
theorem inAll_take {l : List Nat} {z : Str} (h : inAll l z = true) (n : Nat) : inAll (l.take n) z = true := by
  unfold inAll at *
  rw [List.all_eq_true] at *
  exact fun x hx => h x (List.mem_of_mem_take hx)
theorem cut_to {l : List Nat} (k : Nat) : cutS (mk l) none (some (k : Int)) = mk (l.take k) := by
  apply cpl_inj
  rw [mk_cps]
  unfold cutS
  rw [HT.sIx_none, HT.sIx_nat, mk_len, mk_cps, List.drop_zero, Nat.sub_zero]
  simp only
  by_cases h : k ≤ l.length
  · rw [Nat.min_eq_left h]
  · rw [Nat.min_eq_right (by omega), List.take_length, List.take_of_length_le (by omega)]
theorem nodup_snoc {α : Type} {xs : List α} {a : α} (h : xs.Nodup) (n : a ∉ xs) : (xs ++ [a]).Nodup := by
  rw [List.nodup_append]
  refine ⟨h, by simp, fun x hx y hy => ?_⟩
  rw [List.mem_singleton.mp hy]
  exact fun e => n (e ▸ hx)
theorem gr_nd : grS.cps.toList.Nodup := by decide +kernel
theorem sm_nd : smS.cps.toList.Nodup := by decide +kernel
theorem nth_inj {l : List Nat} (nd : l.Nodup) {i j c : Nat} (hi : l[i]? = some c) (hj : l[j]? = some c) : i = j := by
  obtain ⟨h1, e1⟩ := List.getElem?_eq_some_iff.mp hi
  obtain ⟨h2, e2⟩ := List.getElem?_eq_some_iff.mp hj
  exact (List.getElem_inj nd).mp (e1.trans e2.symm)
theorem ok_names {s : DS} {n : Nat} (h : n ≤ 6) {Q : D → DS → Prop} (q : ∀ xs s', Nms xs n → Q (.list (xs.map .str)) s') : Ok (K_w_names Ftake (K_w_tail Ftake) [hnd 0, .int (n : Nat)] s) Q := by
  unfold K_w_names B_w_names
  refine k_fn (k_seq (k_set ?_))
  simp only [ok_V0, ok_Vs, ok_K, ok_B, ok_U, ok_nil, ok_cons, ok_N, ok_aN, ok_call, ok_nl, ok_fl, ok_afl, ok_T, ok_qNot, ok_qAnd, ok_qOr, ok_and, ok_or, ok_not, ok_if, ok_Sl, ok_oNo, ok_oOf, ok_Ch, ok_it, ok_itA, ok_yes, v_addI, v_sub, v_neg, v_eqI, v_eqS, v_eqB, v_eq0, v_eqT0, v_neI, v_neS, v_neB, v_ne0, v_neT0, v_ltI, v_leI, v_gtI, v_geI, v_is, v_isNot, v_nn, v_ns, v_ni, v_nl, v_nt, v_tb, v_tl, v_tt, v_tn, v_ti, v_asB, v_asI, v_asL, v_asT, v_asS, v_lenL, v_lenT, v_tupL, v_tupT, v_listL, v_listT, v_intB, v_tup0, v_tup1, v_tup2, v_tup3, v_tup4, v_tup5, v_lst0, v_lst1, v_lst2, v_lst3, v_lst4, v_lst5, v_ok0, v_ok1, v_ok2, v_ix0L, v_ix0, v_ix1, v_ix2, v_ix3, v_fs, v_fi, v_fb, v_fn, v_ft, v_f0, v_fc, startR, List.map_cons, List.map_nil, List.length_cons, List.length_nil, List.replicate, List.cons_append, List.nil_append, List.set_cons_zero, List.set_cons_succ, Option.some.injEq, exists_eq_left', Nat.reduceAdd, Nat.reduceSub, Nat.sub_zero, Nat.sub_self, Nat.zero_add, Nat.reduceEqDiff, Bool.not_true, Bool.not_false, if_true, if_false, Bool.and_self, Bool.true_and, Bool.and_true, Bool.false_eq_true, ↓reduceIte, true_and, and_true, decide_true, decide_false, wipeR]
  refine k_seq (k_set ?_)
  simp only [ok_V0, ok_Vs, ok_K, ok_B, ok_U, ok_nil, ok_cons, ok_N, ok_aN, ok_call, ok_nl, ok_fl, ok_afl, ok_T, ok_qNot, ok_qAnd, ok_qOr, ok_and, ok_or, ok_not, ok_if, ok_Sl, ok_oNo, ok_oOf, ok_Ch, ok_it, ok_itA, ok_yes, v_addI, v_sub, v_neg, v_eqI, v_eqS, v_eqB, v_eq0, v_eqT0, v_neI, v_neS, v_neB, v_ne0, v_neT0, v_ltI, v_leI, v_gtI, v_geI, v_is, v_isNot, v_nn, v_ns, v_ni, v_nl, v_nt, v_tb, v_tl, v_tt, v_tn, v_ti, v_asB, v_asI, v_asL, v_asT, v_asS, v_lenL, v_lenT, v_tupL, v_tupT, v_listL, v_listT, v_intB, v_tup0, v_tup1, v_tup2, v_tup3, v_tup4, v_tup5, v_lst0, v_lst1, v_lst2, v_lst3, v_lst4, v_lst5, v_ok0, v_ok1, v_ok2, v_ix0L, v_ix0, v_ix1, v_ix2, v_ix3, v_fs, v_fi, v_fb, v_fn, v_ft, v_f0, v_fc, startR, List.map_cons, List.map_nil, List.length_cons, List.length_nil, List.replicate, List.cons_append, List.nil_append, List.set_cons_zero, List.set_cons_succ, Option.some.injEq, exists_eq_left', Nat.reduceAdd, Nat.reduceSub, Nat.sub_zero, Nat.sub_self, Nat.zero_add, Nat.reduceEqDiff, Bool.not_true, Bool.not_false, if_true, if_false, Bool.and_self, Bool.true_and, Bool.and_true, Bool.false_eq_true, ↓reduceIte, true_and, and_true, decide_true, decide_false, wipeR]
  refine k_take (by omega) (by omega) fun f s1 f0 f1 => ?_
  refine k_seq (k_sIf ?_)
  simp only [ok_V0, ok_Vs, ok_K, ok_B, ok_U, ok_nil, ok_cons, ok_N, ok_aN, ok_call, ok_nl, ok_fl, ok_afl, ok_T, ok_qNot, ok_qAnd, ok_qOr, ok_and, ok_or, ok_not, ok_if, ok_Sl, ok_oNo, ok_oOf, ok_Ch, ok_it, ok_itA, ok_yes, v_addI, v_sub, v_neg, v_eqI, v_eqS, v_eqB, v_eq0, v_eqT0, v_neI, v_neS, v_neB, v_ne0, v_neT0, v_ltI, v_leI, v_gtI, v_geI, v_is, v_isNot, v_nn, v_ns, v_ni, v_nl, v_nt, v_tb, v_tl, v_tt, v_tn, v_ti, v_asB, v_asI, v_asL, v_asT, v_asS, v_lenL, v_lenT, v_tupL, v_tupT, v_listL, v_listT, v_intB, v_tup0, v_tup1, v_tup2, v_tup3, v_tup4, v_tup5, v_lst0, v_lst1, v_lst2, v_lst3, v_lst4, v_lst5, v_ok0, v_ok1, v_ok2, v_ix0L, v_ix0, v_ix1, v_ix2, v_ix3, v_fs, v_fi, v_fb, v_fn, v_ft, v_f0, v_fc, startR, List.map_cons, List.map_nil, List.length_cons, List.length_nil, List.replicate, List.cons_append, List.nil_append, List.set_cons_zero, List.set_cons_succ, Option.some.injEq, exists_eq_left', Nat.reduceAdd, Nat.reduceSub, Nat.sub_zero, Nat.sub_self, Nat.zero_add, Nat.reduceEqDiff, Bool.not_true, Bool.not_false, if_true, if_false, Bool.and_self, Bool.true_and, Bool.and_true, Bool.false_eq_true, ↓reduceIte, true_and, and_true, decide_true, decide_false, wipeR]
  refine k_take (by omega) (by omega) fun w s2 w0 w1 => ?_
  simp only [ok_V0, ok_Vs, ok_K, ok_B, ok_U, ok_nil, ok_cons, ok_N, ok_aN, ok_call, ok_nl, ok_fl, ok_afl, ok_T, ok_qNot, ok_qAnd, ok_qOr, ok_and, ok_or, ok_not, ok_if, ok_Sl, ok_oNo, ok_oOf, ok_Ch, ok_it, ok_itA, ok_yes, v_addI, v_sub, v_neg, v_eqI, v_eqS, v_eqB, v_eq0, v_eqT0, v_neI, v_neS, v_neB, v_ne0, v_neT0, v_ltI, v_leI, v_gtI, v_geI, v_is, v_isNot, v_nn, v_ns, v_ni, v_nl, v_nt, v_tb, v_tl, v_tt, v_tn, v_ti, v_asB, v_asI, v_asL, v_asT, v_asS, v_lenL, v_lenT, v_tupL, v_tupT, v_listL, v_listT, v_intB, v_tup0, v_tup1, v_tup2, v_tup3, v_tup4, v_tup5, v_lst0, v_lst1, v_lst2, v_lst3, v_lst4, v_lst5, v_ok0, v_ok1, v_ok2, v_ix0L, v_ix0, v_ix1, v_ix2, v_ix3, v_fs, v_fi, v_fb, v_fn, v_ft, v_f0, v_fc, startR, List.map_cons, List.map_nil, List.length_cons, List.length_nil, List.replicate, List.cons_append, List.nil_append, List.set_cons_zero, List.set_cons_succ, Option.some.injEq, exists_eq_left', Nat.reduceAdd, Nat.reduceSub, Nat.sub_zero, Nat.sub_self, Nat.zero_add, Nat.reduceEqDiff, Bool.not_true, Bool.not_false, if_true, if_false, Bool.and_self, Bool.true_and, Bool.and_true, Bool.false_eq_true, ↓reduceIte, true_and, and_true, decide_true, decide_false, wipeR]
  by_cases hw : w = 0
  · rw [decide_eq_true hw]
    simp only [ok_V0, ok_Vs, ok_K, ok_B, ok_U, ok_nil, ok_cons, ok_N, ok_aN, ok_call, ok_nl, ok_fl, ok_afl, ok_T, ok_qNot, ok_qAnd, ok_qOr, ok_and, ok_or, ok_not, ok_if, ok_Sl, ok_oNo, ok_oOf, ok_Ch, ok_it, ok_itA, ok_yes, v_addI, v_sub, v_neg, v_eqI, v_eqS, v_eqB, v_eq0, v_eqT0, v_neI, v_neS, v_neB, v_ne0, v_neT0, v_ltI, v_leI, v_gtI, v_geI, v_is, v_isNot, v_nn, v_ns, v_ni, v_nl, v_nt, v_tb, v_tl, v_tt, v_tn, v_ti, v_asB, v_asI, v_asL, v_asT, v_asS, v_lenL, v_lenT, v_tupL, v_tupT, v_listL, v_listT, v_intB, v_tup0, v_tup1, v_tup2, v_tup3, v_tup4, v_tup5, v_lst0, v_lst1, v_lst2, v_lst3, v_lst4, v_lst5, v_ok0, v_ok1, v_ok2, v_ix0L, v_ix0, v_ix1, v_ix2, v_ix3, v_fs, v_fi, v_fb, v_fn, v_ft, v_f0, v_fc, startR, List.map_cons, List.map_nil, List.length_cons, List.length_nil, List.replicate, List.cons_append, List.nil_append, List.set_cons_zero, List.set_cons_succ, Option.some.injEq, exists_eq_left', Nat.reduceAdd, Nat.reduceSub, Nat.sub_zero, Nat.sub_self, Nat.zero_add, Nat.reduceEqDiff, Bool.not_true, Bool.not_false, if_true, if_false, Bool.and_self, Bool.true_and, Bool.and_true, Bool.false_eq_true, ↓reduceIte, true_and, and_true, decide_true, decide_false, wipeR]
    refine k_seq (k_set ?_)
    simp only [ok_V0, ok_Vs, ok_K, ok_B, ok_U, ok_nil, ok_cons, ok_N, ok_aN, ok_call, ok_nl, ok_fl, ok_afl, ok_T, ok_qNot, ok_qAnd, ok_qOr, ok_and, ok_or, ok_not, ok_if, ok_Sl, ok_oNo, ok_oOf, ok_Ch, ok_it, ok_itA, ok_yes, v_addI, v_sub, v_neg, v_eqI, v_eqS, v_eqB, v_eq0, v_eqT0, v_neI, v_neS, v_neB, v_ne0, v_neT0, v_ltI, v_leI, v_gtI, v_geI, v_is, v_isNot, v_nn, v_ns, v_ni, v_nl, v_nt, v_tb, v_tl, v_tt, v_tn, v_ti, v_asB, v_asI, v_asL, v_asT, v_asS, v_lenL, v_lenT, v_tupL, v_tupT, v_listL, v_listT, v_intB, v_tup0, v_tup1, v_tup2, v_tup3, v_tup4, v_tup5, v_lst0, v_lst1, v_lst2, v_lst3, v_lst4, v_lst5, v_ok0, v_ok1, v_ok2, v_ix0L, v_ix0, v_ix1, v_ix2, v_ix3, v_fs, v_fi, v_fb, v_fn, v_ft, v_f0, v_fc, startR, List.map_cons, List.map_nil, List.length_cons, List.length_nil, List.replicate, List.cons_append, List.nil_append, List.set_cons_zero, List.set_cons_succ, Option.some.injEq, exists_eq_left', Nat.reduceAdd, Nat.reduceSub, Nat.sub_zero, Nat.sub_self, Nat.zero_add, Nat.reduceEqDiff, Bool.not_true, Bool.not_false, if_true, if_false, Bool.and_self, Bool.true_and, Bool.and_true, Bool.false_eq_true, ↓reduceIte, true_and, and_true, decide_true, decide_false, wipeR]
    obtain ⟨c, c1, c2, hc⟩ := ix_at (z := grS) (r := f) (by decide) f0 f1
    refine ⟨_, hc, ?_⟩
    refine ok_tail (n := 7) (by omega) fun l s3 hl hs => ?_
    refine ⟨_, v_addS (by rw [mk_len, mk_len, hl]; exact szL (by simp)), ?_⟩
    rw [mk_app]
    refine k_ret ?_
    simp only [ok_V0, ok_Vs, ok_K, ok_B, ok_U, ok_nil, ok_cons, ok_N, ok_aN, ok_call, ok_nl, ok_fl, ok_afl, ok_T, ok_qNot, ok_qAnd, ok_qOr, ok_and, ok_or, ok_not, ok_if, ok_Sl, ok_oNo, ok_oOf, ok_Ch, ok_it, ok_itA, ok_yes, v_addI, v_sub, v_neg, v_eqI, v_eqS, v_eqB, v_eq0, v_eqT0, v_neI, v_neS, v_neB, v_ne0, v_neT0, v_ltI, v_leI, v_gtI, v_geI, v_is, v_isNot, v_nn, v_ns, v_ni, v_nl, v_nt, v_tb, v_tl, v_tt, v_tn, v_ti, v_asB, v_asI, v_asL, v_asT, v_asS, v_lenL, v_lenT, v_tupL, v_tupT, v_listL, v_listT, v_intB, v_tup0, v_tup1, v_tup2, v_tup3, v_tup4, v_tup5, v_lst0, v_lst1, v_lst2, v_lst3, v_lst4, v_lst5, v_ok0, v_ok1, v_ok2, v_ix0L, v_ix0, v_ix1, v_ix2, v_ix3, v_fs, v_fi, v_fb, v_fn, v_ft, v_f0, v_fc, startR, List.map_cons, List.map_nil, List.length_cons, List.length_nil, List.replicate, List.cons_append, List.nil_append, List.set_cons_zero, List.set_cons_succ, Option.some.injEq, exists_eq_left', Nat.reduceAdd, Nat.reduceSub, Nat.sub_zero, Nat.sub_self, Nat.zero_add, Nat.reduceEqDiff, Bool.not_true, Bool.not_false, if_true, if_false, Bool.and_self, Bool.true_and, Bool.and_true, Bool.false_eq_true, ↓reduceIte, true_and, and_true, decide_true, decide_false, wipeR]
    refine k_lcP (fun ds s' => ds = rngD 0 n) ?_ ?_
    · simp only [ok_V0, ok_Vs, ok_K, ok_B, ok_U, ok_nil, ok_cons, ok_N, ok_aN, ok_call, ok_nl, ok_fl, ok_afl, ok_T, ok_qNot, ok_qAnd, ok_qOr, ok_and, ok_or, ok_not, ok_if, ok_Sl, ok_oNo, ok_oOf, ok_Ch, ok_it, ok_itA, ok_yes, v_addI, v_sub, v_neg, v_eqI, v_eqS, v_eqB, v_eq0, v_eqT0, v_neI, v_neS, v_neB, v_ne0, v_neT0, v_ltI, v_leI, v_gtI, v_geI, v_is, v_isNot, v_nn, v_ns, v_ni, v_nl, v_nt, v_tb, v_tl, v_tt, v_tn, v_ti, v_asB, v_asI, v_asL, v_asT, v_asS, v_lenL, v_lenT, v_tupL, v_tupT, v_listL, v_listT, v_intB, v_tup0, v_tup1, v_tup2, v_tup3, v_tup4, v_tup5, v_lst0, v_lst1, v_lst2, v_lst3, v_lst4, v_lst5, v_ok0, v_ok1, v_ok2, v_ix0L, v_ix0, v_ix1, v_ix2, v_ix3, v_fs, v_fi, v_fb, v_fn, v_ft, v_f0, v_fc, startR, List.map_cons, List.map_nil, List.length_cons, List.length_nil, List.replicate, List.cons_append, List.nil_append, List.set_cons_zero, List.set_cons_succ, Option.some.injEq, exists_eq_left', Nat.reduceAdd, Nat.reduceSub, Nat.sub_zero, Nat.sub_self, Nat.zero_add, Nat.reduceEqDiff, Bool.not_true, Bool.not_false, if_true, if_false, Bool.and_self, Bool.true_and, Bool.and_true, Bool.false_eq_true, ↓reduceIte, true_and, and_true, decide_true, decide_false, wipeR]
      rw [pr1 (by omega) (by omega)]
      simp only [ok_V0, ok_Vs, ok_K, ok_B, ok_U, ok_nil, ok_cons, ok_N, ok_aN, ok_call, ok_nl, ok_fl, ok_afl, ok_T, ok_qNot, ok_qAnd, ok_qOr, ok_and, ok_or, ok_not, ok_if, ok_Sl, ok_oNo, ok_oOf, ok_Ch, ok_it, ok_itA, ok_yes, v_addI, v_sub, v_neg, v_eqI, v_eqS, v_eqB, v_eq0, v_eqT0, v_neI, v_neS, v_neB, v_ne0, v_neT0, v_ltI, v_leI, v_gtI, v_geI, v_is, v_isNot, v_nn, v_ns, v_ni, v_nl, v_nt, v_tb, v_tl, v_tt, v_tn, v_ti, v_asB, v_asI, v_asL, v_asT, v_asS, v_lenL, v_lenT, v_tupL, v_tupT, v_listL, v_listT, v_intB, v_tup0, v_tup1, v_tup2, v_tup3, v_tup4, v_tup5, v_lst0, v_lst1, v_lst2, v_lst3, v_lst4, v_lst5, v_ok0, v_ok1, v_ok2, v_ix0L, v_ix0, v_ix1, v_ix2, v_ix3, v_fs, v_fi, v_fb, v_fn, v_ft, v_f0, v_fc, startR, List.map_cons, List.map_nil, List.length_cons, List.length_nil, List.replicate, List.cons_append, List.nil_append, List.set_cons_zero, List.set_cons_succ, Option.some.injEq, exists_eq_left', Nat.reduceAdd, Nat.reduceSub, Nat.sub_zero, Nat.sub_self, Nat.zero_add, Nat.reduceEqDiff, Bool.not_true, Bool.not_false, if_true, if_false, Bool.and_self, Bool.true_and, Bool.and_true, Bool.false_eq_true, ↓reduceIte, true_and, and_true, decide_true, decide_false, wipeR]
      rfl
    · rintro ds s4 rfl
      refine ⟨by rw [rng_len]; exact szL (by omega), fun j acc _ => acc = (List.range j).map fun i => PyData.str (mk (([c] ++ l).take (i + 1))), rfl, ?_, ?_⟩
      · rintro j d acc s5 hd rfl
        obtain ⟨hj, rfl⟩ := rng_get hd
        refine ⟨_, rfl, ?_⟩
        simp only [ok_V0, ok_Vs, ok_K, ok_B, ok_U, ok_nil, ok_cons, ok_N, ok_aN, ok_call, ok_nl, ok_fl, ok_afl, ok_T, ok_qNot, ok_qAnd, ok_qOr, ok_and, ok_or, ok_not, ok_if, ok_Sl, ok_oNo, ok_oOf, ok_Ch, ok_it, ok_itA, ok_yes, v_addI, v_sub, v_neg, v_eqI, v_eqS, v_eqB, v_eq0, v_eqT0, v_neI, v_neS, v_neB, v_ne0, v_neT0, v_ltI, v_leI, v_gtI, v_geI, v_is, v_isNot, v_nn, v_ns, v_ni, v_nl, v_nt, v_tb, v_tl, v_tt, v_tn, v_ti, v_asB, v_asI, v_asL, v_asT, v_asS, v_lenL, v_lenT, v_tupL, v_tupT, v_listL, v_listT, v_intB, v_tup0, v_tup1, v_tup2, v_tup3, v_tup4, v_tup5, v_lst0, v_lst1, v_lst2, v_lst3, v_lst4, v_lst5, v_ok0, v_ok1, v_ok2, v_ix0L, v_ix0, v_ix1, v_ix2, v_ix3, v_fs, v_fi, v_fb, v_fn, v_ft, v_f0, v_fc, startR, List.map_cons, List.map_nil, List.length_cons, List.length_nil, List.replicate, List.cons_append, List.nil_append, List.set_cons_zero, List.set_cons_succ, Option.some.injEq, exists_eq_left', Nat.reduceAdd, Nat.reduceSub, Nat.sub_zero, Nat.sub_self, Nat.zero_add, Nat.reduceEqDiff, Bool.not_true, Bool.not_false, if_true, if_false, Bool.and_self, Bool.true_and, Bool.and_true, Bool.false_eq_true, ↓reduceIte, true_and, and_true, decide_true, decide_false, wipeR]
        rw [v_slS (by rw [mk_len]; exact szL (by simp [hl]))]
        simp only [ok_V0, ok_Vs, ok_K, ok_B, ok_U, ok_nil, ok_cons, ok_N, ok_aN, ok_call, ok_nl, ok_fl, ok_afl, ok_T, ok_qNot, ok_qAnd, ok_qOr, ok_and, ok_or, ok_not, ok_if, ok_Sl, ok_oNo, ok_oOf, ok_Ch, ok_it, ok_itA, ok_yes, v_addI, v_sub, v_neg, v_eqI, v_eqS, v_eqB, v_eq0, v_eqT0, v_neI, v_neS, v_neB, v_ne0, v_neT0, v_ltI, v_leI, v_gtI, v_geI, v_is, v_isNot, v_nn, v_ns, v_ni, v_nl, v_nt, v_tb, v_tl, v_tt, v_tn, v_ti, v_asB, v_asI, v_asL, v_asT, v_asS, v_lenL, v_lenT, v_tupL, v_tupT, v_listL, v_listT, v_intB, v_tup0, v_tup1, v_tup2, v_tup3, v_tup4, v_tup5, v_lst0, v_lst1, v_lst2, v_lst3, v_lst4, v_lst5, v_ok0, v_ok1, v_ok2, v_ix0L, v_ix0, v_ix1, v_ix2, v_ix3, v_fs, v_fi, v_fb, v_fn, v_ft, v_f0, v_fc, startR, List.map_cons, List.map_nil, List.length_cons, List.length_nil, List.replicate, List.cons_append, List.nil_append, List.set_cons_zero, List.set_cons_succ, Option.some.injEq, exists_eq_left', Nat.reduceAdd, Nat.reduceSub, Nat.sub_zero, Nat.sub_self, Nat.zero_add, Nat.reduceEqDiff, Bool.not_true, Bool.not_false, if_true, if_false, Bool.and_self, Bool.true_and, Bool.and_true, Bool.false_eq_true, ↓reduceIte, true_and, and_true, decide_true, decide_false, wipeR]
        rw [show (1 : Int) + (0 + (j : Int)) = ((j + 1 : Nat) : Int) by omega, cut_to, List.range_succ, List.map_append]
        rfl
      · rintro acc s5 rfl
        rw [rng_len]
        have e : ((List.range n).map fun i => PyData.str (mk (([c] ++ l).take (i + 1)))) = ((List.range n).map fun i => mk (([c] ++ l).take (i + 1))).map PyData.str := by rw [List.map_map]; rfl
        rw [e]
        refine q _ _ ⟨by simp, ?_, fun x hx => ?_⟩
        · rw [List.nodup_iff_pairwise_ne, List.pairwise_map]
          refine (List.nodup_iff_pairwise_ne.mp List.nodup_range).imp_of_mem fun {a b} ha hb hab e2 => hab ?_
          have := congrArg Str.length e2
          rw [mk_len, mk_len, List.length_take, List.length_take] at this
          have ha := List.mem_range.mp ha
          have hb := List.mem_range.mp hb
          have hl2 : ([c] ++ l).length = 8 := by simp [hl]
          omega
        · obtain ⟨i, hi, rfl⟩ := List.mem_map.mp hx
          have hi := List.mem_range.mp hi
          show nameB (.str (mk ((c :: l).take (i + 1)))) = true
          rw [List.take_succ_cons]
          refine name_mk c1 ?_ (inAll_take hs i)
          rw [List.length_take]
          omega
  · rw [decide_eq_false hw]
    simp only [ok_V0, ok_Vs, ok_K, ok_B, ok_U, ok_nil, ok_cons, ok_N, ok_aN, ok_call, ok_nl, ok_fl, ok_afl, ok_T, ok_qNot, ok_qAnd, ok_qOr, ok_and, ok_or, ok_not, ok_if, ok_Sl, ok_oNo, ok_oOf, ok_Ch, ok_it, ok_itA, ok_yes, v_addI, v_sub, v_neg, v_eqI, v_eqS, v_eqB, v_eq0, v_eqT0, v_neI, v_neS, v_neB, v_ne0, v_neT0, v_ltI, v_leI, v_gtI, v_geI, v_is, v_isNot, v_nn, v_ns, v_ni, v_nl, v_nt, v_tb, v_tl, v_tt, v_tn, v_ti, v_asB, v_asI, v_asL, v_asT, v_asS, v_lenL, v_lenT, v_tupL, v_tupT, v_listL, v_listT, v_intB, v_tup0, v_tup1, v_tup2, v_tup3, v_tup4, v_tup5, v_lst0, v_lst1, v_lst2, v_lst3, v_lst4, v_lst5, v_ok0, v_ok1, v_ok2, v_ix0L, v_ix0, v_ix1, v_ix2, v_ix3, v_fs, v_fi, v_fb, v_fn, v_ft, v_f0, v_fc, startR, List.map_cons, List.map_nil, List.length_cons, List.length_nil, List.replicate, List.cons_append, List.nil_append, List.set_cons_zero, List.set_cons_succ, Option.some.injEq, exists_eq_left', Nat.reduceAdd, Nat.reduceSub, Nat.sub_zero, Nat.sub_self, Nat.zero_add, Nat.reduceEqDiff, Bool.not_true, Bool.not_false, if_true, if_false, Bool.and_self, Bool.true_and, Bool.and_true, Bool.false_eq_true, ↓reduceIte, true_and, and_true, decide_true, decide_false, wipeR]
    refine k_nx (k_ret ?_)
    simp only [ok_V0, ok_Vs, ok_K, ok_B, ok_U, ok_nil, ok_cons, ok_N, ok_aN, ok_call, ok_nl, ok_fl, ok_afl, ok_T, ok_qNot, ok_qAnd, ok_qOr, ok_and, ok_or, ok_not, ok_if, ok_Sl, ok_oNo, ok_oOf, ok_Ch, ok_it, ok_itA, ok_yes, v_addI, v_sub, v_neg, v_eqI, v_eqS, v_eqB, v_eq0, v_eqT0, v_neI, v_neS, v_neB, v_ne0, v_neT0, v_ltI, v_leI, v_gtI, v_geI, v_is, v_isNot, v_nn, v_ns, v_ni, v_nl, v_nt, v_tb, v_tl, v_tt, v_tn, v_ti, v_asB, v_asI, v_asL, v_asT, v_asS, v_lenL, v_lenT, v_tupL, v_tupT, v_listL, v_listT, v_intB, v_tup0, v_tup1, v_tup2, v_tup3, v_tup4, v_tup5, v_lst0, v_lst1, v_lst2, v_lst3, v_lst4, v_lst5, v_ok0, v_ok1, v_ok2, v_ix0L, v_ix0, v_ix1, v_ix2, v_ix3, v_fs, v_fi, v_fb, v_fn, v_ft, v_f0, v_fc, startR, List.map_cons, List.map_nil, List.length_cons, List.length_nil, List.replicate, List.cons_append, List.nil_append, List.set_cons_zero, List.set_cons_succ, Option.some.injEq, exists_eq_left', Nat.reduceAdd, Nat.reduceSub, Nat.sub_zero, Nat.sub_self, Nat.zero_add, Nat.reduceEqDiff, Bool.not_true, Bool.not_false, if_true, if_false, Bool.and_self, Bool.true_and, Bool.and_true, Bool.false_eq_true, ↓reduceIte, true_and, and_true, decide_true, decide_false, wipeR]
    refine k_lcP (fun ds s' => ds = rngD 0 n) ?_ ?_
    · simp only [ok_V0, ok_Vs, ok_K, ok_B, ok_U, ok_nil, ok_cons, ok_N, ok_aN, ok_call, ok_nl, ok_fl, ok_afl, ok_T, ok_qNot, ok_qAnd, ok_qOr, ok_and, ok_or, ok_not, ok_if, ok_Sl, ok_oNo, ok_oOf, ok_Ch, ok_it, ok_itA, ok_yes, v_addI, v_sub, v_neg, v_eqI, v_eqS, v_eqB, v_eq0, v_eqT0, v_neI, v_neS, v_neB, v_ne0, v_neT0, v_ltI, v_leI, v_gtI, v_geI, v_is, v_isNot, v_nn, v_ns, v_ni, v_nl, v_nt, v_tb, v_tl, v_tt, v_tn, v_ti, v_asB, v_asI, v_asL, v_asT, v_asS, v_lenL, v_lenT, v_tupL, v_tupT, v_listL, v_listT, v_intB, v_tup0, v_tup1, v_tup2, v_tup3, v_tup4, v_tup5, v_lst0, v_lst1, v_lst2, v_lst3, v_lst4, v_lst5, v_ok0, v_ok1, v_ok2, v_ix0L, v_ix0, v_ix1, v_ix2, v_ix3, v_fs, v_fi, v_fb, v_fn, v_ft, v_f0, v_fc, startR, List.map_cons, List.map_nil, List.length_cons, List.length_nil, List.replicate, List.cons_append, List.nil_append, List.set_cons_zero, List.set_cons_succ, Option.some.injEq, exists_eq_left', Nat.reduceAdd, Nat.reduceSub, Nat.sub_zero, Nat.sub_self, Nat.zero_add, Nat.reduceEqDiff, Bool.not_true, Bool.not_false, if_true, if_false, Bool.and_self, Bool.true_and, Bool.and_true, Bool.false_eq_true, ↓reduceIte, true_and, and_true, decide_true, decide_false, wipeR]
      rw [pr1 (by omega) (by omega)]
      simp only [ok_V0, ok_Vs, ok_K, ok_B, ok_U, ok_nil, ok_cons, ok_N, ok_aN, ok_call, ok_nl, ok_fl, ok_afl, ok_T, ok_qNot, ok_qAnd, ok_qOr, ok_and, ok_or, ok_not, ok_if, ok_Sl, ok_oNo, ok_oOf, ok_Ch, ok_it, ok_itA, ok_yes, v_addI, v_sub, v_neg, v_eqI, v_eqS, v_eqB, v_eq0, v_eqT0, v_neI, v_neS, v_neB, v_ne0, v_neT0, v_ltI, v_leI, v_gtI, v_geI, v_is, v_isNot, v_nn, v_ns, v_ni, v_nl, v_nt, v_tb, v_tl, v_tt, v_tn, v_ti, v_asB, v_asI, v_asL, v_asT, v_asS, v_lenL, v_lenT, v_tupL, v_tupT, v_listL, v_listT, v_intB, v_tup0, v_tup1, v_tup2, v_tup3, v_tup4, v_tup5, v_lst0, v_lst1, v_lst2, v_lst3, v_lst4, v_lst5, v_ok0, v_ok1, v_ok2, v_ix0L, v_ix0, v_ix1, v_ix2, v_ix3, v_fs, v_fi, v_fb, v_fn, v_ft, v_f0, v_fc, startR, List.map_cons, List.map_nil, List.length_cons, List.length_nil, List.replicate, List.cons_append, List.nil_append, List.set_cons_zero, List.set_cons_succ, Option.some.injEq, exists_eq_left', Nat.reduceAdd, Nat.reduceSub, Nat.sub_zero, Nat.sub_self, Nat.zero_add, Nat.reduceEqDiff, Bool.not_true, Bool.not_false, if_true, if_false, Bool.and_self, Bool.true_and, Bool.and_true, Bool.false_eq_true, ↓reduceIte, true_and, and_true, decide_true, decide_false, wipeR]
      rfl
    · rintro ds s4 rfl
      refine ⟨by rw [rng_len]; exact szL (by omega), fun j acc _ => ∃ xs : List Str, acc = xs.map PyData.str ∧ xs.length = j ∧ (∀ x ∈ xs, nameB (.str x) = true) ∧ xs.Nodup ∧ ∀ x ∈ xs, ∃ i c l, i < j ∧ x = mk (c :: l) ∧ grS.cps.toList[(f.toNat + i) % 26]? = some c, ⟨[], rfl, rfl, by simp, List.nodup_nil, by simp⟩, ?_, ?_⟩
      · rintro j d acc s5 hd ⟨xs, rfl, hl, hn, nd, hx⟩
        obtain ⟨hj, rfl⟩ := rng_get hd
        refine ⟨_, rfl, ?_⟩
        simp only [ok_V0, ok_Vs, ok_K, ok_B, ok_U, ok_nil, ok_cons, ok_N, ok_aN, ok_call, ok_nl, ok_fl, ok_afl, ok_T, ok_qNot, ok_qAnd, ok_qOr, ok_and, ok_or, ok_not, ok_if, ok_Sl, ok_oNo, ok_oOf, ok_Ch, ok_it, ok_itA, ok_yes, v_addI, v_sub, v_neg, v_eqI, v_eqS, v_eqB, v_eq0, v_eqT0, v_neI, v_neS, v_neB, v_ne0, v_neT0, v_ltI, v_leI, v_gtI, v_geI, v_is, v_isNot, v_nn, v_ns, v_ni, v_nl, v_nt, v_tb, v_tl, v_tt, v_tn, v_ti, v_asB, v_asI, v_asL, v_asT, v_asS, v_lenL, v_lenT, v_tupL, v_tupT, v_listL, v_listT, v_intB, v_tup0, v_tup1, v_tup2, v_tup3, v_tup4, v_tup5, v_lst0, v_lst1, v_lst2, v_lst3, v_lst4, v_lst5, v_ok0, v_ok1, v_ok2, v_ix0L, v_ix0, v_ix1, v_ix2, v_ix3, v_fs, v_fi, v_fb, v_fn, v_ft, v_f0, v_fc, startR, List.map_cons, List.map_nil, List.length_cons, List.length_nil, List.replicate, List.cons_append, List.nil_append, List.set_cons_zero, List.set_cons_succ, Option.some.injEq, exists_eq_left', Nat.reduceAdd, Nat.reduceSub, Nat.sub_zero, Nat.sub_self, Nat.zero_add, Nat.reduceEqDiff, Bool.not_true, Bool.not_false, if_true, if_false, Bool.and_self, Bool.true_and, Bool.and_true, Bool.false_eq_true, ↓reduceIte, true_and, and_true, decide_true, decide_false, wipeR]
        rw [v_mod (by decide)]
        simp only [ok_V0, ok_Vs, ok_K, ok_B, ok_U, ok_nil, ok_cons, ok_N, ok_aN, ok_call, ok_nl, ok_fl, ok_afl, ok_T, ok_qNot, ok_qAnd, ok_qOr, ok_and, ok_or, ok_not, ok_if, ok_Sl, ok_oNo, ok_oOf, ok_Ch, ok_it, ok_itA, ok_yes, v_addI, v_sub, v_neg, v_eqI, v_eqS, v_eqB, v_eq0, v_eqT0, v_neI, v_neS, v_neB, v_ne0, v_neT0, v_ltI, v_leI, v_gtI, v_geI, v_is, v_isNot, v_nn, v_ns, v_ni, v_nl, v_nt, v_tb, v_tl, v_tt, v_tn, v_ti, v_asB, v_asI, v_asL, v_asT, v_asS, v_lenL, v_lenT, v_tupL, v_tupT, v_listL, v_listT, v_intB, v_tup0, v_tup1, v_tup2, v_tup3, v_tup4, v_tup5, v_lst0, v_lst1, v_lst2, v_lst3, v_lst4, v_lst5, v_ok0, v_ok1, v_ok2, v_ix0L, v_ix0, v_ix1, v_ix2, v_ix3, v_fs, v_fi, v_fb, v_fn, v_ft, v_f0, v_fc, startR, List.map_cons, List.map_nil, List.length_cons, List.length_nil, List.replicate, List.cons_append, List.nil_append, List.set_cons_zero, List.set_cons_succ, Option.some.injEq, exists_eq_left', Nat.reduceAdd, Nat.reduceSub, Nat.sub_zero, Nat.sub_self, Nat.zero_add, Nat.reduceEqDiff, Bool.not_true, Bool.not_false, if_true, if_false, Bool.and_self, Bool.true_and, Bool.and_true, Bool.false_eq_true, ↓reduceIte, true_and, and_true, decide_true, decide_false, wipeR]
        have hm : (f + (0 + (j : Int))) % 26 = (((f.toNat + j) % 26 : Nat) : Int) := by omega
        rw [hm]
        obtain ⟨c, c1, c2, hc⟩ := ix_at (z := grS) (r := (((f.toNat + j) % 26 : Nat) : Int)) (by decide) (by omega) (by show _ < (26 : Int); omega)
        refine ⟨_, hc, ?_⟩
        refine k_take (by omega) (by omega) fun w2 s6 v0 v1 => ?_
        obtain ⟨w3, rfl⟩ : ∃ k : Nat, w2 = k := ⟨w2.toNat, by omega⟩
        refine ok_tail (n := w3) (by omega) fun l s7 hl7 hs => ?_
        refine ⟨_, v_addS (by rw [mk_len, mk_len, hl7]; exact szL (by simp; omega)), ?_⟩
        rw [mk_app]
        have c3 : grS.cps.toList[(f.toNat + j) % 26]? = some c := by rw [← c2]; congr 1
        refine ⟨xs ++ [mk ([c] ++ l)], by simp, by simp [hl], fun x hx2 => ?_, nodup_snoc nd fun hm => ?_, fun x hx2 => ?_⟩
        · rcases List.mem_append.mp hx2 with hx2 | hx2
          · exact hn x hx2
          · rw [List.mem_singleton.mp hx2]
            exact name_mk (l := l) c1 (by omega) hs
        · obtain ⟨i, c', l', hi, e2, c4⟩ := hx _ hm
          have e3 := congrArg (fun z : Str => z.cps.toList) e2
          simp only [mk_cps] at e3
          have e4 : c = c' := (List.cons.inj e3).1
          subst e4
          have := nth_inj gr_nd c3 c4
          omega
        · rcases List.mem_append.mp hx2 with hx2 | hx2
          · obtain ⟨i, c', l', hi, e2, c4⟩ := hx x hx2
            exact ⟨i, c', l', by omega, e2, c4⟩
          · rw [List.mem_singleton.mp hx2]
            exact ⟨j, c, l, by omega, rfl, c3⟩
      · rintro acc s5 ⟨xs, rfl, hl, hn, nd, hx⟩
        rw [rng_len] at hl
        exact q xs _ ⟨hl, nd, hn⟩
end Lw01
set_option Elab.async false
set_option linter.all false
set_option maxRecDepth 100000
set_option maxHeartbeats 1000000
namespace Lw01
open PySem PySem.Spec L2 Dl Mx Ds
structure Wds (xs : List Str) (n : Nat) : Prop where
  len : xs.length = n
  nd : xs.Nodup
  kd : ∀ x ∈ xs, kindB (.str x) = true
def sec : List Nat → Bool
  | _ :: d :: _ => decide (d ∈ qzS.cps.toList)
  | _ => false
theorem bar_sec : (barW.all fun w => !sec w.cps.toList) = true := by decide +kernel
theorem qz_sm : inAll qzS.cps.toList smS = true := by decide +kernel
theorem kind_mk {c d : Nat} {l : List Nat} (h : c ∈ smS.cps.toList) (hd : d ∈ qzS.cps.toList) (hl : l.length ≤ 6) (hs : inAll l smS = true) : kindB (.str (mk (c :: d :: l))) = true := by
  have hd2 : d ∈ smS.cps.toList := of_decide_eq_true (List.all_eq_true.mp qz_sm d hd)
  have hn : mk (c :: d :: l) ∉ barW := fun z => by
    have := List.all_eq_true.mp bar_sec _ z
    rw [mk_cps] at this
    have e : sec (c :: d :: l) = true := decide_eq_true hd
    rw [e] at this
    cases this
  rw [kindB_str, smallB_str, mk_cps, mk_len, decide_eq_false hn]
  have e1 : inAll (c :: d :: l) smS = true := by
    unfold inAll at *
    rw [List.all_cons, List.all_cons, decide_eq_true h, decide_eq_true hd2, hs]
    rfl
  rw [e1, List.length_cons, List.length_cons, decide_eq_true (show (2 : Int) ≤ ((l.length + 1 + 1 : Nat) : Int) by omega), decide_eq_true (show ((l.length + 1 + 1 : Nat) : Int) ≤ 8 by omega)]
  rfl
theorem ok_words {s : DS} {n : Nat} (h : n ≤ 20) {Q : D → DS → Prop} (q : ∀ xs s', Wds xs n → Q (.list (xs.map .str)) s') : Ok (K_w_words Ftake (K_w_tail Ftake) [hnd 0, .int (n : Nat)] s) Q := by
  unfold K_w_words B_w_words
  refine k_fn (k_seq (k_set ?_))
  simp only [ok_V0, ok_Vs, ok_K, ok_B, ok_U, ok_nil, ok_cons, ok_N, ok_aN, ok_call, ok_nl, ok_fl, ok_afl, ok_T, ok_qNot, ok_qAnd, ok_qOr, ok_and, ok_or, ok_not, ok_if, ok_Sl, ok_oNo, ok_oOf, ok_Ch, ok_it, ok_itA, ok_yes, v_addI, v_sub, v_neg, v_eqI, v_eqS, v_eqB, v_eq0, v_eqT0, v_neI, v_neS, v_neB, v_ne0, v_neT0, v_ltI, v_leI, v_gtI, v_geI, v_is, v_isNot, v_nn, v_ns, v_ni, v_nl, v_nt, v_tb, v_tl, v_tt, v_tn, v_ti, v_asB, v_asI, v_asL, v_asT, v_asS, v_lenL, v_lenT, v_tupL, v_tupT, v_listL, v_listT, v_intB, v_tup0, v_tup1, v_tup2, v_tup3, v_tup4, v_tup5, v_lst0, v_lst1, v_lst2, v_lst3, v_lst4, v_lst5, v_ok0, v_ok1, v_ok2, v_ix0L, v_ix0, v_ix1, v_ix2, v_ix3, v_fs, v_fi, v_fb, v_fn, v_ft, v_f0, v_fc, startR, List.map_cons, List.map_nil, List.length_cons, List.length_nil, List.replicate, List.cons_append, List.nil_append, List.set_cons_zero, List.set_cons_succ, Option.some.injEq, exists_eq_left', Nat.reduceAdd, Nat.reduceSub, Nat.sub_zero, Nat.sub_self, Nat.zero_add, Nat.reduceEqDiff, Bool.not_true, Bool.not_false, if_true, if_false, Bool.and_self, Bool.true_and, Bool.and_true, Bool.false_eq_true, ↓reduceIte, true_and, and_true, decide_true, decide_false, wipeR]
  refine k_seq (k_set ?_)
  simp only [ok_V0, ok_Vs, ok_K, ok_B, ok_U, ok_nil, ok_cons, ok_N, ok_aN, ok_call, ok_nl, ok_fl, ok_afl, ok_T, ok_qNot, ok_qAnd, ok_qOr, ok_and, ok_or, ok_not, ok_if, ok_Sl, ok_oNo, ok_oOf, ok_Ch, ok_it, ok_itA, ok_yes, v_addI, v_sub, v_neg, v_eqI, v_eqS, v_eqB, v_eq0, v_eqT0, v_neI, v_neS, v_neB, v_ne0, v_neT0, v_ltI, v_leI, v_gtI, v_geI, v_is, v_isNot, v_nn, v_ns, v_ni, v_nl, v_nt, v_tb, v_tl, v_tt, v_tn, v_ti, v_asB, v_asI, v_asL, v_asT, v_asS, v_lenL, v_lenT, v_tupL, v_tupT, v_listL, v_listT, v_intB, v_tup0, v_tup1, v_tup2, v_tup3, v_tup4, v_tup5, v_lst0, v_lst1, v_lst2, v_lst3, v_lst4, v_lst5, v_ok0, v_ok1, v_ok2, v_ix0L, v_ix0, v_ix1, v_ix2, v_ix3, v_fs, v_fi, v_fb, v_fn, v_ft, v_f0, v_fc, startR, List.map_cons, List.map_nil, List.length_cons, List.length_nil, List.replicate, List.cons_append, List.nil_append, List.set_cons_zero, List.set_cons_succ, Option.some.injEq, exists_eq_left', Nat.reduceAdd, Nat.reduceSub, Nat.sub_zero, Nat.sub_self, Nat.zero_add, Nat.reduceEqDiff, Bool.not_true, Bool.not_false, if_true, if_false, Bool.and_self, Bool.true_and, Bool.and_true, Bool.false_eq_true, ↓reduceIte, true_and, and_true, decide_true, decide_false, wipeR]
  refine k_take (by omega) (by omega) fun f s1 f0 f1 => ?_
  refine k_seq (k_sIf ?_)
  simp only [ok_V0, ok_Vs, ok_K, ok_B, ok_U, ok_nil, ok_cons, ok_N, ok_aN, ok_call, ok_nl, ok_fl, ok_afl, ok_T, ok_qNot, ok_qAnd, ok_qOr, ok_and, ok_or, ok_not, ok_if, ok_Sl, ok_oNo, ok_oOf, ok_Ch, ok_it, ok_itA, ok_yes, v_addI, v_sub, v_neg, v_eqI, v_eqS, v_eqB, v_eq0, v_eqT0, v_neI, v_neS, v_neB, v_ne0, v_neT0, v_ltI, v_leI, v_gtI, v_geI, v_is, v_isNot, v_nn, v_ns, v_ni, v_nl, v_nt, v_tb, v_tl, v_tt, v_tn, v_ti, v_asB, v_asI, v_asL, v_asT, v_asS, v_lenL, v_lenT, v_tupL, v_tupT, v_listL, v_listT, v_intB, v_tup0, v_tup1, v_tup2, v_tup3, v_tup4, v_tup5, v_lst0, v_lst1, v_lst2, v_lst3, v_lst4, v_lst5, v_ok0, v_ok1, v_ok2, v_ix0L, v_ix0, v_ix1, v_ix2, v_ix3, v_fs, v_fi, v_fb, v_fn, v_ft, v_f0, v_fc, startR, List.map_cons, List.map_nil, List.length_cons, List.length_nil, List.replicate, List.cons_append, List.nil_append, List.set_cons_zero, List.set_cons_succ, Option.some.injEq, exists_eq_left', Nat.reduceAdd, Nat.reduceSub, Nat.sub_zero, Nat.sub_self, Nat.zero_add, Nat.reduceEqDiff, Bool.not_true, Bool.not_false, if_true, if_false, Bool.and_self, Bool.true_and, Bool.and_true, Bool.false_eq_true, ↓reduceIte, true_and, and_true, decide_true, decide_false, wipeR]
  refine k_take (by omega) (by omega) fun w s2 w0 w1 => ?_
  simp only [ok_V0, ok_Vs, ok_K, ok_B, ok_U, ok_nil, ok_cons, ok_N, ok_aN, ok_call, ok_nl, ok_fl, ok_afl, ok_T, ok_qNot, ok_qAnd, ok_qOr, ok_and, ok_or, ok_not, ok_if, ok_Sl, ok_oNo, ok_oOf, ok_Ch, ok_it, ok_itA, ok_yes, v_addI, v_sub, v_neg, v_eqI, v_eqS, v_eqB, v_eq0, v_eqT0, v_neI, v_neS, v_neB, v_ne0, v_neT0, v_ltI, v_leI, v_gtI, v_geI, v_is, v_isNot, v_nn, v_ns, v_ni, v_nl, v_nt, v_tb, v_tl, v_tt, v_tn, v_ti, v_asB, v_asI, v_asL, v_asT, v_asS, v_lenL, v_lenT, v_tupL, v_tupT, v_listL, v_listT, v_intB, v_tup0, v_tup1, v_tup2, v_tup3, v_tup4, v_tup5, v_lst0, v_lst1, v_lst2, v_lst3, v_lst4, v_lst5, v_ok0, v_ok1, v_ok2, v_ix0L, v_ix0, v_ix1, v_ix2, v_ix3, v_fs, v_fi, v_fb, v_fn, v_ft, v_f0, v_fc, startR, List.map_cons, List.map_nil, List.length_cons, List.length_nil, List.replicate, List.cons_append, List.nil_append, List.set_cons_zero, List.set_cons_succ, Option.some.injEq, exists_eq_left', Nat.reduceAdd, Nat.reduceSub, Nat.sub_zero, Nat.sub_self, Nat.zero_add, Nat.reduceEqDiff, Bool.not_true, Bool.not_false, if_true, if_false, Bool.and_self, Bool.true_and, Bool.and_true, Bool.false_eq_true, ↓reduceIte, true_and, and_true, decide_true, decide_false, wipeR]
  have second : ∀ s3 : DS, Ok (sSeq (sOwn 5 (aN lenOk aNil)) (sSeq (sFor (iOfA pR1 (aCons (cVar 1) aNil)) (gNm 6) (sApp 5 (cB pAdd (cB pAdd (cB pIx (cVar 2) (cB pMod (cB pAdd (cVar 3) (cVar 6)) (cK (.int 26)))) (cB pIx (cK (.str "qzkj")) (cCall 2 Ftake (aCons (cVar 0) (aCons (cK (.int 4)) aNil))))) (cCall 2 (K_w_tail Ftake) (aCons (cVar 0) (aCons (cCall 2 Ftake (aCons (cVar 0) (aCons (cK (.int 7)) aNil))) aNil)))))) (sRet (cVar 5)))
      [some (hnd 0), some (.int (n : Nat)), some (.str smS), some (.int f), none, none, none] s3) fun r s => match r with | .rt d => Q d s | .nx _ => Q .none s | _ => False := fun s3 => by
    refine k_seq (k_own ?_)
    simp only [ok_V0, ok_Vs, ok_K, ok_B, ok_U, ok_nil, ok_cons, ok_N, ok_aN, ok_call, ok_nl, ok_fl, ok_afl, ok_T, ok_qNot, ok_qAnd, ok_qOr, ok_and, ok_or, ok_not, ok_if, ok_Sl, ok_oNo, ok_oOf, ok_Ch, ok_it, ok_itA, ok_yes, v_addI, v_sub, v_neg, v_eqI, v_eqS, v_eqB, v_eq0, v_eqT0, v_neI, v_neS, v_neB, v_ne0, v_neT0, v_ltI, v_leI, v_gtI, v_geI, v_is, v_isNot, v_nn, v_ns, v_ni, v_nl, v_nt, v_tb, v_tl, v_tt, v_tn, v_ti, v_asB, v_asI, v_asL, v_asT, v_asS, v_lenL, v_lenT, v_tupL, v_tupT, v_listL, v_listT, v_intB, v_tup0, v_tup1, v_tup2, v_tup3, v_tup4, v_tup5, v_lst0, v_lst1, v_lst2, v_lst3, v_lst4, v_lst5, v_ok0, v_ok1, v_ok2, v_ix0L, v_ix0, v_ix1, v_ix2, v_ix3, v_fs, v_fi, v_fb, v_fn, v_ft, v_f0, v_fc, startR, List.map_cons, List.map_nil, List.length_cons, List.length_nil, List.replicate, List.cons_append, List.nil_append, List.set_cons_zero, List.set_cons_succ, Option.some.injEq, exists_eq_left', Nat.reduceAdd, Nat.reduceSub, Nat.sub_zero, Nat.sub_self, Nat.zero_add, Nat.reduceEqDiff, Bool.not_true, Bool.not_false, if_true, if_false, Bool.and_self, Bool.true_and, Bool.and_true, Bool.false_eq_true, ↓reduceIte, true_and, and_true, decide_true, decide_false, wipeR]
    refine k_seq (k_forP (fun ds s' => ds = rngD 0 n) ?_ ?_)
    · simp only [ok_V0, ok_Vs, ok_K, ok_B, ok_U, ok_nil, ok_cons, ok_N, ok_aN, ok_call, ok_nl, ok_fl, ok_afl, ok_T, ok_qNot, ok_qAnd, ok_qOr, ok_and, ok_or, ok_not, ok_if, ok_Sl, ok_oNo, ok_oOf, ok_Ch, ok_it, ok_itA, ok_yes, v_addI, v_sub, v_neg, v_eqI, v_eqS, v_eqB, v_eq0, v_eqT0, v_neI, v_neS, v_neB, v_ne0, v_neT0, v_ltI, v_leI, v_gtI, v_geI, v_is, v_isNot, v_nn, v_ns, v_ni, v_nl, v_nt, v_tb, v_tl, v_tt, v_tn, v_ti, v_asB, v_asI, v_asL, v_asT, v_asS, v_lenL, v_lenT, v_tupL, v_tupT, v_listL, v_listT, v_intB, v_tup0, v_tup1, v_tup2, v_tup3, v_tup4, v_tup5, v_lst0, v_lst1, v_lst2, v_lst3, v_lst4, v_lst5, v_ok0, v_ok1, v_ok2, v_ix0L, v_ix0, v_ix1, v_ix2, v_ix3, v_fs, v_fi, v_fb, v_fn, v_ft, v_f0, v_fc, startR, List.map_cons, List.map_nil, List.length_cons, List.length_nil, List.replicate, List.cons_append, List.nil_append, List.set_cons_zero, List.set_cons_succ, Option.some.injEq, exists_eq_left', Nat.reduceAdd, Nat.reduceSub, Nat.sub_zero, Nat.sub_self, Nat.zero_add, Nat.reduceEqDiff, Bool.not_true, Bool.not_false, if_true, if_false, Bool.and_self, Bool.true_and, Bool.and_true, Bool.false_eq_true, ↓reduceIte, true_and, and_true, decide_true, decide_false, wipeR]
      rw [pr1 (by omega) (by omega)]
      simp only [ok_V0, ok_Vs, ok_K, ok_B, ok_U, ok_nil, ok_cons, ok_N, ok_aN, ok_call, ok_nl, ok_fl, ok_afl, ok_T, ok_qNot, ok_qAnd, ok_qOr, ok_and, ok_or, ok_not, ok_if, ok_Sl, ok_oNo, ok_oOf, ok_Ch, ok_it, ok_itA, ok_yes, v_addI, v_sub, v_neg, v_eqI, v_eqS, v_eqB, v_eq0, v_eqT0, v_neI, v_neS, v_neB, v_ne0, v_neT0, v_ltI, v_leI, v_gtI, v_geI, v_is, v_isNot, v_nn, v_ns, v_ni, v_nl, v_nt, v_tb, v_tl, v_tt, v_tn, v_ti, v_asB, v_asI, v_asL, v_asT, v_asS, v_lenL, v_lenT, v_tupL, v_tupT, v_listL, v_listT, v_intB, v_tup0, v_tup1, v_tup2, v_tup3, v_tup4, v_tup5, v_lst0, v_lst1, v_lst2, v_lst3, v_lst4, v_lst5, v_ok0, v_ok1, v_ok2, v_ix0L, v_ix0, v_ix1, v_ix2, v_ix3, v_fs, v_fi, v_fb, v_fn, v_ft, v_f0, v_fc, startR, List.map_cons, List.map_nil, List.length_cons, List.length_nil, List.replicate, List.cons_append, List.nil_append, List.set_cons_zero, List.set_cons_succ, Option.some.injEq, exists_eq_left', Nat.reduceAdd, Nat.reduceSub, Nat.sub_zero, Nat.sub_self, Nat.zero_add, Nat.reduceEqDiff, Bool.not_true, Bool.not_false, if_true, if_false, Bool.and_self, Bool.true_and, Bool.and_true, Bool.false_eq_true, ↓reduceIte, true_and, and_true, decide_true, decide_false, wipeR]
      rfl
    · rintro ds s4 rfl
      refine ⟨fun j ρ _ => ∃ (xs : List Str) (o : Option D), ρ = [some (hnd 0), some (.int (n : Nat)), some (.str smS), some (.int f), none, some (.list (xs.map PyData.str)), o] ∧ xs.length = j ∧ (∀ x ∈ xs, kindB (.str x) = true) ∧ xs.Nodup ∧ ∀ x ∈ xs, ∃ i c l, i < j ∧ x = mk (c :: l) ∧ smS.cps.toList[(f.toNat + i) % 26]? = some c, ⟨[], none, rfl, rfl, by simp, List.nodup_nil, by simp⟩, ?_, ?_⟩
      · rintro j d ρ s5 hd ⟨xs, o, rfl, hl, hn, nd, hx⟩
        obtain ⟨hj, rfl⟩ := rng_get hd
        refine ⟨_, rfl, ?_⟩
        refine k_app (ds := xs.map PyData.str) rfl (by rw [List.length_map]; exact szl (by omega)) ?_
        simp only [ok_V0, ok_Vs, ok_K, ok_B, ok_U, ok_nil, ok_cons, ok_N, ok_aN, ok_call, ok_nl, ok_fl, ok_afl, ok_T, ok_qNot, ok_qAnd, ok_qOr, ok_and, ok_or, ok_not, ok_if, ok_Sl, ok_oNo, ok_oOf, ok_Ch, ok_it, ok_itA, ok_yes, v_addI, v_sub, v_neg, v_eqI, v_eqS, v_eqB, v_eq0, v_eqT0, v_neI, v_neS, v_neB, v_ne0, v_neT0, v_ltI, v_leI, v_gtI, v_geI, v_is, v_isNot, v_nn, v_ns, v_ni, v_nl, v_nt, v_tb, v_tl, v_tt, v_tn, v_ti, v_asB, v_asI, v_asL, v_asT, v_asS, v_lenL, v_lenT, v_tupL, v_tupT, v_listL, v_listT, v_intB, v_tup0, v_tup1, v_tup2, v_tup3, v_tup4, v_tup5, v_lst0, v_lst1, v_lst2, v_lst3, v_lst4, v_lst5, v_ok0, v_ok1, v_ok2, v_ix0L, v_ix0, v_ix1, v_ix2, v_ix3, v_fs, v_fi, v_fb, v_fn, v_ft, v_f0, v_fc, startR, List.map_cons, List.map_nil, List.length_cons, List.length_nil, List.replicate, List.cons_append, List.nil_append, List.set_cons_zero, List.set_cons_succ, Option.some.injEq, exists_eq_left', Nat.reduceAdd, Nat.reduceSub, Nat.sub_zero, Nat.sub_self, Nat.zero_add, Nat.reduceEqDiff, Bool.not_true, Bool.not_false, if_true, if_false, Bool.and_self, Bool.true_and, Bool.and_true, Bool.false_eq_true, ↓reduceIte, true_and, and_true, decide_true, decide_false, wipeR]
        rw [v_mod (by decide)]
        simp only [ok_V0, ok_Vs, ok_K, ok_B, ok_U, ok_nil, ok_cons, ok_N, ok_aN, ok_call, ok_nl, ok_fl, ok_afl, ok_T, ok_qNot, ok_qAnd, ok_qOr, ok_and, ok_or, ok_not, ok_if, ok_Sl, ok_oNo, ok_oOf, ok_Ch, ok_it, ok_itA, ok_yes, v_addI, v_sub, v_neg, v_eqI, v_eqS, v_eqB, v_eq0, v_eqT0, v_neI, v_neS, v_neB, v_ne0, v_neT0, v_ltI, v_leI, v_gtI, v_geI, v_is, v_isNot, v_nn, v_ns, v_ni, v_nl, v_nt, v_tb, v_tl, v_tt, v_tn, v_ti, v_asB, v_asI, v_asL, v_asT, v_asS, v_lenL, v_lenT, v_tupL, v_tupT, v_listL, v_listT, v_intB, v_tup0, v_tup1, v_tup2, v_tup3, v_tup4, v_tup5, v_lst0, v_lst1, v_lst2, v_lst3, v_lst4, v_lst5, v_ok0, v_ok1, v_ok2, v_ix0L, v_ix0, v_ix1, v_ix2, v_ix3, v_fs, v_fi, v_fb, v_fn, v_ft, v_f0, v_fc, startR, List.map_cons, List.map_nil, List.length_cons, List.length_nil, List.replicate, List.cons_append, List.nil_append, List.set_cons_zero, List.set_cons_succ, Option.some.injEq, exists_eq_left', Nat.reduceAdd, Nat.reduceSub, Nat.sub_zero, Nat.sub_self, Nat.zero_add, Nat.reduceEqDiff, Bool.not_true, Bool.not_false, if_true, if_false, Bool.and_self, Bool.true_and, Bool.and_true, Bool.false_eq_true, ↓reduceIte, true_and, and_true, decide_true, decide_false, wipeR]
        have hm : (f + (0 + (j : Int))) % 26 = (((f.toNat + j) % 26 : Nat) : Int) := by omega
        rw [hm]
        obtain ⟨c, c1, c2, hc⟩ := ix_at (z := smS) (r := (((f.toNat + j) % 26 : Nat) : Int)) (by decide) (by omega) (by show _ < (26 : Int); omega)
        refine ⟨_, hc, ?_⟩
        refine k_take (by omega) (by omega) fun w4 s6 u0 u1 => ?_
        obtain ⟨d, d1, d2, hd2⟩ := ix_at (z := qzS) (r := w4) (by decide) u0 u1
        refine ⟨_, hd2, ?_⟩
        refine ⟨_, v_addS (by rw [mk_len, mk_len]; exact szL (by simp)), ?_⟩
        rw [mk_app]
        refine k_take (by omega) (by omega) fun w2 s6 v0 v1 => ?_
        obtain ⟨w3, rfl⟩ : ∃ k : Nat, w2 = k := ⟨w2.toNat, by omega⟩
        refine ok_tail (n := w3) (by omega) fun l s7 hl7 hs => ?_
        refine ⟨_, v_addS (by rw [mk_len, mk_len, hl7]; exact szL (by simp; omega)), ?_⟩
        rw [mk_app]
        have c3 : smS.cps.toList[(f.toNat + j) % 26]? = some c := by rw [← c2]; congr 1
        refine ⟨xs ++ [mk ([c] ++ [d] ++ l)], some (.int (0 + (j : Int))), by simp only [List.map_append, List.map_cons, List.map_nil], by simp [hl], fun x hx2 => ?_, nodup_snoc nd fun hm => ?_, fun x hx2 => ?_⟩
        · rcases List.mem_append.mp hx2 with hx2 | hx2
          · exact hn x hx2
          · rw [List.mem_singleton.mp hx2]
            exact kind_mk (l := l) c1 d1 (by omega) hs
        · obtain ⟨i, c', l', hi, e2, c4⟩ := hx _ hm
          have e3 := congrArg (fun z : Str => z.cps.toList) e2
          simp only [mk_cps] at e3
          have e4 : c = c' := (List.cons.inj e3).1
          subst e4
          have := nth_inj sm_nd c3 c4
          omega
        · rcases List.mem_append.mp hx2 with hx2 | hx2
          · obtain ⟨i, c', l', hi, e2, c4⟩ := hx x hx2
            exact ⟨i, c', l', by omega, e2, c4⟩
          · rw [List.mem_singleton.mp hx2]
            exact ⟨j, c, d :: l, by omega, rfl, c3⟩
      · rintro ρ s5 ⟨xs, o, rfl, hl, hn, nd, hx⟩
        rw [rng_len] at hl
        refine k_ret ?_
        simp only [ok_V0, ok_Vs, ok_K, ok_B, ok_U, ok_nil, ok_cons, ok_N, ok_aN, ok_call, ok_nl, ok_fl, ok_afl, ok_T, ok_qNot, ok_qAnd, ok_qOr, ok_and, ok_or, ok_not, ok_if, ok_Sl, ok_oNo, ok_oOf, ok_Ch, ok_it, ok_itA, ok_yes, v_addI, v_sub, v_neg, v_eqI, v_eqS, v_eqB, v_eq0, v_eqT0, v_neI, v_neS, v_neB, v_ne0, v_neT0, v_ltI, v_leI, v_gtI, v_geI, v_is, v_isNot, v_nn, v_ns, v_ni, v_nl, v_nt, v_tb, v_tl, v_tt, v_tn, v_ti, v_asB, v_asI, v_asL, v_asT, v_asS, v_lenL, v_lenT, v_tupL, v_tupT, v_listL, v_listT, v_intB, v_tup0, v_tup1, v_tup2, v_tup3, v_tup4, v_tup5, v_lst0, v_lst1, v_lst2, v_lst3, v_lst4, v_lst5, v_ok0, v_ok1, v_ok2, v_ix0L, v_ix0, v_ix1, v_ix2, v_ix3, v_fs, v_fi, v_fb, v_fn, v_ft, v_f0, v_fc, startR, List.map_cons, List.map_nil, List.length_cons, List.length_nil, List.replicate, List.cons_append, List.nil_append, List.set_cons_zero, List.set_cons_succ, Option.some.injEq, exists_eq_left', Nat.reduceAdd, Nat.reduceSub, Nat.sub_zero, Nat.sub_self, Nat.zero_add, Nat.reduceEqDiff, Bool.not_true, Bool.not_false, if_true, if_false, Bool.and_self, Bool.true_and, Bool.and_true, Bool.false_eq_true, ↓reduceIte, true_and, and_true, decide_true, decide_false, wipeR]
        exact q xs _ ⟨hl, nd, hn⟩
  by_cases hw : w = 0
  · rw [decide_eq_true hw]
    simp only [ok_V0, ok_Vs, ok_K, ok_B, ok_U, ok_nil, ok_cons, ok_N, ok_aN, ok_call, ok_nl, ok_fl, ok_afl, ok_T, ok_qNot, ok_qAnd, ok_qOr, ok_and, ok_or, ok_not, ok_if, ok_Sl, ok_oNo, ok_oOf, ok_Ch, ok_it, ok_itA, ok_yes, v_addI, v_sub, v_neg, v_eqI, v_eqS, v_eqB, v_eq0, v_eqT0, v_neI, v_neS, v_neB, v_ne0, v_neT0, v_ltI, v_leI, v_gtI, v_geI, v_is, v_isNot, v_nn, v_ns, v_ni, v_nl, v_nt, v_tb, v_tl, v_tt, v_tn, v_ti, v_asB, v_asI, v_asL, v_asT, v_asS, v_lenL, v_lenT, v_tupL, v_tupT, v_listL, v_listT, v_intB, v_tup0, v_tup1, v_tup2, v_tup3, v_tup4, v_tup5, v_lst0, v_lst1, v_lst2, v_lst3, v_lst4, v_lst5, v_ok0, v_ok1, v_ok2, v_ix0L, v_ix0, v_ix1, v_ix2, v_ix3, v_fs, v_fi, v_fb, v_fn, v_ft, v_f0, v_fc, startR, List.map_cons, List.map_nil, List.length_cons, List.length_nil, List.replicate, List.cons_append, List.nil_append, List.set_cons_zero, List.set_cons_succ, Option.some.injEq, exists_eq_left', Nat.reduceAdd, Nat.reduceSub, Nat.sub_zero, Nat.sub_self, Nat.zero_add, Nat.reduceEqDiff, Bool.not_true, Bool.not_false, if_true, if_false, Bool.and_self, Bool.true_and, Bool.and_true, Bool.false_eq_true, ↓reduceIte, true_and, and_true, decide_true, decide_false, wipeR]
    by_cases h7 : ((n : Int)) < 7
    · rw [decide_eq_true h7]
      simp only [ok_V0, ok_Vs, ok_K, ok_B, ok_U, ok_nil, ok_cons, ok_N, ok_aN, ok_call, ok_nl, ok_fl, ok_afl, ok_T, ok_qNot, ok_qAnd, ok_qOr, ok_and, ok_or, ok_not, ok_if, ok_Sl, ok_oNo, ok_oOf, ok_Ch, ok_it, ok_itA, ok_yes, v_addI, v_sub, v_neg, v_eqI, v_eqS, v_eqB, v_eq0, v_eqT0, v_neI, v_neS, v_neB, v_ne0, v_neT0, v_ltI, v_leI, v_gtI, v_geI, v_is, v_isNot, v_nn, v_ns, v_ni, v_nl, v_nt, v_tb, v_tl, v_tt, v_tn, v_ti, v_asB, v_asI, v_asL, v_asT, v_asS, v_lenL, v_lenT, v_tupL, v_tupT, v_listL, v_listT, v_intB, v_tup0, v_tup1, v_tup2, v_tup3, v_tup4, v_tup5, v_lst0, v_lst1, v_lst2, v_lst3, v_lst4, v_lst5, v_ok0, v_ok1, v_ok2, v_ix0L, v_ix0, v_ix1, v_ix2, v_ix3, v_fs, v_fi, v_fb, v_fn, v_ft, v_f0, v_fc, startR, List.map_cons, List.map_nil, List.length_cons, List.length_nil, List.replicate, List.cons_append, List.nil_append, List.set_cons_zero, List.set_cons_succ, Option.some.injEq, exists_eq_left', Nat.reduceAdd, Nat.reduceSub, Nat.sub_zero, Nat.sub_self, Nat.zero_add, Nat.reduceEqDiff, Bool.not_true, Bool.not_false, if_true, if_false, Bool.and_self, Bool.true_and, Bool.and_true, Bool.false_eq_true, ↓reduceIte, true_and, and_true, decide_true, decide_false, wipeR]
      refine k_seq (k_set ?_)
      simp only [ok_V0, ok_Vs, ok_K, ok_B, ok_U, ok_nil, ok_cons, ok_N, ok_aN, ok_call, ok_nl, ok_fl, ok_afl, ok_T, ok_qNot, ok_qAnd, ok_qOr, ok_and, ok_or, ok_not, ok_if, ok_Sl, ok_oNo, ok_oOf, ok_Ch, ok_it, ok_itA, ok_yes, v_addI, v_sub, v_neg, v_eqI, v_eqS, v_eqB, v_eq0, v_eqT0, v_neI, v_neS, v_neB, v_ne0, v_neT0, v_ltI, v_leI, v_gtI, v_geI, v_is, v_isNot, v_nn, v_ns, v_ni, v_nl, v_nt, v_tb, v_tl, v_tt, v_tn, v_ti, v_asB, v_asI, v_asL, v_asT, v_asS, v_lenL, v_lenT, v_tupL, v_tupT, v_listL, v_listT, v_intB, v_tup0, v_tup1, v_tup2, v_tup3, v_tup4, v_tup5, v_lst0, v_lst1, v_lst2, v_lst3, v_lst4, v_lst5, v_ok0, v_ok1, v_ok2, v_ix0L, v_ix0, v_ix1, v_ix2, v_ix3, v_fs, v_fi, v_fb, v_fn, v_ft, v_f0, v_fc, startR, List.map_cons, List.map_nil, List.length_cons, List.length_nil, List.replicate, List.cons_append, List.nil_append, List.set_cons_zero, List.set_cons_succ, Option.some.injEq, exists_eq_left', Nat.reduceAdd, Nat.reduceSub, Nat.sub_zero, Nat.sub_self, Nat.zero_add, Nat.reduceEqDiff, Bool.not_true, Bool.not_false, if_true, if_false, Bool.and_self, Bool.true_and, Bool.and_true, Bool.false_eq_true, ↓reduceIte, true_and, and_true, decide_true, decide_false, wipeR]
      obtain ⟨c, c1, c2, hc⟩ := ix_at (z := smS) (r := f) (by decide) f0 f1
      refine ⟨_, hc, ?_⟩
      refine k_take (by omega) (by omega) fun w4 s6 u0 u1 => ?_
      obtain ⟨d, d1, d2, hd2⟩ := ix_at (z := qzS) (r := w4) (by decide) u0 u1
      refine ⟨_, hd2, ?_⟩
      refine ⟨_, v_addS (by rw [mk_len, mk_len]; exact szL (by simp)), ?_⟩
      rw [mk_app]
      refine ok_tail (n := 6) (by omega) fun l s3 hl hs => ?_
      refine ⟨_, v_addS (by rw [mk_len, mk_len, hl]; exact szL (by simp)), ?_⟩
      rw [mk_app]
      refine k_ret ?_
      simp only [ok_V0, ok_Vs, ok_K, ok_B, ok_U, ok_nil, ok_cons, ok_N, ok_aN, ok_call, ok_nl, ok_fl, ok_afl, ok_T, ok_qNot, ok_qAnd, ok_qOr, ok_and, ok_or, ok_not, ok_if, ok_Sl, ok_oNo, ok_oOf, ok_Ch, ok_it, ok_itA, ok_yes, v_addI, v_sub, v_neg, v_eqI, v_eqS, v_eqB, v_eq0, v_eqT0, v_neI, v_neS, v_neB, v_ne0, v_neT0, v_ltI, v_leI, v_gtI, v_geI, v_is, v_isNot, v_nn, v_ns, v_ni, v_nl, v_nt, v_tb, v_tl, v_tt, v_tn, v_ti, v_asB, v_asI, v_asL, v_asT, v_asS, v_lenL, v_lenT, v_tupL, v_tupT, v_listL, v_listT, v_intB, v_tup0, v_tup1, v_tup2, v_tup3, v_tup4, v_tup5, v_lst0, v_lst1, v_lst2, v_lst3, v_lst4, v_lst5, v_ok0, v_ok1, v_ok2, v_ix0L, v_ix0, v_ix1, v_ix2, v_ix3, v_fs, v_fi, v_fb, v_fn, v_ft, v_f0, v_fc, startR, List.map_cons, List.map_nil, List.length_cons, List.length_nil, List.replicate, List.cons_append, List.nil_append, List.set_cons_zero, List.set_cons_succ, Option.some.injEq, exists_eq_left', Nat.reduceAdd, Nat.reduceSub, Nat.sub_zero, Nat.sub_self, Nat.zero_add, Nat.reduceEqDiff, Bool.not_true, Bool.not_false, if_true, if_false, Bool.and_self, Bool.true_and, Bool.and_true, Bool.false_eq_true, ↓reduceIte, true_and, and_true, decide_true, decide_false, wipeR]
      refine k_lcP (fun ds s' => ds = rngD 0 n) ?_ ?_
      · simp only [ok_V0, ok_Vs, ok_K, ok_B, ok_U, ok_nil, ok_cons, ok_N, ok_aN, ok_call, ok_nl, ok_fl, ok_afl, ok_T, ok_qNot, ok_qAnd, ok_qOr, ok_and, ok_or, ok_not, ok_if, ok_Sl, ok_oNo, ok_oOf, ok_Ch, ok_it, ok_itA, ok_yes, v_addI, v_sub, v_neg, v_eqI, v_eqS, v_eqB, v_eq0, v_eqT0, v_neI, v_neS, v_neB, v_ne0, v_neT0, v_ltI, v_leI, v_gtI, v_geI, v_is, v_isNot, v_nn, v_ns, v_ni, v_nl, v_nt, v_tb, v_tl, v_tt, v_tn, v_ti, v_asB, v_asI, v_asL, v_asT, v_asS, v_lenL, v_lenT, v_tupL, v_tupT, v_listL, v_listT, v_intB, v_tup0, v_tup1, v_tup2, v_tup3, v_tup4, v_tup5, v_lst0, v_lst1, v_lst2, v_lst3, v_lst4, v_lst5, v_ok0, v_ok1, v_ok2, v_ix0L, v_ix0, v_ix1, v_ix2, v_ix3, v_fs, v_fi, v_fb, v_fn, v_ft, v_f0, v_fc, startR, List.map_cons, List.map_nil, List.length_cons, List.length_nil, List.replicate, List.cons_append, List.nil_append, List.set_cons_zero, List.set_cons_succ, Option.some.injEq, exists_eq_left', Nat.reduceAdd, Nat.reduceSub, Nat.sub_zero, Nat.sub_self, Nat.zero_add, Nat.reduceEqDiff, Bool.not_true, Bool.not_false, if_true, if_false, Bool.and_self, Bool.true_and, Bool.and_true, Bool.false_eq_true, ↓reduceIte, true_and, and_true, decide_true, decide_false, wipeR]
        rw [pr1 (by omega) (by omega)]
        simp only [ok_V0, ok_Vs, ok_K, ok_B, ok_U, ok_nil, ok_cons, ok_N, ok_aN, ok_call, ok_nl, ok_fl, ok_afl, ok_T, ok_qNot, ok_qAnd, ok_qOr, ok_and, ok_or, ok_not, ok_if, ok_Sl, ok_oNo, ok_oOf, ok_Ch, ok_it, ok_itA, ok_yes, v_addI, v_sub, v_neg, v_eqI, v_eqS, v_eqB, v_eq0, v_eqT0, v_neI, v_neS, v_neB, v_ne0, v_neT0, v_ltI, v_leI, v_gtI, v_geI, v_is, v_isNot, v_nn, v_ns, v_ni, v_nl, v_nt, v_tb, v_tl, v_tt, v_tn, v_ti, v_asB, v_asI, v_asL, v_asT, v_asS, v_lenL, v_lenT, v_tupL, v_tupT, v_listL, v_listT, v_intB, v_tup0, v_tup1, v_tup2, v_tup3, v_tup4, v_tup5, v_lst0, v_lst1, v_lst2, v_lst3, v_lst4, v_lst5, v_ok0, v_ok1, v_ok2, v_ix0L, v_ix0, v_ix1, v_ix2, v_ix3, v_fs, v_fi, v_fb, v_fn, v_ft, v_f0, v_fc, startR, List.map_cons, List.map_nil, List.length_cons, List.length_nil, List.replicate, List.cons_append, List.nil_append, List.set_cons_zero, List.set_cons_succ, Option.some.injEq, exists_eq_left', Nat.reduceAdd, Nat.reduceSub, Nat.sub_zero, Nat.sub_self, Nat.zero_add, Nat.reduceEqDiff, Bool.not_true, Bool.not_false, if_true, if_false, Bool.and_self, Bool.true_and, Bool.and_true, Bool.false_eq_true, ↓reduceIte, true_and, and_true, decide_true, decide_false, wipeR]
        rfl
      · rintro ds s4 rfl
        refine ⟨by rw [rng_len]; exact szL (by omega), fun j acc _ => acc = (List.range j).map fun i => PyData.str (mk (([c] ++ [d] ++ l).take (i + 2))), rfl, ?_, ?_⟩
        · rintro j x acc s5 hx rfl
          obtain ⟨hj, rfl⟩ := rng_get hx
          refine ⟨_, rfl, ?_⟩
          simp only [ok_V0, ok_Vs, ok_K, ok_B, ok_U, ok_nil, ok_cons, ok_N, ok_aN, ok_call, ok_nl, ok_fl, ok_afl, ok_T, ok_qNot, ok_qAnd, ok_qOr, ok_and, ok_or, ok_not, ok_if, ok_Sl, ok_oNo, ok_oOf, ok_Ch, ok_it, ok_itA, ok_yes, v_addI, v_sub, v_neg, v_eqI, v_eqS, v_eqB, v_eq0, v_eqT0, v_neI, v_neS, v_neB, v_ne0, v_neT0, v_ltI, v_leI, v_gtI, v_geI, v_is, v_isNot, v_nn, v_ns, v_ni, v_nl, v_nt, v_tb, v_tl, v_tt, v_tn, v_ti, v_asB, v_asI, v_asL, v_asT, v_asS, v_lenL, v_lenT, v_tupL, v_tupT, v_listL, v_listT, v_intB, v_tup0, v_tup1, v_tup2, v_tup3, v_tup4, v_tup5, v_lst0, v_lst1, v_lst2, v_lst3, v_lst4, v_lst5, v_ok0, v_ok1, v_ok2, v_ix0L, v_ix0, v_ix1, v_ix2, v_ix3, v_fs, v_fi, v_fb, v_fn, v_ft, v_f0, v_fc, startR, List.map_cons, List.map_nil, List.length_cons, List.length_nil, List.replicate, List.cons_append, List.nil_append, List.set_cons_zero, List.set_cons_succ, Option.some.injEq, exists_eq_left', Nat.reduceAdd, Nat.reduceSub, Nat.sub_zero, Nat.sub_self, Nat.zero_add, Nat.reduceEqDiff, Bool.not_true, Bool.not_false, if_true, if_false, Bool.and_self, Bool.true_and, Bool.and_true, Bool.false_eq_true, ↓reduceIte, true_and, and_true, decide_true, decide_false, wipeR]
          rw [v_slS (by rw [mk_len]; exact szL (by simp [hl]))]
          simp only [ok_V0, ok_Vs, ok_K, ok_B, ok_U, ok_nil, ok_cons, ok_N, ok_aN, ok_call, ok_nl, ok_fl, ok_afl, ok_T, ok_qNot, ok_qAnd, ok_qOr, ok_and, ok_or, ok_not, ok_if, ok_Sl, ok_oNo, ok_oOf, ok_Ch, ok_it, ok_itA, ok_yes, v_addI, v_sub, v_neg, v_eqI, v_eqS, v_eqB, v_eq0, v_eqT0, v_neI, v_neS, v_neB, v_ne0, v_neT0, v_ltI, v_leI, v_gtI, v_geI, v_is, v_isNot, v_nn, v_ns, v_ni, v_nl, v_nt, v_tb, v_tl, v_tt, v_tn, v_ti, v_asB, v_asI, v_asL, v_asT, v_asS, v_lenL, v_lenT, v_tupL, v_tupT, v_listL, v_listT, v_intB, v_tup0, v_tup1, v_tup2, v_tup3, v_tup4, v_tup5, v_lst0, v_lst1, v_lst2, v_lst3, v_lst4, v_lst5, v_ok0, v_ok1, v_ok2, v_ix0L, v_ix0, v_ix1, v_ix2, v_ix3, v_fs, v_fi, v_fb, v_fn, v_ft, v_f0, v_fc, startR, List.map_cons, List.map_nil, List.length_cons, List.length_nil, List.replicate, List.cons_append, List.nil_append, List.set_cons_zero, List.set_cons_succ, Option.some.injEq, exists_eq_left', Nat.reduceAdd, Nat.reduceSub, Nat.sub_zero, Nat.sub_self, Nat.zero_add, Nat.reduceEqDiff, Bool.not_true, Bool.not_false, if_true, if_false, Bool.and_self, Bool.true_and, Bool.and_true, Bool.false_eq_true, ↓reduceIte, true_and, and_true, decide_true, decide_false, wipeR]
          rw [show (2 : Int) + (0 + (j : Int)) = ((j + 2 : Nat) : Int) by omega, cut_to, List.range_succ, List.map_append]
          rfl
        · rintro acc s5 rfl
          rw [rng_len]
          have e : ((List.range n).map fun i => PyData.str (mk (([c] ++ [d] ++ l).take (i + 2)))) = ((List.range n).map fun i => mk (([c] ++ [d] ++ l).take (i + 2))).map PyData.str := by rw [List.map_map]; rfl
          rw [e]
          refine q _ _ ⟨by simp, ?_, fun x hx => ?_⟩
          · rw [List.nodup_iff_pairwise_ne, List.pairwise_map]
            refine (List.nodup_iff_pairwise_ne.mp List.nodup_range).imp_of_mem fun {a b} ha hb hab e2 => hab ?_
            have := congrArg Str.length e2
            rw [mk_len, mk_len, List.length_take, List.length_take] at this
            have ha := List.mem_range.mp ha
            have hb := List.mem_range.mp hb
            have hl2 : ([c] ++ [d] ++ l).length = 8 := by simp [hl]
            omega
          · obtain ⟨i, hi, rfl⟩ := List.mem_map.mp hx
            have hi := List.mem_range.mp hi
            show kindB (.str (mk ((c :: d :: l).take (i + 2)))) = true
            rw [List.take_succ_cons, List.take_succ_cons]
            refine kind_mk c1 d1 ?_ (inAll_take hs i)
            rw [List.length_take]
            omega
    · rw [decide_eq_false h7]
      simp only [ok_V0, ok_Vs, ok_K, ok_B, ok_U, ok_nil, ok_cons, ok_N, ok_aN, ok_call, ok_nl, ok_fl, ok_afl, ok_T, ok_qNot, ok_qAnd, ok_qOr, ok_and, ok_or, ok_not, ok_if, ok_Sl, ok_oNo, ok_oOf, ok_Ch, ok_it, ok_itA, ok_yes, v_addI, v_sub, v_neg, v_eqI, v_eqS, v_eqB, v_eq0, v_eqT0, v_neI, v_neS, v_neB, v_ne0, v_neT0, v_ltI, v_leI, v_gtI, v_geI, v_is, v_isNot, v_nn, v_ns, v_ni, v_nl, v_nt, v_tb, v_tl, v_tt, v_tn, v_ti, v_asB, v_asI, v_asL, v_asT, v_asS, v_lenL, v_lenT, v_tupL, v_tupT, v_listL, v_listT, v_intB, v_tup0, v_tup1, v_tup2, v_tup3, v_tup4, v_tup5, v_lst0, v_lst1, v_lst2, v_lst3, v_lst4, v_lst5, v_ok0, v_ok1, v_ok2, v_ix0L, v_ix0, v_ix1, v_ix2, v_ix3, v_fs, v_fi, v_fb, v_fn, v_ft, v_f0, v_fc, startR, List.map_cons, List.map_nil, List.length_cons, List.length_nil, List.replicate, List.cons_append, List.nil_append, List.set_cons_zero, List.set_cons_succ, Option.some.injEq, exists_eq_left', Nat.reduceAdd, Nat.reduceSub, Nat.sub_zero, Nat.sub_self, Nat.zero_add, Nat.reduceEqDiff, Bool.not_true, Bool.not_false, if_true, if_false, Bool.and_self, Bool.true_and, Bool.and_true, Bool.false_eq_true, ↓reduceIte, true_and, and_true, decide_true, decide_false, wipeR]
      exact k_nx (second _)
  · rw [decide_eq_false hw]
    simp only [ok_V0, ok_Vs, ok_K, ok_B, ok_U, ok_nil, ok_cons, ok_N, ok_aN, ok_call, ok_nl, ok_fl, ok_afl, ok_T, ok_qNot, ok_qAnd, ok_qOr, ok_and, ok_or, ok_not, ok_if, ok_Sl, ok_oNo, ok_oOf, ok_Ch, ok_it, ok_itA, ok_yes, v_addI, v_sub, v_neg, v_eqI, v_eqS, v_eqB, v_eq0, v_eqT0, v_neI, v_neS, v_neB, v_ne0, v_neT0, v_ltI, v_leI, v_gtI, v_geI, v_is, v_isNot, v_nn, v_ns, v_ni, v_nl, v_nt, v_tb, v_tl, v_tt, v_tn, v_ti, v_asB, v_asI, v_asL, v_asT, v_asS, v_lenL, v_lenT, v_tupL, v_tupT, v_listL, v_listT, v_intB, v_tup0, v_tup1, v_tup2, v_tup3, v_tup4, v_tup5, v_lst0, v_lst1, v_lst2, v_lst3, v_lst4, v_lst5, v_ok0, v_ok1, v_ok2, v_ix0L, v_ix0, v_ix1, v_ix2, v_ix3, v_fs, v_fi, v_fb, v_fn, v_ft, v_f0, v_fc, startR, List.map_cons, List.map_nil, List.length_cons, List.length_nil, List.replicate, List.cons_append, List.nil_append, List.set_cons_zero, List.set_cons_succ, Option.some.injEq, exists_eq_left', Nat.reduceAdd, Nat.reduceSub, Nat.sub_zero, Nat.sub_self, Nat.zero_add, Nat.reduceEqDiff, Bool.not_true, Bool.not_false, if_true, if_false, Bool.and_self, Bool.true_and, Bool.and_true, Bool.false_eq_true, ↓reduceIte, true_and, and_true, decide_true, decide_false, wipeR]
    exact k_nx (second _)
end Lw01
set_option Elab.async false
set_option linter.all false
set_option maxRecDepth 100000
set_option maxHeartbeats 1000000
namespace Lw01
open PySem PySem.Spec L2 Dl Mx Ds
def vocD (n k d : List Str) : D := .tuple [.tuple (n.map .str), .tuple (k.map .str), .tuple (d.map .str)]
structure Voc (n k d : List Str) : Prop where
  nl : n.length ≤ 6
  kl : k.length ≤ 6
  dl : d.length ≤ 9
  nm : ∀ x ∈ n, nameB (.str x) = true
  kd : ∀ x ∈ k, kindB (.str x) = true
  dd : ∀ x ∈ d, kindB (.str x) = true
  nr : risS n = true
  kr : risS k = true
  dr : risS d = true
  ds : ∀ x ∈ k, x ∉ d
theorem v_sorted {xs : List Str} (h : xs.length < 64) : pSorted [.list (xs.map .str)] = some ((sortS xs).map .str) := by
  unfold pSorted
  simp only
  rw [dStrs_map]
  simp only
  rw [if_pos h]
abbrev Fnames : Fn DS := K_w_names Ftake (K_w_tail Ftake)
abbrev Fwords : Fn DS := K_w_words Ftake (K_w_tail Ftake)
abbrev Fvoc : Fn DS := K_w_vocabulary Ftake Fnames Fwords
theorem voc_rest {s : DS} {m0 m1 m2 : Nat} (h0 : m0 ≤ 6) (h1 : m1 ≤ 6) (h2 : m2 ≤ 3) {Q : D → DS → Prop} (q : ∀ n k d s', Voc n k d → Q (vocD n k d) s') :
    Ok (sSeq (sSet 2 (cNl (aN pSorted (aCons (cCall 2 Fnames (aCons (cVar 0) (aCons (cCall 2 Ftake (aCons (cVar 0) (aCons (cB pAdd (cB pIx (cVar 1) (cK (.int 0))) (cK (.int 1))) aNil))) aNil))) aNil))))
    (sSeq (sSet 3 (cCall 2 Ftake (aCons (cVar 0) (aCons (cB pAdd (cB pIx (cVar 1) (cK (.int 1))) (cK (.int 1))) aNil))))
    (sSeq (sSet 4 (cCall 2 Fwords (aCons (cVar 0) (aCons (cB pAdd (cVar 3) (cCall 2 Ftake (aCons (cVar 0) (aCons (cB pAdd (cB pIx (cVar 1) (cK (.int 2))) (cK (.int 1))) aNil)))) aNil))))
    (sSeq (sSet 5 (cCall 2 Ftake (aCons (cVar 0) (aCons (cB pAdd (cN pLen (aCons (cVar 4) aNil)) (cK (.int 1))) aNil))))
    (sSeq (sSet 4 (cB pAdd (cSl pSl (cVar 4) (oOf (cVar 5)) oNo) (cSl pSl (cVar 4) oNo (oOf (cVar 5)))))
    (sRet (cN pTup (aCons (cN pTuple (aCons (cVar 2) aNil)) (aCons (cN pTuple (aCons (cNl (aN pSorted (aCons (cSl pSl (cVar 4) oNo (oOf (cVar 3))) aNil))) aNil)) (aCons (cN pTuple (aCons (cNl (aN pSorted (aCons (cSl pSl (cVar 4) (oOf (cVar 3)) oNo) aNil))) aNil)) aNil))))))))) [some (hnd 0), some (.list [.int (m0 : Nat), .int (m1 : Nat), .int (m2 : Nat)]), none, none, none, none] s) fun r s => match r with | .rt d => Q d s | .nx _ => Q .none s | _ => False := by
  have i1 : pIx (.list [.int (m0 : Nat), .int (m1 : Nat), .int (m2 : Nat)]) (.int 1) = some (.int (m1 : Nat)) := by simp only [pIx]; exact atI_nat (j := 1) rfl
  have i2 : pIx (.list [.int (m0 : Nat), .int (m1 : Nat), .int (m2 : Nat)]) (.int 2) = some (.int (m2 : Nat)) := by simp only [pIx]; exact atI_nat (j := 2) rfl
  refine k_seq (k_set ?_)
  try simp only [ok_V0, ok_Vs, ok_K, ok_B, ok_U, ok_nil, ok_cons, ok_N, ok_aN, ok_call, ok_nl, ok_fl, ok_afl, ok_T, ok_qNot, ok_qAnd, ok_qOr, ok_and, ok_or, ok_not, ok_if, ok_Sl, ok_oNo, ok_oOf, ok_Ch, ok_it, ok_itA, ok_yes, v_addI, v_sub, v_neg, v_eqI, v_eqS, v_eqB, v_eq0, v_eqT0, v_neI, v_neS, v_neB, v_ne0, v_neT0, v_ltI, v_leI, v_gtI, v_geI, v_is, v_isNot, v_nn, v_ns, v_ni, v_nl, v_nt, v_tb, v_tl, v_tt, v_tn, v_ti, v_asB, v_asI, v_asL, v_asT, v_asS, v_lenL, v_lenT, v_tupL, v_tupT, v_listL, v_listT, v_intB, v_tup0, v_tup1, v_tup2, v_tup3, v_tup4, v_tup5, v_lst0, v_lst1, v_lst2, v_lst3, v_lst4, v_lst5, v_ok0, v_ok1, v_ok2, v_ix0L, v_ix0, v_ix1, v_ix2, v_ix3, v_fs, v_fi, v_fb, v_fn, v_ft, v_f0, v_fc, startR, List.map_cons, List.map_nil, List.length_cons, List.length_nil, List.replicate, List.cons_append, List.nil_append, List.set_cons_zero, List.set_cons_succ, Option.some.injEq, exists_eq_left', Nat.reduceAdd, Nat.reduceSub, Nat.sub_zero, Nat.sub_self, Nat.zero_add, Nat.reduceEqDiff, Bool.not_true, Bool.not_false, if_true, if_false, Bool.and_self, Bool.true_and, Bool.and_true, Bool.false_eq_true, ↓reduceIte, true_and, and_true, decide_true, decide_false, wipeR]
  refine k_take (by omega) (by omega) fun a s1 a0 a1 => ?_
  obtain ⟨a, rfl⟩ : ∃ k : Nat, a = k := ⟨a.toNat, by omega⟩
  try simp only [ok_V0, ok_Vs, ok_K, ok_B, ok_U, ok_nil, ok_cons, ok_N, ok_aN, ok_call, ok_nl, ok_fl, ok_afl, ok_T, ok_qNot, ok_qAnd, ok_qOr, ok_and, ok_or, ok_not, ok_if, ok_Sl, ok_oNo, ok_oOf, ok_Ch, ok_it, ok_itA, ok_yes, v_addI, v_sub, v_neg, v_eqI, v_eqS, v_eqB, v_eq0, v_eqT0, v_neI, v_neS, v_neB, v_ne0, v_neT0, v_ltI, v_leI, v_gtI, v_geI, v_is, v_isNot, v_nn, v_ns, v_ni, v_nl, v_nt, v_tb, v_tl, v_tt, v_tn, v_ti, v_asB, v_asI, v_asL, v_asT, v_asS, v_lenL, v_lenT, v_tupL, v_tupT, v_listL, v_listT, v_intB, v_tup0, v_tup1, v_tup2, v_tup3, v_tup4, v_tup5, v_lst0, v_lst1, v_lst2, v_lst3, v_lst4, v_lst5, v_ok0, v_ok1, v_ok2, v_ix0L, v_ix0, v_ix1, v_ix2, v_ix3, v_fs, v_fi, v_fb, v_fn, v_ft, v_f0, v_fc, startR, List.map_cons, List.map_nil, List.length_cons, List.length_nil, List.replicate, List.cons_append, List.nil_append, List.set_cons_zero, List.set_cons_succ, Option.some.injEq, exists_eq_left', Nat.reduceAdd, Nat.reduceSub, Nat.sub_zero, Nat.sub_self, Nat.zero_add, Nat.reduceEqDiff, Bool.not_true, Bool.not_false, if_true, if_false, Bool.and_self, Bool.true_and, Bool.and_true, Bool.false_eq_true, ↓reduceIte, true_and, and_true, decide_true, decide_false, wipeR]
  refine ok_names (n := a) (by omega) fun ns s2 hn => ?_
  try simp only [ok_V0, ok_Vs, ok_K, ok_B, ok_U, ok_nil, ok_cons, ok_N, ok_aN, ok_call, ok_nl, ok_fl, ok_afl, ok_T, ok_qNot, ok_qAnd, ok_qOr, ok_and, ok_or, ok_not, ok_if, ok_Sl, ok_oNo, ok_oOf, ok_Ch, ok_it, ok_itA, ok_yes, v_addI, v_sub, v_neg, v_eqI, v_eqS, v_eqB, v_eq0, v_eqT0, v_neI, v_neS, v_neB, v_ne0, v_neT0, v_ltI, v_leI, v_gtI, v_geI, v_is, v_isNot, v_nn, v_ns, v_ni, v_nl, v_nt, v_tb, v_tl, v_tt, v_tn, v_ti, v_asB, v_asI, v_asL, v_asT, v_asS, v_lenL, v_lenT, v_tupL, v_tupT, v_listL, v_listT, v_intB, v_tup0, v_tup1, v_tup2, v_tup3, v_tup4, v_tup5, v_lst0, v_lst1, v_lst2, v_lst3, v_lst4, v_lst5, v_ok0, v_ok1, v_ok2, v_ix0L, v_ix0, v_ix1, v_ix2, v_ix3, v_fs, v_fi, v_fb, v_fn, v_ft, v_f0, v_fc, startR, List.map_cons, List.map_nil, List.length_cons, List.length_nil, List.replicate, List.cons_append, List.nil_append, List.set_cons_zero, List.set_cons_succ, Option.some.injEq, exists_eq_left', Nat.reduceAdd, Nat.reduceSub, Nat.sub_zero, Nat.sub_self, Nat.zero_add, Nat.reduceEqDiff, Bool.not_true, Bool.not_false, if_true, if_false, Bool.and_self, Bool.true_and, Bool.and_true, Bool.false_eq_true, ↓reduceIte, true_and, and_true, decide_true, decide_false, wipeR]
  rw [v_sorted (by rw [hn.len]; omega)]
  try simp only [ok_V0, ok_Vs, ok_K, ok_B, ok_U, ok_nil, ok_cons, ok_N, ok_aN, ok_call, ok_nl, ok_fl, ok_afl, ok_T, ok_qNot, ok_qAnd, ok_qOr, ok_and, ok_or, ok_not, ok_if, ok_Sl, ok_oNo, ok_oOf, ok_Ch, ok_it, ok_itA, ok_yes, v_addI, v_sub, v_neg, v_eqI, v_eqS, v_eqB, v_eq0, v_eqT0, v_neI, v_neS, v_neB, v_ne0, v_neT0, v_ltI, v_leI, v_gtI, v_geI, v_is, v_isNot, v_nn, v_ns, v_ni, v_nl, v_nt, v_tb, v_tl, v_tt, v_tn, v_ti, v_asB, v_asI, v_asL, v_asT, v_asS, v_lenL, v_lenT, v_tupL, v_tupT, v_listL, v_listT, v_intB, v_tup0, v_tup1, v_tup2, v_tup3, v_tup4, v_tup5, v_lst0, v_lst1, v_lst2, v_lst3, v_lst4, v_lst5, v_ok0, v_ok1, v_ok2, v_ix0L, v_ix0, v_ix1, v_ix2, v_ix3, v_fs, v_fi, v_fb, v_fn, v_ft, v_f0, v_fc, startR, List.map_cons, List.map_nil, List.length_cons, List.length_nil, List.replicate, List.cons_append, List.nil_append, List.set_cons_zero, List.set_cons_succ, Option.some.injEq, exists_eq_left', Nat.reduceAdd, Nat.reduceSub, Nat.sub_zero, Nat.sub_self, Nat.zero_add, Nat.reduceEqDiff, Bool.not_true, Bool.not_false, if_true, if_false, Bool.and_self, Bool.true_and, Bool.and_true, Bool.false_eq_true, ↓reduceIte, true_and, and_true, decide_true, decide_false, wipeR]
  refine k_seq (k_set ?_)
  try simp only [ok_V0, ok_Vs, ok_K, ok_B, ok_U, ok_nil, ok_cons, ok_N, ok_aN, ok_call, ok_nl, ok_fl, ok_afl, ok_T, ok_qNot, ok_qAnd, ok_qOr, ok_and, ok_or, ok_not, ok_if, ok_Sl, ok_oNo, ok_oOf, ok_Ch, ok_it, ok_itA, ok_yes, v_addI, v_sub, v_neg, v_eqI, v_eqS, v_eqB, v_eq0, v_eqT0, v_neI, v_neS, v_neB, v_ne0, v_neT0, v_ltI, v_leI, v_gtI, v_geI, v_is, v_isNot, v_nn, v_ns, v_ni, v_nl, v_nt, v_tb, v_tl, v_tt, v_tn, v_ti, v_asB, v_asI, v_asL, v_asT, v_asS, v_lenL, v_lenT, v_tupL, v_tupT, v_listL, v_listT, v_intB, v_tup0, v_tup1, v_tup2, v_tup3, v_tup4, v_tup5, v_lst0, v_lst1, v_lst2, v_lst3, v_lst4, v_lst5, v_ok0, v_ok1, v_ok2, v_ix0L, v_ix0, v_ix1, v_ix2, v_ix3, v_fs, v_fi, v_fb, v_fn, v_ft, v_f0, v_fc, startR, List.map_cons, List.map_nil, List.length_cons, List.length_nil, List.replicate, List.cons_append, List.nil_append, List.set_cons_zero, List.set_cons_succ, Option.some.injEq, exists_eq_left', Nat.reduceAdd, Nat.reduceSub, Nat.sub_zero, Nat.sub_self, Nat.zero_add, Nat.reduceEqDiff, Bool.not_true, Bool.not_false, if_true, if_false, Bool.and_self, Bool.true_and, Bool.and_true, Bool.false_eq_true, ↓reduceIte, true_and, and_true, decide_true, decide_false, wipeR, i1]
  refine k_take (by omega) (by omega) fun b s3 b0 b1 => ?_
  obtain ⟨b, rfl⟩ : ∃ k : Nat, b = k := ⟨b.toNat, by omega⟩
  refine k_seq (k_set ?_)
  try simp only [ok_V0, ok_Vs, ok_K, ok_B, ok_U, ok_nil, ok_cons, ok_N, ok_aN, ok_call, ok_nl, ok_fl, ok_afl, ok_T, ok_qNot, ok_qAnd, ok_qOr, ok_and, ok_or, ok_not, ok_if, ok_Sl, ok_oNo, ok_oOf, ok_Ch, ok_it, ok_itA, ok_yes, v_addI, v_sub, v_neg, v_eqI, v_eqS, v_eqB, v_eq0, v_eqT0, v_neI, v_neS, v_neB, v_ne0, v_neT0, v_ltI, v_leI, v_gtI, v_geI, v_is, v_isNot, v_nn, v_ns, v_ni, v_nl, v_nt, v_tb, v_tl, v_tt, v_tn, v_ti, v_asB, v_asI, v_asL, v_asT, v_asS, v_lenL, v_lenT, v_tupL, v_tupT, v_listL, v_listT, v_intB, v_tup0, v_tup1, v_tup2, v_tup3, v_tup4, v_tup5, v_lst0, v_lst1, v_lst2, v_lst3, v_lst4, v_lst5, v_ok0, v_ok1, v_ok2, v_ix0L, v_ix0, v_ix1, v_ix2, v_ix3, v_fs, v_fi, v_fb, v_fn, v_ft, v_f0, v_fc, startR, List.map_cons, List.map_nil, List.length_cons, List.length_nil, List.replicate, List.cons_append, List.nil_append, List.set_cons_zero, List.set_cons_succ, Option.some.injEq, exists_eq_left', Nat.reduceAdd, Nat.reduceSub, Nat.sub_zero, Nat.sub_self, Nat.zero_add, Nat.reduceEqDiff, Bool.not_true, Bool.not_false, if_true, if_false, Bool.and_self, Bool.true_and, Bool.and_true, Bool.false_eq_true, ↓reduceIte, true_and, and_true, decide_true, decide_false, wipeR, i2]
  refine k_take (by omega) (by omega) fun c s4 c0 c1 => ?_
  obtain ⟨c, rfl⟩ : ∃ k : Nat, c = k := ⟨c.toNat, by omega⟩
  try simp only [ok_V0, ok_Vs, ok_K, ok_B, ok_U, ok_nil, ok_cons, ok_N, ok_aN, ok_call, ok_nl, ok_fl, ok_afl, ok_T, ok_qNot, ok_qAnd, ok_qOr, ok_and, ok_or, ok_not, ok_if, ok_Sl, ok_oNo, ok_oOf, ok_Ch, ok_it, ok_itA, ok_yes, v_addI, v_sub, v_neg, v_eqI, v_eqS, v_eqB, v_eq0, v_eqT0, v_neI, v_neS, v_neB, v_ne0, v_neT0, v_ltI, v_leI, v_gtI, v_geI, v_is, v_isNot, v_nn, v_ns, v_ni, v_nl, v_nt, v_tb, v_tl, v_tt, v_tn, v_ti, v_asB, v_asI, v_asL, v_asT, v_asS, v_lenL, v_lenT, v_tupL, v_tupT, v_listL, v_listT, v_intB, v_tup0, v_tup1, v_tup2, v_tup3, v_tup4, v_tup5, v_lst0, v_lst1, v_lst2, v_lst3, v_lst4, v_lst5, v_ok0, v_ok1, v_ok2, v_ix0L, v_ix0, v_ix1, v_ix2, v_ix3, v_fs, v_fi, v_fb, v_fn, v_ft, v_f0, v_fc, startR, List.map_cons, List.map_nil, List.length_cons, List.length_nil, List.replicate, List.cons_append, List.nil_append, List.set_cons_zero, List.set_cons_succ, Option.some.injEq, exists_eq_left', Nat.reduceAdd, Nat.reduceSub, Nat.sub_zero, Nat.sub_self, Nat.zero_add, Nat.reduceEqDiff, Bool.not_true, Bool.not_false, if_true, if_false, Bool.and_self, Bool.true_and, Bool.and_true, Bool.false_eq_true, ↓reduceIte, true_and, and_true, decide_true, decide_false, wipeR]
  rw [show (b : Int) + (c : Int) = ((b + c : Nat) : Int) by omega]
  refine ok_words (n := b + c) (by omega) fun ws s5 hw => ?_
  refine k_seq (k_set ?_)
  try simp only [ok_V0, ok_Vs, ok_K, ok_B, ok_U, ok_nil, ok_cons, ok_N, ok_aN, ok_call, ok_nl, ok_fl, ok_afl, ok_T, ok_qNot, ok_qAnd, ok_qOr, ok_and, ok_or, ok_not, ok_if, ok_Sl, ok_oNo, ok_oOf, ok_Ch, ok_it, ok_itA, ok_yes, v_addI, v_sub, v_neg, v_eqI, v_eqS, v_eqB, v_eq0, v_eqT0, v_neI, v_neS, v_neB, v_ne0, v_neT0, v_ltI, v_leI, v_gtI, v_geI, v_is, v_isNot, v_nn, v_ns, v_ni, v_nl, v_nt, v_tb, v_tl, v_tt, v_tn, v_ti, v_asB, v_asI, v_asL, v_asT, v_asS, v_lenL, v_lenT, v_tupL, v_tupT, v_listL, v_listT, v_intB, v_tup0, v_tup1, v_tup2, v_tup3, v_tup4, v_tup5, v_lst0, v_lst1, v_lst2, v_lst3, v_lst4, v_lst5, v_ok0, v_ok1, v_ok2, v_ix0L, v_ix0, v_ix1, v_ix2, v_ix3, v_fs, v_fi, v_fb, v_fn, v_ft, v_f0, v_fc, startR, List.map_cons, List.map_nil, List.length_cons, List.length_nil, List.replicate, List.cons_append, List.nil_append, List.set_cons_zero, List.set_cons_succ, Option.some.injEq, exists_eq_left', Nat.reduceAdd, Nat.reduceSub, Nat.sub_zero, Nat.sub_self, Nat.zero_add, Nat.reduceEqDiff, Bool.not_true, Bool.not_false, if_true, if_false, Bool.and_self, Bool.true_and, Bool.and_true, Bool.false_eq_true, ↓reduceIte, true_and, and_true, decide_true, decide_false, wipeR, List.length_map, hw.len]
  refine k_take (by omega) (by omega) fun t s6 t0 t1 => ?_
  obtain ⟨t, rfl⟩ : ∃ k : Nat, t = k := ⟨t.toNat, by omega⟩
  refine k_seq (k_set ?_)
  try simp only [ok_V0, ok_Vs, ok_K, ok_B, ok_U, ok_nil, ok_cons, ok_N, ok_aN, ok_call, ok_nl, ok_fl, ok_afl, ok_T, ok_qNot, ok_qAnd, ok_qOr, ok_and, ok_or, ok_not, ok_if, ok_Sl, ok_oNo, ok_oOf, ok_Ch, ok_it, ok_itA, ok_yes, v_addI, v_sub, v_neg, v_eqI, v_eqS, v_eqB, v_eq0, v_eqT0, v_neI, v_neS, v_neB, v_ne0, v_neT0, v_ltI, v_leI, v_gtI, v_geI, v_is, v_isNot, v_nn, v_ns, v_ni, v_nl, v_nt, v_tb, v_tl, v_tt, v_tn, v_ti, v_asB, v_asI, v_asL, v_asT, v_asS, v_lenL, v_lenT, v_tupL, v_tupT, v_listL, v_listT, v_intB, v_tup0, v_tup1, v_tup2, v_tup3, v_tup4, v_tup5, v_lst0, v_lst1, v_lst2, v_lst3, v_lst4, v_lst5, v_ok0, v_ok1, v_ok2, v_ix0L, v_ix0, v_ix1, v_ix2, v_ix3, v_fs, v_fi, v_fb, v_fn, v_ft, v_f0, v_fc, startR, List.map_cons, List.map_nil, List.length_cons, List.length_nil, List.replicate, List.cons_append, List.nil_append, List.set_cons_zero, List.set_cons_succ, Option.some.injEq, exists_eq_left', Nat.reduceAdd, Nat.reduceSub, Nat.sub_zero, Nat.sub_self, Nat.zero_add, Nat.reduceEqDiff, Bool.not_true, Bool.not_false, if_true, if_false, Bool.and_self, Bool.true_and, Bool.and_true, Bool.false_eq_true, ↓reduceIte, true_and, and_true, decide_true, decide_false, wipeR, v_slL]
  rw [cutD_from, cutD_to, ← List.map_drop, ← List.map_take]
  rw [v_addL (by rw [List.length_map, List.length_map, List.length_drop, List.length_take, hw.len]; exact szL (by omega)), ← List.map_append]
  try simp only [ok_V0, ok_Vs, ok_K, ok_B, ok_U, ok_nil, ok_cons, ok_N, ok_aN, ok_call, ok_nl, ok_fl, ok_afl, ok_T, ok_qNot, ok_qAnd, ok_qOr, ok_and, ok_or, ok_not, ok_if, ok_Sl, ok_oNo, ok_oOf, ok_Ch, ok_it, ok_itA, ok_yes, v_addI, v_sub, v_neg, v_eqI, v_eqS, v_eqB, v_eq0, v_eqT0, v_neI, v_neS, v_neB, v_ne0, v_neT0, v_ltI, v_leI, v_gtI, v_geI, v_is, v_isNot, v_nn, v_ns, v_ni, v_nl, v_nt, v_tb, v_tl, v_tt, v_tn, v_ti, v_asB, v_asI, v_asL, v_asT, v_asS, v_lenL, v_lenT, v_tupL, v_tupT, v_listL, v_listT, v_intB, v_tup0, v_tup1, v_tup2, v_tup3, v_tup4, v_tup5, v_lst0, v_lst1, v_lst2, v_lst3, v_lst4, v_lst5, v_ok0, v_ok1, v_ok2, v_ix0L, v_ix0, v_ix1, v_ix2, v_ix3, v_fs, v_fi, v_fb, v_fn, v_ft, v_f0, v_fc, startR, List.map_cons, List.map_nil, List.length_cons, List.length_nil, List.replicate, List.cons_append, List.nil_append, List.set_cons_zero, List.set_cons_succ, Option.some.injEq, exists_eq_left', Nat.reduceAdd, Nat.reduceSub, Nat.sub_zero, Nat.sub_self, Nat.zero_add, Nat.reduceEqDiff, Bool.not_true, Bool.not_false, if_true, if_false, Bool.and_self, Bool.true_and, Bool.and_true, Bool.false_eq_true, ↓reduceIte, true_and, and_true, decide_true, decide_false, wipeR]
  have hp : (ws.drop t ++ ws.take t).Perm ws := List.perm_append_comm.trans (by rw [List.take_append_drop])
  have rnd : (ws.drop t ++ ws.take t).Nodup := hp.nodup_iff.mpr hw.nd
  have rkd : ∀ x ∈ ws.drop t ++ ws.take t, kindB (.str x) = true := fun x hx => hw.kd x (hp.mem_iff.mp hx)
  have rln : (ws.drop t ++ ws.take t).length = b + c := hp.length_eq.trans hw.len
  generalize ws.drop t ++ ws.take t = rs at rnd rkd rln ⊢
  refine k_ret ?_
  try simp only [ok_V0, ok_Vs, ok_K, ok_B, ok_U, ok_nil, ok_cons, ok_N, ok_aN, ok_call, ok_nl, ok_fl, ok_afl, ok_T, ok_qNot, ok_qAnd, ok_qOr, ok_and, ok_or, ok_not, ok_if, ok_Sl, ok_oNo, ok_oOf, ok_Ch, ok_it, ok_itA, ok_yes, v_addI, v_sub, v_neg, v_eqI, v_eqS, v_eqB, v_eq0, v_eqT0, v_neI, v_neS, v_neB, v_ne0, v_neT0, v_ltI, v_leI, v_gtI, v_geI, v_is, v_isNot, v_nn, v_ns, v_ni, v_nl, v_nt, v_tb, v_tl, v_tt, v_tn, v_ti, v_asB, v_asI, v_asL, v_asT, v_asS, v_lenL, v_lenT, v_tupL, v_tupT, v_listL, v_listT, v_intB, v_tup0, v_tup1, v_tup2, v_tup3, v_tup4, v_tup5, v_lst0, v_lst1, v_lst2, v_lst3, v_lst4, v_lst5, v_ok0, v_ok1, v_ok2, v_ix0L, v_ix0, v_ix1, v_ix2, v_ix3, v_fs, v_fi, v_fb, v_fn, v_ft, v_f0, v_fc, startR, List.map_cons, List.map_nil, List.length_cons, List.length_nil, List.replicate, List.cons_append, List.nil_append, List.set_cons_zero, List.set_cons_succ, Option.some.injEq, exists_eq_left', Nat.reduceAdd, Nat.reduceSub, Nat.sub_zero, Nat.sub_self, Nat.zero_add, Nat.reduceEqDiff, Bool.not_true, Bool.not_false, if_true, if_false, Bool.and_self, Bool.true_and, Bool.and_true, Bool.false_eq_true, ↓reduceIte, true_and, and_true, decide_true, decide_false, wipeR, v_slL]
  rw [cutD_to, cutD_from, ← List.map_take, ← List.map_drop, v_sorted (by rw [List.length_take]; omega), v_sorted (by rw [List.length_drop]; omega)]
  try simp only [ok_V0, ok_Vs, ok_K, ok_B, ok_U, ok_nil, ok_cons, ok_N, ok_aN, ok_call, ok_nl, ok_fl, ok_afl, ok_T, ok_qNot, ok_qAnd, ok_qOr, ok_and, ok_or, ok_not, ok_if, ok_Sl, ok_oNo, ok_oOf, ok_Ch, ok_it, ok_itA, ok_yes, v_addI, v_sub, v_neg, v_eqI, v_eqS, v_eqB, v_eq0, v_eqT0, v_neI, v_neS, v_neB, v_ne0, v_neT0, v_ltI, v_leI, v_gtI, v_geI, v_is, v_isNot, v_nn, v_ns, v_ni, v_nl, v_nt, v_tb, v_tl, v_tt, v_tn, v_ti, v_asB, v_asI, v_asL, v_asT, v_asS, v_lenL, v_lenT, v_tupL, v_tupT, v_listL, v_listT, v_intB, v_tup0, v_tup1, v_tup2, v_tup3, v_tup4, v_tup5, v_lst0, v_lst1, v_lst2, v_lst3, v_lst4, v_lst5, v_ok0, v_ok1, v_ok2, v_ix0L, v_ix0, v_ix1, v_ix2, v_ix3, v_fs, v_fi, v_fb, v_fn, v_ft, v_f0, v_fc, startR, List.map_cons, List.map_nil, List.length_cons, List.length_nil, List.replicate, List.cons_append, List.nil_append, List.set_cons_zero, List.set_cons_succ, Option.some.injEq, exists_eq_left', Nat.reduceAdd, Nat.reduceSub, Nat.sub_zero, Nat.sub_self, Nat.zero_add, Nat.reduceEqDiff, Bool.not_true, Bool.not_false, if_true, if_false, Bool.and_self, Bool.true_and, Bool.and_true, Bool.false_eq_true, ↓reduceIte, true_and, and_true, decide_true, decide_false, wipeR]
  have tk : ∀ x ∈ sortS (rs.take b), x ∈ rs.take b := fun x hx => (sortS_perm _).mem_iff.mp hx
  have dk : ∀ x ∈ sortS (rs.drop b), x ∈ rs.drop b := fun x hx => (sortS_perm _).mem_iff.mp hx
  refine q (sortS ns) (sortS (rs.take b)) (sortS (rs.drop b)) _ ⟨?_, ?_, ?_, fun x hx => hn.nm x ((sortS_perm _).mem_iff.mp hx), fun x hx => rkd x (List.mem_of_mem_take (tk x hx)), fun x hx => rkd x (List.mem_of_mem_drop (dk x hx)), ris_sort hn.nd, ris_sort (rnd.sublist (List.take_sublist _ _)), ris_sort (rnd.sublist (List.drop_sublist _ _)), fun x hx hx2 => ?_⟩
  · rw [(sortS_perm _).length_eq, hn.len]
    omega
  · rw [(sortS_perm _).length_eq, List.length_take]
    omega
  · rw [(sortS_perm _).length_eq, List.length_drop]
    omega
  · have nd2 := rnd
    rw [← List.take_append_drop b rs, List.nodup_append] at nd2
    exact nd2.2.2 x (tk x hx) x (dk x hx2) rfl
theorem ok_voc {s : DS} {Q : D → DS → Prop} (q : ∀ n k d s', Voc n k d → Q (vocD n k d) s') : Ok (Fvoc [hnd 0] s) Q := by
  unfold Fvoc K_w_vocabulary B_w_vocabulary
  refine k_fn (k_seq (k_set ?_))
  try simp only [ok_V0, ok_Vs, ok_K, ok_B, ok_U, ok_nil, ok_cons, ok_N, ok_aN, ok_call, ok_nl, ok_fl, ok_afl, ok_T, ok_qNot, ok_qAnd, ok_qOr, ok_and, ok_or, ok_not, ok_if, ok_Sl, ok_oNo, ok_oOf, ok_Ch, ok_it, ok_itA, ok_yes, v_addI, v_sub, v_neg, v_eqI, v_eqS, v_eqB, v_eq0, v_eqT0, v_neI, v_neS, v_neB, v_ne0, v_neT0, v_ltI, v_leI, v_gtI, v_geI, v_is, v_isNot, v_nn, v_ns, v_ni, v_nl, v_nt, v_tb, v_tl, v_tt, v_tn, v_ti, v_asB, v_asI, v_asL, v_asT, v_asS, v_lenL, v_lenT, v_tupL, v_tupT, v_listL, v_listT, v_intB, v_tup0, v_tup1, v_tup2, v_tup3, v_tup4, v_tup5, v_lst0, v_lst1, v_lst2, v_lst3, v_lst4, v_lst5, v_ok0, v_ok1, v_ok2, v_ix0L, v_ix0, v_ix1, v_ix2, v_ix3, v_fs, v_fi, v_fb, v_fn, v_ft, v_f0, v_fc, startR, List.map_cons, List.map_nil, List.length_cons, List.length_nil, List.replicate, List.cons_append, List.nil_append, List.set_cons_zero, List.set_cons_succ, Option.some.injEq, exists_eq_left', Nat.reduceAdd, Nat.reduceSub, Nat.sub_zero, Nat.sub_self, Nat.zero_add, Nat.reduceEqDiff, Bool.not_true, Bool.not_false, if_true, if_false, Bool.and_self, Bool.true_and, Bool.and_true, Bool.false_eq_true, ↓reduceIte, true_and, and_true, decide_true, decide_false, wipeR]
  refine k_take (by omega) (by omega) fun w s1 w0 w1 => ?_
  try simp only [ok_V0, ok_Vs, ok_K, ok_B, ok_U, ok_nil, ok_cons, ok_N, ok_aN, ok_call, ok_nl, ok_fl, ok_afl, ok_T, ok_qNot, ok_qAnd, ok_qOr, ok_and, ok_or, ok_not, ok_if, ok_Sl, ok_oNo, ok_oOf, ok_Ch, ok_it, ok_itA, ok_yes, v_addI, v_sub, v_neg, v_eqI, v_eqS, v_eqB, v_eq0, v_eqT0, v_neI, v_neS, v_neB, v_ne0, v_neT0, v_ltI, v_leI, v_gtI, v_geI, v_is, v_isNot, v_nn, v_ns, v_ni, v_nl, v_nt, v_tb, v_tl, v_tt, v_tn, v_ti, v_asB, v_asI, v_asL, v_asT, v_asS, v_lenL, v_lenT, v_tupL, v_tupT, v_listL, v_listT, v_intB, v_tup0, v_tup1, v_tup2, v_tup3, v_tup4, v_tup5, v_lst0, v_lst1, v_lst2, v_lst3, v_lst4, v_lst5, v_ok0, v_ok1, v_ok2, v_ix0L, v_ix0, v_ix1, v_ix2, v_ix3, v_fs, v_fi, v_fb, v_fn, v_ft, v_f0, v_fc, startR, List.map_cons, List.map_nil, List.length_cons, List.length_nil, List.replicate, List.cons_append, List.nil_append, List.set_cons_zero, List.set_cons_succ, Option.some.injEq, exists_eq_left', Nat.reduceAdd, Nat.reduceSub, Nat.sub_zero, Nat.sub_self, Nat.zero_add, Nat.reduceEqDiff, Bool.not_true, Bool.not_false, if_true, if_false, Bool.and_self, Bool.true_and, Bool.and_true, Bool.false_eq_true, ↓reduceIte, true_and, and_true, decide_true, decide_false, wipeR]
  by_cases h : w = 7
  · rw [decide_eq_true h]
    have e : pIx (.list [.list [.int 3, .int 4, .int 2], .list [.int 6, .int 6, .int 3]]) (.int (if true = true then 1 else 0)) = some (.list [.int 6, .int 6, .int 3]) := by simp only [pIx]; exact atI_nat (j := 1) rfl
    refine ⟨_, e, ?_⟩
    exact voc_rest (m0 := 6) (m1 := 6) (m2 := 3) (by omega) (by omega) (by omega) q
  · rw [decide_eq_false h]
    have e : pIx (.list [.list [.int 3, .int 4, .int 2], .list [.int 6, .int 6, .int 3]]) (.int (if false = true then 1 else 0)) = some (.list [.int 3, .int 4, .int 2]) := by simp only [pIx]; exact atI_nat (j := 0) rfl
    refine ⟨_, e, ?_⟩
    exact voc_rest (m0 := 3) (m1 := 4) (m2 := 2) (by omega) (by omega) (by omega) q
end Lw01
set_option Elab.async false
set_option linter.all false
set_option maxRecDepth 100000
set_option maxHeartbeats 1000000
/-! sums of kinds and times: what a dict holds after them, and in which form they are told -/
namespace Lw41
open PySem PySem.Spec L2 Dl Mx Ds Lw01
abbrev Pt := Str × Int
abbrev Tot := List Pt × Int
def ptD (p : Pt) : D := .tuple [.str p.1, .int p.2]
def totD (t : Tot) : D := .tuple [.tuple (t.1.map ptD), .int t.2]
def add (m : KV) (p : Pt) : KV := kvPut m p.1 ((kvGet m p.1).getD 0 + p.2)
def cntP (ps : List Pt) (k : Str) : Int := ((ps.filter fun p => decide (p.1 = k)).map (·.2)).sum
theorem get_cons (a : Str) (n : Int) (m : KV) (k : Str) : kvGet ((a, n) :: m) k = if a = k then some n else kvGet m k := by
  unfold kvGet
  by_cases e : a = k
  · simp [e]
  · simp [e]
theorem get_some : ∀ (m : KV) (k : Str), k ∈ m.map (·.1) → ∃ n, kvGet m k = some n
  | [], k, h => by simp at h
  | (a, n) :: m, k, h => by
    rw [get_cons]
    by_cases e : a = k
    · exact ⟨n, if_pos e⟩
    · rw [if_neg e]
      refine get_some m k ?_
      rcases List.mem_cons.mp (by simpa using h : k ∈ a :: m.map (·.1)) with z | z
      · exact (e z.symm).elim
      · exact z
theorem any_key (m : KV) (a : Str) : (m.any fun p => decide (p.1 = a)) = decide (a ∈ m.map (·.1)) := by
  rw [Bool.eq_iff_iff, List.any_eq_true, decide_eq_true_eq, List.mem_map]
  constructor
  · rintro ⟨p, h1, h2⟩
    exact ⟨p, h1, of_decide_eq_true h2⟩
  · rintro ⟨p, h1, h2⟩
    exact ⟨p, h1, decide_eq_true h2⟩
theorem get_mapP (a : Str) (v : Int) (k : Str) : ∀ m : KV, a ∈ m.map (·.1) → kvGet (m.map fun p => if p.1 = a then (p.1, v) else p) k = if a = k then some v else kvGet m k
  | [], h => by simp at h
  | (b, n) :: m, h => by
    rw [List.map_cons]
    by_cases e : b = a
    · subst e
      simp only [if_true]
      rw [get_cons, get_cons]
      by_cases e2 : b = k
      · rw [if_pos e2, if_pos e2]
      · rw [if_neg e2, if_neg e2, if_neg e2]
        by_cases hm : b ∈ m.map (·.1)
        · rw [get_mapP b v k m hm, if_neg e2]
        · congr 1
          refine (List.map_congr_left fun p hp => ?_).trans (List.map_id' m)
          exact if_neg fun z => hm (List.mem_map.mpr ⟨p, hp, z⟩)
    · simp only [e, if_false]
      rw [get_cons, get_cons]
      have hm : a ∈ m.map (·.1) := by
        rcases List.mem_cons.mp (by simpa using h : a ∈ b :: m.map (·.1)) with z | z
        · exact (e z.symm).elim
        · exact z
      rw [get_mapP a v k m hm]
      by_cases e2 : b = k
      · subst e2
        rw [if_pos rfl, if_neg (fun z => e z.symm)]
        simp
      · rw [if_neg e2, if_neg e2]
theorem get_snoc (a : Str) (v : Int) (k : Str) : ∀ m : KV, a ∉ m.map (·.1) → kvGet (m ++ [(a, v)]) k = if a = k then some v else kvGet m k
  | [], _ => by rw [List.nil_append, get_cons]
  | (b, n) :: m, h => by
    rw [List.cons_append, get_cons, get_cons, get_snoc a v k m fun z => h (by simp [z])]
    by_cases e2 : b = k
    · subst e2
      rw [if_pos rfl, if_neg (fun z => h (by simp [z]))]
      simp
    · rw [if_neg e2, if_neg e2]
theorem get_put (m : KV) (a k : Str) (v : Int) : kvGet (kvPut m a v) k = if a = k then some v else kvGet m k := by
  unfold kvPut
  rw [any_key]
  by_cases h : a ∈ m.map (·.1)
  · rw [decide_eq_true h, if_pos rfl, get_mapP a v k m h]
  · rw [decide_eq_false h, if_neg (by decide), get_snoc a v k m h]
theorem keys_put (m : KV) (a : Str) (v : Int) : (kvPut m a v).map (·.1) = if a ∈ m.map (·.1) then m.map (·.1) else m.map (·.1) ++ [a] := by
  unfold kvPut
  rw [any_key]
  by_cases h : a ∈ m.map (·.1)
  · rw [decide_eq_true h, if_pos rfl, if_pos h, List.map_map]
    refine List.map_congr_left fun p _ => ?_
    show (if p.1 = a then (p.1, v) else p).1 = p.1
    split <;> rfl
  · rw [decide_eq_false h, if_neg (by decide), if_neg h, List.map_append]
    rfl
theorem cnt_cons (p : Pt) (ps : List Pt) (k : Str) : cntP (p :: ps) k = (if p.1 = k then p.2 else 0) + cntP ps k := by
  unfold cntP
  by_cases e : p.1 = k
  · simp [e]
  · simp [e]
theorem cnt_app (a b : List Pt) (k : Str) : cntP (a ++ b) k = cntP a k + cntP b k := by
  induction a with
  | nil => simp [cntP]
  | cons p a ih => rw [List.cons_append, cnt_cons, cnt_cons, ih]; omega
structure Had (m : KV) (ps : List Pt) : Prop where
  nd : (m.map (·.1)).Nodup
  mem : ∀ k, k ∈ m.map (·.1) ↔ k ∈ ps.map (·.1)
  get : ∀ k, (kvGet m k).getD 0 = cntP ps k
  len : m.length ≤ ps.length
theorem Had.nil : Had [] [] := ⟨List.nodup_nil, fun k => by simp, fun k => rfl, Nat.le_refl _⟩
theorem Had.add {m : KV} {ps : List Pt} (h : Had m ps) (p : Pt) : Had (add m p) (ps ++ [p]) := by
  have e : (Lw41.add m p).map (·.1) = if p.1 ∈ m.map (·.1) then m.map (·.1) else m.map (·.1) ++ [p.1] := keys_put _ _ _
  refine ⟨?_, fun k => ?_, fun k => ?_, ?_⟩
  · rw [e]
    split
    · exact h.nd
    · exact nodup_snoc h.nd (by assumption)
  · rw [e, List.map_append, List.mem_append]
    split
    · rename_i hp
      rw [h.mem k]
      constructor
      · exact .inl
      · rintro (z | z)
        · exact z
        · have z : k = p.1 := by simpa using z
          rw [z]
          exact (h.mem _).mp hp
    · rw [List.mem_append, h.mem k]
      simp
  · rw [cnt_app]
    unfold Lw41.add
    rw [get_put, cnt_cons, ← h.get k]
    by_cases e : p.1 = k
    · subst e
      rw [if_pos rfl, if_pos rfl]
      show _ + p.2 = _ + (p.2 + 0)
      omega
    · rw [if_neg e, if_neg e]
      show _ = _ + ((0 : Int) + 0)
      omega
  · have l := congrArg List.length e
    rw [List.length_map] at l
    have h0 := h.len
    rw [l, List.length_append]
    split
    · rw [List.length_map]
      omega
    · rw [List.length_append, List.length_map]
      show _ + 1 ≤ _ + 1
      omega
theorem Had.all {m : KV} {ps : List Pt} (h : Had m ps) (qs : List Pt) : Had (qs.foldl Lw41.add m) (ps ++ qs) := by
  induction qs generalizing m ps with
  | nil => rw [List.append_nil]; exact h
  | cons q qs ih =>
    have := ih (h.add q)
    rw [List.append_assoc] at this
    exact this
theorem Had.one {m : KV} {ps : List Pt} (h : Had m ps) {k : Str} (hk : k ∈ m.map (·.1)) : kvGet m k = some (cntP ps k) := by
  obtain ⟨n, e⟩ := get_some m k hk
  have := h.get k
  rw [e] at this ⊢
  exact congrArg some this
/-! ### the form of a sum -/
def Canon (t : Tot) : Prop := (t.1.map (·.1)).Pairwise fun a b => ltS a b = true
end Lw41
set_option Elab.async false
set_option linter.all false
set_option maxRecDepth 100000
set_option maxHeartbeats 1000000
namespace Lw41
open PySem PySem.Spec L2 Dl Mx Ds Lw01
section
variable {S : Type} {s : S}
theorem take_snoc {α : Type} {l : List α} {j : Nat} {x : α} (h : l[j]? = some x) : l.take (j + 1) = l.take j ++ [x] := by
  rw [List.take_add_one, h]
  rfl
end
end Lw41
set_option Elab.async false
set_option linter.all false
set_option maxRecDepth 100000
set_option maxHeartbeats 1000000
namespace Lw41
open PySem PySem.Spec L2 Dl Mx Ds Lw01
/-! ### what is drawn -/
theorem cut_from {l : List Nat} (k : Nat) : cutS (mk l) (some (k : Int)) none = mk (l.drop k) := by
  apply cpl_inj
  rw [mk_cps]
  unfold cutS
  rw [HT.sIx_none, HT.sIx_nat, mk_len, mk_cps]
  simp only
  by_cases h : k ≤ l.length
  · rw [Nat.min_eq_left h, List.take_of_length_le (by rw [List.length_drop]; exact Nat.le_refl _)]
  · rw [Nat.min_eq_right (by omega), List.drop_of_length_le (Nat.le_refl _), List.take_nil, List.drop_of_length_le (by omega)]
structure Wd (l : List Nat) : Prop where
  lo : 1 ≤ l.length
  hi : l.length ≤ 8
  sm : inAll l smS = true
theorem nd_sub : ∀ {a b : List Str}, a.Nodup → (∀ x ∈ a, x ∈ b) → a.length ≤ b.length
  | [], b, _, _ => Nat.zero_le _
  | x :: a, b, nd, h => by
    rw [List.nodup_cons] at nd
    have hx := h x List.mem_cons_self
    have := nd_sub (a := a) (b := b.erase x) nd.2 fun y hy => (List.mem_erase_of_ne (fun (e : y = x) => nd.1 (by rw [← e]; exact hy))).mpr (h y (List.mem_cons_of_mem _ hy))
    rw [List.length_erase_of_mem hx] at this
    have hp : 0 < b.length := List.length_pos_of_mem hx
    rw [List.length_cons]
    omega
section
variable {S : Type} {s : S}
theorem fl_ix0 {G : Ea S} {ρ : Rho} {x : Str} {r : List D} (h : G ρ s = some (.str x :: r, s)) : cFl (cB pIx (cNl G) (cK (.int 0))) ρ s = some (.str x, s) := by
  unfold cFl cB cNl
  rw [h]
  show bnd (put (pIx (.list (.str x :: r)) (.int 0)) s) _ = _
  rw [v_ix0L]
  rfl
end
structure Kds (xs : List Str) (n : Nat) : Prop where
  len : xs.length = n
  nd : xs.Nodup
  wd : ∀ x ∈ xs, Wd x.cps.toList
abbrev Fword : Fn DS := K_w_word Fdraw8
end Lw41
set_option Elab.async false
set_option linter.all false
set_option maxRecDepth 100000
set_option maxHeartbeats 1000000
/-! what is drawn: words, kinds, names, letters -/
namespace Lw38
open PySem PySem.Spec L2 Dl Mx Ds Lw01 Lw41
theorem ok_wordN {s : DS} {lo hi : Nat} (h1 : lo ≤ hi) (h2 : hi ≤ 20) {Q : D → DS → Prop} (q : ∀ l s', lo ≤ l.length → l.length ≤ hi → inAll l smS = true → Q (.str (mk l)) s') : Ok (Lw38.K_w_word Fdraw8 [hnd 0, .int (lo : Nat), .int (hi : Nat)] s) Q := by
  unfold Lw38.K_w_word Lw38.B_w_word
  refine k_fn (k_seq (k_set ?_))
  simp only [ok_V0, ok_Vs, ok_K, ok_B, ok_U, ok_nil, ok_cons, ok_N, ok_aN, ok_call, ok_nl, ok_fl, ok_afl, ok_T, ok_qNot, ok_qAnd, ok_qOr, ok_and, ok_or, ok_not, ok_if, ok_Sl, ok_oNo, ok_oOf, ok_Ch, ok_it, ok_itA, ok_yes, v_addI, v_sub, v_neg, v_eqI, v_eqS, v_eqB, v_eq0, v_eqT0, v_neI, v_neS, v_neB, v_ne0, v_neT0, v_ltI, v_leI, v_gtI, v_geI, v_is, v_isNot, v_nn, v_ns, v_ni, v_nl, v_nt, v_tb, v_tl, v_tt, v_tn, v_ti, v_asB, v_asI, v_asL, v_asT, v_asS, v_lenL, v_lenT, v_tupL, v_tupT, v_listL, v_listT, v_intB, v_tup0, v_tup1, v_tup2, v_tup3, v_tup4, v_tup5, v_lst0, v_lst1, v_lst2, v_lst3, v_lst4, v_lst5, v_ok0, v_ok1, v_ok2, v_ix0L, v_ix0, v_ix1, v_ix2, v_ix3, v_fs, v_fi, v_fb, v_fn, v_ft, v_f0, v_fc, startR, List.map_cons, List.map_nil, List.length_cons, List.length_nil, List.replicate, List.cons_append, List.nil_append, List.set_cons_zero, List.set_cons_succ, Option.some.injEq, exists_eq_left', Nat.reduceAdd, Nat.reduceSub, Nat.sub_zero, Nat.sub_self, Nat.zero_add, Nat.reduceEqDiff, Bool.not_true, Bool.not_false, if_true, if_false, Bool.and_self, Bool.true_and, Bool.and_true, Bool.false_eq_true, ↓reduceIte, true_and, and_true, decide_true, decide_false, wipeR]
  refine k_seq (k_set ?_)
  simp only [ok_V0, ok_Vs, ok_K, ok_B, ok_U, ok_nil, ok_cons, ok_N, ok_aN, ok_call, ok_nl, ok_fl, ok_afl, ok_T, ok_qNot, ok_qAnd, ok_qOr, ok_and, ok_or, ok_not, ok_if, ok_Sl, ok_oNo, ok_oOf, ok_Ch, ok_it, ok_itA, ok_yes, v_addI, v_sub, v_neg, v_eqI, v_eqS, v_eqB, v_eq0, v_eqT0, v_neI, v_neS, v_neB, v_ne0, v_neT0, v_ltI, v_leI, v_gtI, v_geI, v_is, v_isNot, v_nn, v_ns, v_ni, v_nl, v_nt, v_tb, v_tl, v_tt, v_tn, v_ti, v_asB, v_asI, v_asL, v_asT, v_asS, v_lenL, v_lenT, v_tupL, v_tupT, v_listL, v_listT, v_intB, v_tup0, v_tup1, v_tup2, v_tup3, v_tup4, v_tup5, v_lst0, v_lst1, v_lst2, v_lst3, v_lst4, v_lst5, v_ok0, v_ok1, v_ok2, v_ix0L, v_ix0, v_ix1, v_ix2, v_ix3, v_fs, v_fi, v_fb, v_fn, v_ft, v_f0, v_fc, startR, List.map_cons, List.map_nil, List.length_cons, List.length_nil, List.replicate, List.cons_append, List.nil_append, List.set_cons_zero, List.set_cons_succ, Option.some.injEq, exists_eq_left', Nat.reduceAdd, Nat.reduceSub, Nat.sub_zero, Nat.sub_self, Nat.zero_add, Nat.reduceEqDiff, Bool.not_true, Bool.not_false, if_true, if_false, Bool.and_self, Bool.true_and, Bool.and_true, Bool.false_eq_true, ↓reduceIte, true_and, and_true, decide_true, decide_false, wipeR]
  refine k_seq (k_forP (fun ds s' => ∃ n : Nat, lo ≤ n ∧ n ≤ hi ∧ ds = rngD 0 n) ?_ ?_)
  · simp only [ok_V0, ok_Vs, ok_K, ok_B, ok_U, ok_nil, ok_cons, ok_N, ok_aN, ok_call, ok_nl, ok_fl, ok_afl, ok_T, ok_qNot, ok_qAnd, ok_qOr, ok_and, ok_or, ok_not, ok_if, ok_Sl, ok_oNo, ok_oOf, ok_Ch, ok_it, ok_itA, ok_yes, v_addI, v_sub, v_neg, v_eqI, v_eqS, v_eqB, v_eq0, v_eqT0, v_neI, v_neS, v_neB, v_ne0, v_neT0, v_ltI, v_leI, v_gtI, v_geI, v_is, v_isNot, v_nn, v_ns, v_ni, v_nl, v_nt, v_tb, v_tl, v_tt, v_tn, v_ti, v_asB, v_asI, v_asL, v_asT, v_asS, v_lenL, v_lenT, v_tupL, v_tupT, v_listL, v_listT, v_intB, v_tup0, v_tup1, v_tup2, v_tup3, v_tup4, v_tup5, v_lst0, v_lst1, v_lst2, v_lst3, v_lst4, v_lst5, v_ok0, v_ok1, v_ok2, v_ix0L, v_ix0, v_ix1, v_ix2, v_ix3, v_fs, v_fi, v_fb, v_fn, v_ft, v_f0, v_fc, startR, List.map_cons, List.map_nil, List.length_cons, List.length_nil, List.replicate, List.cons_append, List.nil_append, List.set_cons_zero, List.set_cons_succ, Option.some.injEq, exists_eq_left', Nat.reduceAdd, Nat.reduceSub, Nat.sub_zero, Nat.sub_self, Nat.zero_add, Nat.reduceEqDiff, Bool.not_true, Bool.not_false, if_true, if_false, Bool.and_self, Bool.true_and, Bool.and_true, Bool.false_eq_true, ↓reduceIte, true_and, and_true, decide_true, decide_false, wipeR]
    refine k_draw8 (by omega) (by omega) fun r s1 r0 r1 => ?_
    exact ⟨_, rfl, _, pr1 (by omega) (by omega), (lo + r).toNat, by omega, by omega, rfl⟩
  · rintro ds s1 ⟨n, n2, n8, rfl⟩
    refine ⟨fun j ρ _ => ∃ (l : List Nat) (o : Option D), ρ = [some (hnd 0), some (.int (lo : Nat)), some (.int (hi : Nat)), some (.str smS), some (.str (mk l)), o] ∧ l.length = j ∧ inAll l smS = true, ⟨[], none, rfl, rfl, rfl⟩, ?_, ?_⟩
    · rintro j d ρ s2 hd ⟨l, o, rfl, hl, hx⟩
      obtain ⟨hj, rfl⟩ := rng_get hd
      refine ⟨_, rfl, ?_⟩
      refine k_set ?_
      simp only [ok_V0, ok_Vs, ok_K, ok_B, ok_U, ok_nil, ok_cons, ok_N, ok_aN, ok_call, ok_nl, ok_fl, ok_afl, ok_T, ok_qNot, ok_qAnd, ok_qOr, ok_and, ok_or, ok_not, ok_if, ok_Sl, ok_oNo, ok_oOf, ok_Ch, ok_it, ok_itA, ok_yes, v_addI, v_sub, v_neg, v_eqI, v_eqS, v_eqB, v_eq0, v_eqT0, v_neI, v_neS, v_neB, v_ne0, v_neT0, v_ltI, v_leI, v_gtI, v_geI, v_is, v_isNot, v_nn, v_ns, v_ni, v_nl, v_nt, v_tb, v_tl, v_tt, v_tn, v_ti, v_asB, v_asI, v_asL, v_asT, v_asS, v_lenL, v_lenT, v_tupL, v_tupT, v_listL, v_listT, v_intB, v_tup0, v_tup1, v_tup2, v_tup3, v_tup4, v_tup5, v_lst0, v_lst1, v_lst2, v_lst3, v_lst4, v_lst5, v_ok0, v_ok1, v_ok2, v_ix0L, v_ix0, v_ix1, v_ix2, v_ix3, v_fs, v_fi, v_fb, v_fn, v_ft, v_f0, v_fc, startR, List.map_cons, List.map_nil, List.length_cons, List.length_nil, List.replicate, List.cons_append, List.nil_append, List.set_cons_zero, List.set_cons_succ, Option.some.injEq, exists_eq_left', Nat.reduceAdd, Nat.reduceSub, Nat.sub_zero, Nat.sub_self, Nat.zero_add, Nat.reduceEqDiff, Bool.not_true, Bool.not_false, if_true, if_false, Bool.and_self, Bool.true_and, Bool.and_true, Bool.false_eq_true, ↓reduceIte, true_and, and_true, decide_true, decide_false, wipeR]
      refine k_draw8 (by omega) (by omega) fun r s3 r0 r1 => ?_
      obtain ⟨c, c1, _, hc⟩ := ix_at (z := smS) (r := r) (by decide) r0 r1
      refine ⟨_, hc, _, v_addS (by rw [mk_len, mk_len]; exact szL (by simp; omega)), ?_⟩
      rw [mk_app]
      refine ⟨l ++ [c], _, rfl, by simp [hl], ?_⟩
      rw [inAll_app, hx, inAll_one c1]
      rfl
    · rintro ρ s2 ⟨l, o, rfl, hl, hx⟩
      rw [rng_len] at hl
      refine k_ret ?_
      simp only [ok_V0, ok_Vs, ok_K, ok_B, ok_U, ok_nil, ok_cons, ok_N, ok_aN, ok_call, ok_nl, ok_fl, ok_afl, ok_T, ok_qNot, ok_qAnd, ok_qOr, ok_and, ok_or, ok_not, ok_if, ok_Sl, ok_oNo, ok_oOf, ok_Ch, ok_it, ok_itA, ok_yes, v_addI, v_sub, v_neg, v_eqI, v_eqS, v_eqB, v_eq0, v_eqT0, v_neI, v_neS, v_neB, v_ne0, v_neT0, v_ltI, v_leI, v_gtI, v_geI, v_is, v_isNot, v_nn, v_ns, v_ni, v_nl, v_nt, v_tb, v_tl, v_tt, v_tn, v_ti, v_asB, v_asI, v_asL, v_asT, v_asS, v_lenL, v_lenT, v_tupL, v_tupT, v_listL, v_listT, v_intB, v_tup0, v_tup1, v_tup2, v_tup3, v_tup4, v_tup5, v_lst0, v_lst1, v_lst2, v_lst3, v_lst4, v_lst5, v_ok0, v_ok1, v_ok2, v_ix0L, v_ix0, v_ix1, v_ix2, v_ix3, v_fs, v_fi, v_fb, v_fn, v_ft, v_f0, v_fc, startR, List.map_cons, List.map_nil, List.length_cons, List.length_nil, List.replicate, List.cons_append, List.nil_append, List.set_cons_zero, List.set_cons_succ, Option.some.injEq, exists_eq_left', Nat.reduceAdd, Nat.reduceSub, Nat.sub_zero, Nat.sub_self, Nat.zero_add, Nat.reduceEqDiff, Bool.not_true, Bool.not_false, if_true, if_false, Bool.and_self, Bool.true_and, Bool.and_true, Bool.false_eq_true, ↓reduceIte, true_and, and_true, decide_true, decide_false, wipeR]
      exact q l _ (by omega) (by omega) hx
/-! letters -/
/-! names -/
def qS : List Str := [Str.ofString "Qa", Str.ofString "Qb", Str.ofString "Qc", Str.ofString "Qd", Str.ofString "Qe", Str.ofString "Qf", Str.ofString "Qg"]
theorem q_nd : qS.Nodup := by decide +kernel
theorem q_nm : ∀ x ∈ qS, nameB (.str x) = true := by
  have h : (qS.all fun x => nameB (.str x)) = true := by decide +kernel
  exact fun x hx => List.all_eq_true.mp h x hx
theorem q_one {xs : List Str} (h : xs.length < 7) : ∃ x r, (qS.filter fun y => !decide (y ∈ xs)) = x :: r ∧ x ∈ qS ∧ x ∉ xs := by
  cases e : qS.filter fun y => !decide (y ∈ xs) with
  | nil =>
    exfalso
    have : ∀ y ∈ qS, y ∈ xs := fun y hy => by
      have := List.filter_eq_nil_iff.mp e y hy
      simpa using this
    have := nd_sub q_nd this
    have e7 : qS.length = 7 := rfl
    omega
  | cons x r =>
    have hm : x ∈ qS.filter fun y => !decide (y ∈ xs) := by rw [e]; exact List.mem_cons_self
    rw [List.mem_filter] at hm
    exact ⟨x, r, rfl, hm.1, by simpa using hm.2⟩
abbrev nbE : Ev DS := cFl (cB pIx (cNl (lcF (iOf asL (cN pLst (aCons (cK (.str "Qa")) (aCons (cK (.str "Qb")) (aCons (cK (.str "Qc")) (aCons (cK (.str "Qd")) (aCons (cK (.str "Qe")) (aCons (cK (.str "Qf")) (aCons (cK (.str "Qg")) aNil))))))))) (gNm 5) (qT (cB pNotIn (cVar 5) (cVar 2))) (cVar 5) [5])) (cK (.int 0)))
theorem nb_eq {s : DS} {xs : List Str} {a b d e f : Option D} (hl : xs.length < 7) : ∃ x, nbE [a, b, some (.list (xs.map .str)), d, e, f] s = some (.str x, s) ∧ x ∈ qS ∧ x ∉ xs := by
  obtain ⟨x, r, e1, hx, hn⟩ := q_one hl
  refine ⟨x, ?_, hx, hn⟩
  have h0 := k_keep (S := DS) (ds := qS.map PyData.str) (q := qT (cB pNotIn (cVar 5) (cVar 2))) (f := cVar 5) (fi := iOf asL (cN pLst (aCons (cK (.str "Qa")) (aCons (cK (.str "Qb")) (aCons (cK (.str "Qc")) (aCons (cK (.str "Qd")) (aCons (cK (.str "Qe")) (aCons (cK (.str "Qf")) (aCons (cK (.str "Qg")) aNil))))))))) (t := gNm 5) (vs := [5]) (ρ := [a, b, some (.list (xs.map .str)), d, e, f]) (s := s) (fun d => match d with | .str z => !decide (z ∈ xs) | _ => false) id (by decide) rfl (fun d hd => by
    obtain ⟨z, hz, rfl⟩ := List.mem_map.mp hd
    refine ⟨_, rfl, ?_, fun _ => rfl⟩
    show bnd (put (pNotIn (.str z) (.list (xs.map .str))) s) (fun x s => put (truth x) s) = _
    rw [notIn_strsL]
    rfl)
  have h2 : lcF (S := DS) (iOf asL (cN pLst (aCons (cK (.str "Qa")) (aCons (cK (.str "Qb")) (aCons (cK (.str "Qc")) (aCons (cK (.str "Qd")) (aCons (cK (.str "Qe")) (aCons (cK (.str "Qf")) (aCons (cK (.str "Qg")) aNil))))))))) (gNm 5) (qT (cB pNotIn (cVar 5) (cVar 2))) (cVar 5) [5] [a, b, some (.list (xs.map .str)), d, e, f] s = some ((qS.filter fun y => !decide (y ∈ xs)).map .str, s) := by
    rw [h0, List.map_id, List.filter_map]
    rfl
  rw [e1] at h2
  exact fl_ix0 h2
theorem ok_names {s : DS} {n : Nat} (h : n ≤ 6) {Q : D → DS → Prop} (q : ∀ xs s', Nms xs n → Q (.list (xs.map .str)) s') : Ok (Lw38.K_w_names Fdraw8 (Lw38.K_w_word Fdraw8) [hnd 0, .int (n : Nat)] s) Q := by
  unfold Lw38.K_w_names Lw38.B_w_names
  refine k_fn (k_seq (k_own ?_))
  simp only [ok_V0, ok_Vs, ok_K, ok_B, ok_U, ok_nil, ok_cons, ok_N, ok_aN, ok_call, ok_nl, ok_fl, ok_afl, ok_T, ok_qNot, ok_qAnd, ok_qOr, ok_and, ok_or, ok_not, ok_if, ok_Sl, ok_oNo, ok_oOf, ok_Ch, ok_it, ok_itA, ok_yes, v_addI, v_sub, v_neg, v_eqI, v_eqS, v_eqB, v_eq0, v_eqT0, v_neI, v_neS, v_neB, v_ne0, v_neT0, v_ltI, v_leI, v_gtI, v_geI, v_is, v_isNot, v_nn, v_ns, v_ni, v_nl, v_nt, v_tb, v_tl, v_tt, v_tn, v_ti, v_asB, v_asI, v_asL, v_asT, v_asS, v_lenL, v_lenT, v_tupL, v_tupT, v_listL, v_listT, v_intB, v_tup0, v_tup1, v_tup2, v_tup3, v_tup4, v_tup5, v_lst0, v_lst1, v_lst2, v_lst3, v_lst4, v_lst5, v_ok0, v_ok1, v_ok2, v_ix0L, v_ix0, v_ix1, v_ix2, v_ix3, v_fs, v_fi, v_fb, v_fn, v_ft, v_f0, v_fc, startR, List.map_cons, List.map_nil, List.length_cons, List.length_nil, List.replicate, List.cons_append, List.nil_append, List.set_cons_zero, List.set_cons_succ, Option.some.injEq, exists_eq_left', Nat.reduceAdd, Nat.reduceSub, Nat.sub_zero, Nat.sub_self, Nat.zero_add, Nat.reduceEqDiff, Bool.not_true, Bool.not_false, if_true, if_false, Bool.and_self, Bool.true_and, Bool.and_true, Bool.false_eq_true, ↓reduceIte, true_and, and_true, decide_true, decide_false, wipeR]
  refine k_seq (k_forP (fun ds s' => ds = rngD 0 n) ?_ ?_)
  · simp only [ok_V0, ok_Vs, ok_K, ok_B, ok_U, ok_nil, ok_cons, ok_N, ok_aN, ok_call, ok_nl, ok_fl, ok_afl, ok_T, ok_qNot, ok_qAnd, ok_qOr, ok_and, ok_or, ok_not, ok_if, ok_Sl, ok_oNo, ok_oOf, ok_Ch, ok_it, ok_itA, ok_yes, v_addI, v_sub, v_neg, v_eqI, v_eqS, v_eqB, v_eq0, v_eqT0, v_neI, v_neS, v_neB, v_ne0, v_neT0, v_ltI, v_leI, v_gtI, v_geI, v_is, v_isNot, v_nn, v_ns, v_ni, v_nl, v_nt, v_tb, v_tl, v_tt, v_tn, v_ti, v_asB, v_asI, v_asL, v_asT, v_asS, v_lenL, v_lenT, v_tupL, v_tupT, v_listL, v_listT, v_intB, v_tup0, v_tup1, v_tup2, v_tup3, v_tup4, v_tup5, v_lst0, v_lst1, v_lst2, v_lst3, v_lst4, v_lst5, v_ok0, v_ok1, v_ok2, v_ix0L, v_ix0, v_ix1, v_ix2, v_ix3, v_fs, v_fi, v_fb, v_fn, v_ft, v_f0, v_fc, startR, List.map_cons, List.map_nil, List.length_cons, List.length_nil, List.replicate, List.cons_append, List.nil_append, List.set_cons_zero, List.set_cons_succ, Option.some.injEq, exists_eq_left', Nat.reduceAdd, Nat.reduceSub, Nat.sub_zero, Nat.sub_self, Nat.zero_add, Nat.reduceEqDiff, Bool.not_true, Bool.not_false, if_true, if_false, Bool.and_self, Bool.true_and, Bool.and_true, Bool.false_eq_true, ↓reduceIte, true_and, and_true, decide_true, decide_false, wipeR]
    rw [pr1 (by omega) (by omega)]
    simp only [ok_V0, ok_Vs, ok_K, ok_B, ok_U, ok_nil, ok_cons, ok_N, ok_aN, ok_call, ok_nl, ok_fl, ok_afl, ok_T, ok_qNot, ok_qAnd, ok_qOr, ok_and, ok_or, ok_not, ok_if, ok_Sl, ok_oNo, ok_oOf, ok_Ch, ok_it, ok_itA, ok_yes, v_addI, v_sub, v_neg, v_eqI, v_eqS, v_eqB, v_eq0, v_eqT0, v_neI, v_neS, v_neB, v_ne0, v_neT0, v_ltI, v_leI, v_gtI, v_geI, v_is, v_isNot, v_nn, v_ns, v_ni, v_nl, v_nt, v_tb, v_tl, v_tt, v_tn, v_ti, v_asB, v_asI, v_asL, v_asT, v_asS, v_lenL, v_lenT, v_tupL, v_tupT, v_listL, v_listT, v_intB, v_tup0, v_tup1, v_tup2, v_tup3, v_tup4, v_tup5, v_lst0, v_lst1, v_lst2, v_lst3, v_lst4, v_lst5, v_ok0, v_ok1, v_ok2, v_ix0L, v_ix0, v_ix1, v_ix2, v_ix3, v_fs, v_fi, v_fb, v_fn, v_ft, v_f0, v_fc, startR, List.map_cons, List.map_nil, List.length_cons, List.length_nil, List.replicate, List.cons_append, List.nil_append, List.set_cons_zero, List.set_cons_succ, Option.some.injEq, exists_eq_left', Nat.reduceAdd, Nat.reduceSub, Nat.sub_zero, Nat.sub_self, Nat.zero_add, Nat.reduceEqDiff, Bool.not_true, Bool.not_false, if_true, if_false, Bool.and_self, Bool.true_and, Bool.and_true, Bool.false_eq_true, ↓reduceIte, true_and, and_true, decide_true, decide_false, wipeR]
    rfl
  · rintro ds s1 rfl
    refine ⟨fun j ρ _ => ∃ (xs : List Str) (o3 o4 o5 : Option D), ρ = [some (hnd 0), some (.int (n : Nat)), some (.list (xs.map .str)), o3, o4, o5] ∧ Nms xs j, ⟨[], none, none, none, rfl, rfl, List.nodup_nil, by simp⟩, ?_, ?_⟩
    · rintro j d ρ s2 hd ⟨xs, o3, o4, o5, rfl, hk⟩
      obtain ⟨hj, rfl⟩ := rng_get hd
      refine ⟨_, rfl, ?_⟩
      refine k_seq (k_set ?_)
      simp only [ok_V0, ok_Vs, ok_K, ok_B, ok_U, ok_nil, ok_cons, ok_N, ok_aN, ok_call, ok_nl, ok_fl, ok_afl, ok_T, ok_qNot, ok_qAnd, ok_qOr, ok_and, ok_or, ok_not, ok_if, ok_Sl, ok_oNo, ok_oOf, ok_Ch, ok_it, ok_itA, ok_yes, v_addI, v_sub, v_neg, v_eqI, v_eqS, v_eqB, v_eq0, v_eqT0, v_neI, v_neS, v_neB, v_ne0, v_neT0, v_ltI, v_leI, v_gtI, v_geI, v_is, v_isNot, v_nn, v_ns, v_ni, v_nl, v_nt, v_tb, v_tl, v_tt, v_tn, v_ti, v_asB, v_asI, v_asL, v_asT, v_asS, v_lenL, v_lenT, v_tupL, v_tupT, v_listL, v_listT, v_intB, v_tup0, v_tup1, v_tup2, v_tup3, v_tup4, v_tup5, v_lst0, v_lst1, v_lst2, v_lst3, v_lst4, v_lst5, v_ok0, v_ok1, v_ok2, v_ix0L, v_ix0, v_ix1, v_ix2, v_ix3, v_fs, v_fi, v_fb, v_fn, v_ft, v_f0, v_fc, startR, List.map_cons, List.map_nil, List.length_cons, List.length_nil, List.replicate, List.cons_append, List.nil_append, List.set_cons_zero, List.set_cons_succ, Option.some.injEq, exists_eq_left', Nat.reduceAdd, Nat.reduceSub, Nat.sub_zero, Nat.sub_self, Nat.zero_add, Nat.reduceEqDiff, Bool.not_true, Bool.not_false, if_true, if_false, Bool.and_self, Bool.true_and, Bool.and_true, Bool.false_eq_true, ↓reduceIte, true_and, and_true, decide_true, decide_false, wipeR]
      refine k_draw8 (by omega) (by omega) fun r s3 r0 r1 => ?_
      obtain ⟨c, c1, _, hc⟩ := ix_at (z := grS) (r := r) (by decide) r0 r1
      refine ⟨_, hc, ?_⟩
      refine ok_wordN (lo := 0) (hi := 7) (by decide) (by decide) fun l s4 _ l7 hs => ?_
      refine ⟨_, v_addS (by rw [mk_len, mk_len]; exact szL (by simp; omega)), ?_⟩
      rw [mk_app]
      have hnm : nameB (.str (mk ([c] ++ l))) = true := name_mk (l := l) c1 l7 hs
      generalize mk ([c] ++ l) = y at hnm
      refine k_seq (Ok.imp (Q := fun r _ => ∃ x, r = .nx [some (hnd 0), some (.int (n : Nat)), some (.list (xs.map .str)), some (.int (0 + (j : Int))), some (.str x), o5] ∧ nameB (.str x) = true ∧ x ∉ xs) ?_ ?_)
      · refine k_sIf ?_
        simp only [ok_V0, ok_Vs, ok_K, ok_B, ok_U, ok_nil, ok_cons, ok_N, ok_aN, ok_call, ok_nl, ok_fl, ok_afl, ok_T, ok_qNot, ok_qAnd, ok_qOr, ok_and, ok_or, ok_not, ok_if, ok_Sl, ok_oNo, ok_oOf, ok_Ch, ok_it, ok_itA, ok_yes, v_addI, v_sub, v_neg, v_eqI, v_eqS, v_eqB, v_eq0, v_eqT0, v_neI, v_neS, v_neB, v_ne0, v_neT0, v_ltI, v_leI, v_gtI, v_geI, v_is, v_isNot, v_nn, v_ns, v_ni, v_nl, v_nt, v_tb, v_tl, v_tt, v_tn, v_ti, v_asB, v_asI, v_asL, v_asT, v_asS, v_lenL, v_lenT, v_tupL, v_tupT, v_listL, v_listT, v_intB, v_tup0, v_tup1, v_tup2, v_tup3, v_tup4, v_tup5, v_lst0, v_lst1, v_lst2, v_lst3, v_lst4, v_lst5, v_ok0, v_ok1, v_ok2, v_ix0L, v_ix0, v_ix1, v_ix2, v_ix3, v_fs, v_fi, v_fb, v_fn, v_ft, v_f0, v_fc, startR, List.map_cons, List.map_nil, List.length_cons, List.length_nil, List.replicate, List.cons_append, List.nil_append, List.set_cons_zero, List.set_cons_succ, Option.some.injEq, exists_eq_left', Nat.reduceAdd, Nat.reduceSub, Nat.sub_zero, Nat.sub_self, Nat.zero_add, Nat.reduceEqDiff, Bool.not_true, Bool.not_false, if_true, if_false, Bool.and_self, Bool.true_and, Bool.and_true, Bool.false_eq_true, ↓reduceIte, true_and, and_true, decide_true, decide_false, wipeR]
        rw [in_strsL]
        simp only [ok_V0, ok_Vs, ok_K, ok_B, ok_U, ok_nil, ok_cons, ok_N, ok_aN, ok_call, ok_nl, ok_fl, ok_afl, ok_T, ok_qNot, ok_qAnd, ok_qOr, ok_and, ok_or, ok_not, ok_if, ok_Sl, ok_oNo, ok_oOf, ok_Ch, ok_it, ok_itA, ok_yes, v_addI, v_sub, v_neg, v_eqI, v_eqS, v_eqB, v_eq0, v_eqT0, v_neI, v_neS, v_neB, v_ne0, v_neT0, v_ltI, v_leI, v_gtI, v_geI, v_is, v_isNot, v_nn, v_ns, v_ni, v_nl, v_nt, v_tb, v_tl, v_tt, v_tn, v_ti, v_asB, v_asI, v_asL, v_asT, v_asS, v_lenL, v_lenT, v_tupL, v_tupT, v_listL, v_listT, v_intB, v_tup0, v_tup1, v_tup2, v_tup3, v_tup4, v_tup5, v_lst0, v_lst1, v_lst2, v_lst3, v_lst4, v_lst5, v_ok0, v_ok1, v_ok2, v_ix0L, v_ix0, v_ix1, v_ix2, v_ix3, v_fs, v_fi, v_fb, v_fn, v_ft, v_f0, v_fc, startR, List.map_cons, List.map_nil, List.length_cons, List.length_nil, List.replicate, List.cons_append, List.nil_append, List.set_cons_zero, List.set_cons_succ, Option.some.injEq, exists_eq_left', Nat.reduceAdd, Nat.reduceSub, Nat.sub_zero, Nat.sub_self, Nat.zero_add, Nat.reduceEqDiff, Bool.not_true, Bool.not_false, if_true, if_false, Bool.and_self, Bool.true_and, Bool.and_true, Bool.false_eq_true, ↓reduceIte, true_and, and_true, decide_true, decide_false, wipeR]
        by_cases hi : y ∈ xs
        · rw [decide_eq_true hi]
          simp only [ok_V0, ok_Vs, ok_K, ok_B, ok_U, ok_nil, ok_cons, ok_N, ok_aN, ok_call, ok_nl, ok_fl, ok_afl, ok_T, ok_qNot, ok_qAnd, ok_qOr, ok_and, ok_or, ok_not, ok_if, ok_Sl, ok_oNo, ok_oOf, ok_Ch, ok_it, ok_itA, ok_yes, v_addI, v_sub, v_neg, v_eqI, v_eqS, v_eqB, v_eq0, v_eqT0, v_neI, v_neS, v_neB, v_ne0, v_neT0, v_ltI, v_leI, v_gtI, v_geI, v_is, v_isNot, v_nn, v_ns, v_ni, v_nl, v_nt, v_tb, v_tl, v_tt, v_tn, v_ti, v_asB, v_asI, v_asL, v_asT, v_asS, v_lenL, v_lenT, v_tupL, v_tupT, v_listL, v_listT, v_intB, v_tup0, v_tup1, v_tup2, v_tup3, v_tup4, v_tup5, v_lst0, v_lst1, v_lst2, v_lst3, v_lst4, v_lst5, v_ok0, v_ok1, v_ok2, v_ix0L, v_ix0, v_ix1, v_ix2, v_ix3, v_fs, v_fi, v_fb, v_fn, v_ft, v_f0, v_fc, startR, List.map_cons, List.map_nil, List.length_cons, List.length_nil, List.replicate, List.cons_append, List.nil_append, List.set_cons_zero, List.set_cons_succ, Option.some.injEq, exists_eq_left', Nat.reduceAdd, Nat.reduceSub, Nat.sub_zero, Nat.sub_self, Nat.zero_add, Nat.reduceEqDiff, Bool.not_true, Bool.not_false, if_true, if_false, Bool.and_self, Bool.true_and, Bool.and_true, Bool.false_eq_true, ↓reduceIte, true_and, and_true, decide_true, decide_false, wipeR]
          obtain ⟨x, hx, hx1, hx2⟩ := nb_eq (s := s4) (xs := xs) (a := some (hnd 0)) (b := some (.int (n : Nat))) (d := some (.int (0 + (j : Int)))) (e := some (.str y)) (f := o5) (by rw [hk.len]; omega)
          refine k_set ?_
          exact ⟨_, _, hx, x, rfl, q_nm x hx1, hx2⟩
        · rw [decide_eq_false hi]
          simp only [ok_V0, ok_Vs, ok_K, ok_B, ok_U, ok_nil, ok_cons, ok_N, ok_aN, ok_call, ok_nl, ok_fl, ok_afl, ok_T, ok_qNot, ok_qAnd, ok_qOr, ok_and, ok_or, ok_not, ok_if, ok_Sl, ok_oNo, ok_oOf, ok_Ch, ok_it, ok_itA, ok_yes, v_addI, v_sub, v_neg, v_eqI, v_eqS, v_eqB, v_eq0, v_eqT0, v_neI, v_neS, v_neB, v_ne0, v_neT0, v_ltI, v_leI, v_gtI, v_geI, v_is, v_isNot, v_nn, v_ns, v_ni, v_nl, v_nt, v_tb, v_tl, v_tt, v_tn, v_ti, v_asB, v_asI, v_asL, v_asT, v_asS, v_lenL, v_lenT, v_tupL, v_tupT, v_listL, v_listT, v_intB, v_tup0, v_tup1, v_tup2, v_tup3, v_tup4, v_tup5, v_lst0, v_lst1, v_lst2, v_lst3, v_lst4, v_lst5, v_ok0, v_ok1, v_ok2, v_ix0L, v_ix0, v_ix1, v_ix2, v_ix3, v_fs, v_fi, v_fb, v_fn, v_ft, v_f0, v_fc, startR, List.map_cons, List.map_nil, List.length_cons, List.length_nil, List.replicate, List.cons_append, List.nil_append, List.set_cons_zero, List.set_cons_succ, Option.some.injEq, exists_eq_left', Nat.reduceAdd, Nat.reduceSub, Nat.sub_zero, Nat.sub_self, Nat.zero_add, Nat.reduceEqDiff, Bool.not_true, Bool.not_false, if_true, if_false, Bool.and_self, Bool.true_and, Bool.and_true, Bool.false_eq_true, ↓reduceIte, true_and, and_true, decide_true, decide_false, wipeR]
          exact k_nx ⟨y, rfl, hnm, hi⟩
      rintro r s7 ⟨x, rfl, hx, hn⟩
      refine k_app (ds := xs.map PyData.str) rfl (by rw [List.length_map, hk.len]; exact szl (by omega)) ?_
      simp only [ok_V0, ok_Vs, ok_K, ok_B, ok_U, ok_nil, ok_cons, ok_N, ok_aN, ok_call, ok_nl, ok_fl, ok_afl, ok_T, ok_qNot, ok_qAnd, ok_qOr, ok_and, ok_or, ok_not, ok_if, ok_Sl, ok_oNo, ok_oOf, ok_Ch, ok_it, ok_itA, ok_yes, v_addI, v_sub, v_neg, v_eqI, v_eqS, v_eqB, v_eq0, v_eqT0, v_neI, v_neS, v_neB, v_ne0, v_neT0, v_ltI, v_leI, v_gtI, v_geI, v_is, v_isNot, v_nn, v_ns, v_ni, v_nl, v_nt, v_tb, v_tl, v_tt, v_tn, v_ti, v_asB, v_asI, v_asL, v_asT, v_asS, v_lenL, v_lenT, v_tupL, v_tupT, v_listL, v_listT, v_intB, v_tup0, v_tup1, v_tup2, v_tup3, v_tup4, v_tup5, v_lst0, v_lst1, v_lst2, v_lst3, v_lst4, v_lst5, v_ok0, v_ok1, v_ok2, v_ix0L, v_ix0, v_ix1, v_ix2, v_ix3, v_fs, v_fi, v_fb, v_fn, v_ft, v_f0, v_fc, startR, List.map_cons, List.map_nil, List.length_cons, List.length_nil, List.replicate, List.cons_append, List.nil_append, List.set_cons_zero, List.set_cons_succ, Option.some.injEq, exists_eq_left', Nat.reduceAdd, Nat.reduceSub, Nat.sub_zero, Nat.sub_self, Nat.zero_add, Nat.reduceEqDiff, Bool.not_true, Bool.not_false, if_true, if_false, Bool.and_self, Bool.true_and, Bool.and_true, Bool.false_eq_true, ↓reduceIte, true_and, and_true, decide_true, decide_false, wipeR]
      refine ⟨xs ++ [x], some (.int (0 + (j : Int))), some (.str x), o5, by simp only [List.map_append, List.map_cons, List.map_nil], by simp [hk.len], nodup_snoc hk.nd hn, fun y hy => ?_⟩
      rcases List.mem_append.mp hy with hy | hy
      · exact hk.nm y hy
      · rw [List.mem_singleton.mp hy]
        exact hx
    · rintro ρ s2 ⟨xs, o3, o4, o5, rfl, hk⟩
      rw [rng_len] at hk
      refine k_ret ?_
      simp only [ok_V0, ok_Vs, ok_K, ok_B, ok_U, ok_nil, ok_cons, ok_N, ok_aN, ok_call, ok_nl, ok_fl, ok_afl, ok_T, ok_qNot, ok_qAnd, ok_qOr, ok_and, ok_or, ok_not, ok_if, ok_Sl, ok_oNo, ok_oOf, ok_Ch, ok_it, ok_itA, ok_yes, v_addI, v_sub, v_neg, v_eqI, v_eqS, v_eqB, v_eq0, v_eqT0, v_neI, v_neS, v_neB, v_ne0, v_neT0, v_ltI, v_leI, v_gtI, v_geI, v_is, v_isNot, v_nn, v_ns, v_ni, v_nl, v_nt, v_tb, v_tl, v_tt, v_tn, v_ti, v_asB, v_asI, v_asL, v_asT, v_asS, v_lenL, v_lenT, v_tupL, v_tupT, v_listL, v_listT, v_intB, v_tup0, v_tup1, v_tup2, v_tup3, v_tup4, v_tup5, v_lst0, v_lst1, v_lst2, v_lst3, v_lst4, v_lst5, v_ok0, v_ok1, v_ok2, v_ix0L, v_ix0, v_ix1, v_ix2, v_ix3, v_fs, v_fi, v_fb, v_fn, v_ft, v_f0, v_fc, startR, List.map_cons, List.map_nil, List.length_cons, List.length_nil, List.replicate, List.cons_append, List.nil_append, List.set_cons_zero, List.set_cons_succ, Option.some.injEq, exists_eq_left', Nat.reduceAdd, Nat.reduceSub, Nat.sub_zero, Nat.sub_self, Nat.zero_add, Nat.reduceEqDiff, Bool.not_true, Bool.not_false, if_true, if_false, Bool.and_self, Bool.true_and, Bool.and_true, Bool.false_eq_true, ↓reduceIte, true_and, and_true, decide_true, decide_false, wipeR]
      exact q xs _ hk
end Lw38
set_option Elab.async false
set_option linter.all false
set_option maxRecDepth 100000
set_option maxHeartbeats 1000000
namespace Lw41
open PySem PySem.Spec L2 Dl Mx Ds Lw01
/-- a sum as it is drawn -/
structure Sm (xs : List Str) (t : Tot) : Prop where
  canon : Canon t
  sub : ∀ p ∈ t.1, p.1 ∈ xs
  pos : ∀ p ∈ t.1, 1 ≤ p.2
  len : t.1.length ≤ 6
/-! ### equality of sums as data -/
theorem dep_pts : ∀ ps : List Pt, PyData.depthAll (ps.map ptD) ≤ 1
  | [] => by simp [PyData.depthAll]
  | p :: ps => by
    have := dep_pts ps
    simp only [List.map_cons, PyData.depthAll, ptD, PyData.depth]
    omega
end Lw41
set_option Elab.async false
set_option linter.all false
set_option maxRecDepth 100000
set_option maxHeartbeats 1000000
/-! the law's forms as a type of their own -/
namespace Lw38
open PySem PySem.Spec L2 Dl Mx Ds Lw01 Lw41
inductive Jw | and | or | if'
inductive Qw | every | some
def Jw.s : Jw → Str
  | .and => Str.ofString "and"
  | .or => Str.ofString "or"
  | .if' => Str.ofString "if"
def Qw.s : Qw → Str
  | .every => Str.ofString "every"
  | .some => Str.ofString "some"
inductive Fm
  | is (t k : Str)
  | same (t u : Str)
  | least (a b : Tot)
  | no (f : Fm)
  | jn (w : Jw) (f g : Fm)
  | qu (w : Qw) (x : Str) (f : Fm)
def Fm.d : Fm → D
  | .is t k => .tuple [.str (Str.ofString "is"), .str t, .str k]
  | .same t u => .tuple [.str (Str.ofString "same"), .str t, .str u]
  | .least a b => .tuple [.str (Str.ofString "least"), totD a, totD b]
  | .no f => .tuple [.str (Str.ofString "not"), f.d]
  | .jn w f g => .tuple [.str w.s, f.d, g.d]
  | .qu w x f => .tuple [.str w.s, .str x, f.d]
def Fm.dep : Fm → Nat
  | .no f => f.dep + 1
  | .jn _ f g => max f.dep g.dep + 1
  | .qu _ _ f => f.dep + 1
  | _ => 0
def Fm.put (x t : Str) : Fm → Fm
  | .is u k => .is (if u = x then t else u) k
  | .no f => .no (f.put x t)
  | .jn w f g => .jn w (f.put x t) (g.put x t)
  | f => f
section
variable {S : Type} {s : S}
theorem ix_pick {a b : D} (c : Bool) : pIx (.list [a, b]) (.int (if c = true then 1 else 0)) = some (if c = true then b else a) := by
  cases c with
  | true => simp only [pIx]; exact atI_nat (j := 1) rfl
  | false => exact v_ix0L
end
end Lw38
set_option Elab.async false
set_option linter.all false
set_option maxRecDepth 100000
set_option maxHeartbeats 1000000
namespace Lw38
open PySem PySem.Spec L2 Dl Mx Ds Lw01 Lw41
section
variable {S : Type} {s : S}
def Fm.head : Fm → Str
  | .is _ _ => Str.ofString "is"
  | .same _ _ => Str.ofString "same"
  | .least _ _ => Str.ofString "least"
  | .no _ => Str.ofString "not"
  | .jn w _ _ => w.s
  | .qu w _ _ => w.s
def Fm.isQ : Fm → Bool
  | .qu _ _ _ => true
  | _ => false
def Fm.plain : Fm → Fm
  | .qu w x f => .qu w (Str.ofString "x") (f.put x (Str.ofString "x"))
  | f => f
end
end Lw38
set_option Elab.async false
set_option linter.all false
set_option maxRecDepth 100000
set_option maxHeartbeats 1000000
namespace Lw38
open PySem PySem.Spec L2 Dl Mx Ds Lw01 Lw41
section
variable {S : Type} {s : S}
def Fm.kd : Fm → List Str
  | .is _ k => [k]
  | _ => []
def Fm.size : Fm → Nat
  | .no f => f.size + 1
  | .jn _ f g => f.size + g.size + 1
  | .qu _ _ f => f.size + 1
  | _ => 1
def Fm.parts : Fm → List Fm
  | .no f => .no f :: f.parts
  | .jn w f g => .jn w f g :: (f.parts ++ g.parts)
  | .qu w x f => .qu w x f :: f.parts
  | f => [f]
end
end Lw38
set_option Elab.async false
set_option linter.all false
set_option maxRecDepth 100000
set_option maxHeartbeats 1000000
/-! forms are alike as data just where they are the same -/
namespace Lw38
open PySem PySem.Spec L2 Dl Mx Ds Lw01 Lw41
mutual
def smp : D → Bool
  | .none => true
  | .int _ => true
  | .str x => PyData.strOk x
  | .tuple xs => smpAll xs
  | _ => false
def smpAll : List D → Bool
  | [] => true
  | x :: xs => smp x && smpAll xs
end
mutual
theorem smp_lay : ∀ x : D, smp x = true → PyData.canLay0 x = true
  | .none, _ => by simp [PyData.canLay0]
  | .int _, _ => by simp [PyData.canLay0]
  | .str x, h => by simp only [smp] at h; simp [PyData.canLay0, h]
  | .tuple xs, h => by simp only [smp] at h; simp only [PyData.canLay0]; exact smp_lays xs h
  | .bool _, h => by simp [smp] at h
  | .list _, h => by simp [smp] at h
  | .dict _, h => by simp [smp] at h
theorem smp_lays : ∀ xs : List D, smpAll xs = true → PyData.canLayAll0 xs = true
  | [], _ => by simp [PyData.canLayAll0]
  | x :: xs, h => by
    simp only [smpAll, Bool.and_eq_true] at h
    simp only [PyData.canLayAll0, Bool.and_eq_true]
    exact ⟨smp_lay x h.1, smp_lays xs h.2⟩
end
mutual
theorem smp_eq : ∀ x y : D, smp x = true → smp y = true → (PyData.eqv x y = true ↔ x = y)
  | .none, y, _, h => by cases y <;> simp [smp, PyData.eqv] at h ⊢
  | .int i, y, _, h => by cases y <;> simp [smp, PyData.eqv] at h ⊢
  | .str i, y, _, h => by cases y <;> simp [smp, PyData.eqv] at h ⊢
  | .tuple xs, y, h1, h => by
    cases y with
    | tuple ys =>
      simp only [smp] at h1 h
      simp only [PyData.eqv, PyData.tuple.injEq]
      exact smp_eqs xs ys h1 h
    | _ => simp [smp, PyData.eqv] at h ⊢
  | .bool _, _, h, _ => by simp [smp] at h
  | .list _, _, h, _ => by simp [smp] at h
  | .dict _, _, h, _ => by simp [smp] at h
theorem smp_eqs : ∀ xs ys : List D, smpAll xs = true → smpAll ys = true → (PyData.eqvAll xs ys = true ↔ xs = ys)
  | [], ys, _, _ => by cases ys <;> simp [PyData.eqvAll]
  | x :: xs, [], _, _ => by simp [PyData.eqvAll]
  | x :: xs, y :: ys, h1, h2 => by
    simp only [smpAll, Bool.and_eq_true] at h1 h2
    simp only [PyData.eqvAll, Bool.and_eq_true, List.cons.injEq]
    rw [smp_eq x y h1.1 h2.1, smp_eqs xs ys h1.2 h2.2]
end
/-- may be held against another -/
structure Sp (x : D) : Prop where
  sm : smp x = true
  dp : PyData.depth x ≤ 64
theorem Sp.shape {x : D} (h : Sp x) : SeqAt.shaped x = true := by
  unfold SeqAt.shaped
  rw [smp_lay x h.sm, decide_eq_true h.dp]
  rfl
theorem eq_sp {ds es : List D} (hx : Sp (.tuple ds)) (hy : Sp (.tuple es)) : ∃ b, pEq (.tuple ds) (.tuple es) = some (.bool b) ∧ (b = true ↔ PyData.tuple ds = .tuple es) :=
  ⟨_, v_eqD hx.shape hy.shape, smp_eq _ _ hx.sm hy.sm⟩
/-! forms -/
def idx (x : Str) : Nat :=
  if x = Str.ofString "is" then 0 else if x = Str.ofString "same" then 1 else if x = Str.ofString "least" then 2 else if x = Str.ofString "not" then 3 else if x = Str.ofString "every" then 5 else if x = Str.ofString "some" then 5 else 4
def Fm.tag : Fm → Nat
  | .is _ _ => 0
  | .same _ _ => 1
  | .least _ _ => 2
  | .no _ => 3
  | .jn _ _ _ => 4
  | .qu _ _ _ => 5
theorem idx_head (f : Fm) : idx f.head = f.tag := by
  cases f with
  | is t k => show idx (Str.ofString "is") = 0; decide +kernel
  | same t k => show idx (Str.ofString "same") = 1; decide +kernel
  | least a b => show idx (Str.ofString "least") = 2; decide +kernel
  | no f => show idx (Str.ofString "not") = 3; decide +kernel
  | jn w f g =>
    show idx w.s = 4
    cases w <;> decide +kernel
  | qu w x f =>
    show idx w.s = 5
    cases w <;> decide +kernel
def Fm.tl : Fm → List D
  | .is t k => [.str t, .str k]
  | .same t u => [.str t, .str u]
  | .least a b => [totD a, totD b]
  | .no f => [f.d]
  | .jn w f g => [f.d, g.d]
  | .qu w x f => [.str x, f.d]
theorem d_eq (f : Fm) : f.d = .tuple (.str f.head :: f.tl) := by cases f <;> rfl
theorem jw_inj {v w : Jw} (h : v.s = w.s) : v = w := by
  cases v <;> cases w <;> first | rfl | exact absurd h (by decide +kernel)
theorem qw_inj {v w : Qw} (h : v.s = w.s) : v = w := by
  cases v <;> cases w <;> first | rfl | exact absurd h (by decide +kernel)
theorem pt_inj {a b : Pt} (h : ptD a = ptD b) : a = b := by
  obtain ⟨a1, a2⟩ := a
  obtain ⟨b1, b2⟩ := b
  simp [ptD] at h
  rw [h.1, h.2]
theorem pts_inj : ∀ a b : List Pt, a.map ptD = b.map ptD → a = b
  | [], [], _ => rfl
  | [], _ :: _, h => by simp at h
  | _ :: _, [], h => by simp at h
  | x :: a, y :: b, h => by
    rw [List.map_cons, List.map_cons, List.cons.injEq] at h
    rw [pt_inj h.1, pts_inj a b h.2]
theorem tot_inj {a b : Tot} (h : totD a = totD b) : a = b := by
  obtain ⟨a1, a2⟩ := a
  obtain ⟨b1, b2⟩ := b
  simp only [totD, PyData.tuple.injEq, List.cons.injEq, PyData.int.injEq, and_true] at h
  rw [pts_inj _ _ h.1, h.2]
theorem head_eq {f g : Fm} (h : f.d = g.d) : f.head = g.head ∧ f.tl = g.tl := by
  rw [d_eq f, d_eq g, PyData.tuple.injEq, List.cons.injEq, PyData.str.injEq] at h
  exact h
theorem d_inj : ∀ f g : Fm, f.d = g.d → f = g := by
  intro f
  induction f with
  | is t k =>
    intro g h
    have h2 := head_eq h
    have h3 : (0 : Nat) = g.tag := by rw [← idx_head g, ← h2.1]; exact (idx_head (.is t k)).symm
    cases g <;> simp [Fm.tag, Fm.tl] at h3 h2
    rw [h2.2.1, h2.2.2]
  | same t k =>
    intro g h
    have h2 := head_eq h
    have h3 : (1 : Nat) = g.tag := by rw [← idx_head g, ← h2.1]; exact (idx_head (.same t k)).symm
    cases g <;> simp [Fm.tag, Fm.tl] at h3 h2
    rw [h2.2.1, h2.2.2]
  | least t k =>
    intro g h
    have h2 := head_eq h
    have h3 : (2 : Nat) = g.tag := by rw [← idx_head g, ← h2.1]; exact (idx_head (.least t k)).symm
    cases g <;> simp [Fm.tag, Fm.tl] at h3 h2
    rw [tot_inj h2.2.1, tot_inj h2.2.2]
  | no f ih =>
    intro g h
    have h2 := head_eq h
    have h3 : (3 : Nat) = g.tag := by rw [← idx_head g, ← h2.1]; exact (idx_head (.no f)).symm
    cases g <;> simp [Fm.tag, Fm.tl] at h3 h2
    rw [ih _ h2.2]
  | jn w f f' ih ih' =>
    intro g h
    have h2 := head_eq h
    have h3 : (4 : Nat) = g.tag := by rw [← idx_head g, ← h2.1]; exact (idx_head (.jn w f f')).symm
    cases g <;> simp [Fm.tag, Fm.tl] at h3 h2
    rw [jw_inj (show w.s = _ from h2.1), ih _ h2.2.1, ih' _ h2.2.2]
  | qu w x f ih =>
    intro g h
    have h2 := head_eq h
    have h3 : (5 : Nat) = g.tag := by rw [← idx_head g, ← h2.1]; exact (idx_head (.qu w x f)).symm
    cases g <;> simp [Fm.tag, Fm.tl] at h3 h2
    rw [qw_inj (show w.s = _ from h2.1), h2.2.1, ih _ h2.2.2]
end Lw38
set_option Elab.async false
set_option linter.all false
set_option maxRecDepth 100000
set_option maxHeartbeats 1000000
/-! what the laws of rules draw: texts, vocabularies, sums, forms -/
namespace Lw30
open PySem PySem.Spec L2 Dl Mx Ds Lw01 Lw41
abbrev Jw := Lw38.Jw
abbrev Qw := Lw38.Qw
/-! plain texts -/
structure Tk (n : Nat) (x : Str) : Prop where
  len : x.cps.toList.length ≤ n
  ok : ∀ c ∈ x.cps.toList, c < 128
theorem Tk.length {n : Nat} {x : Str} (h : Tk n x) : x.length ≤ n := by
  have e : x.length = x.cps.toList.length := (Array.length_toList).symm
  rw [e]
  exact h.len
theorem Tk.sok {n : Nat} {x : Str} (h : Tk n x) : PyData.strOk x = true := by
  unfold PyData.strOk
  rw [Array.all_eq_true_iff_forall_mem]
  intro c hc
  exact decide_eq_true (Nat.lt_trans (h.ok c (by simpa using hc)) (by decide))
theorem Tk.mono {n m : Nat} {x : Str} (h : Tk n x) (k : n ≤ m) : Tk m x := ⟨Nat.le_trans h.len k, h.ok⟩
theorem Tk.app {n m : Nat} {x y : Str} (h : Tk n x) (k : Tk m y) : Tk (n + m) (x ++ y) := by
  have e : (x ++ y).cps.toList = x.cps.toList ++ y.cps.toList := TL.tl_append x y
  refine ⟨?_, fun c hc => ?_⟩
  · rw [e, List.length_append]
    have := h.len
    have := k.len
    omega
  · rw [e] at hc
    rcases List.mem_append.mp hc with hc | hc
    · exact h.ok c hc
    · exact k.ok c hc
theorem tk_mk {l : List Nat} {n : Nat} (h : l.length ≤ n) (k : ∀ c ∈ l, c < 128) : Tk n (mk l) := ⟨by rw [mk_cps]; exact h, by rw [mk_cps]; exact k⟩
theorem tk_small {l : List Nat} {n : Nat} (h : l.length ≤ n) (k : inAll l smS = true) : Tk n (mk l) := tk_mk h fun c hc => by
  have := of_decide_eq_true (List.all_eq_true.mp k c hc)
  have h2 : (smS.cps.toList.all fun c => decide (c < 128)) = true := by decide +kernel
  exact of_decide_eq_true (List.all_eq_true.mp h2 c this)
/-! a def's own dict -/
theorem k_fnDg {S : Type} {n i : Nat} {F : Sv (S × Dg.KV Bool)} {ds : List D} {s : S} {Q : D → S → Prop} (hn : noHs ds = true) (h : Ok (F ((startR n ds).set i (some (hnd 1))) (s, [])) fun r s' => ∃ d, r = .rt d ∧ noH d = true ∧ Q d s'.1) : Ok (Dg.fnDk (VA := Bool) n i F ds s) Q := by
  obtain ⟨r, s', e, d, rfl, h1, h2⟩ := h
  refine ⟨d, s'.1, ?_, h2⟩
  unfold Dg.fnDk
  rw [if_pos hn, e]
  simp only
  rw [if_pos h1]
theorem k_up {S : Type} {F : Fn S} {ds : List D} {s : S × Dg.KV Bool} {Q : D → S × Dg.KV Bool → Prop} (hn : noHs ds = true) (h : Ok (F ds s.1) fun d s1 => noH d = true ∧ Q d (s1, s.2)) : Ok (Dg.upK (VA := Bool) F ds s) Q := by
  obtain ⟨d, s1, e, h1, h2⟩ := h
  refine ⟨d, (s1, s.2), ?_, h2⟩
  unfold Dg.upK
  rw [if_pos hn, e]
  simp only
  rw [if_pos h1]
theorem put_mem {m : Dg.KV Bool} {k x : Str} (h : x ∈ (Dg.kvPut m k true).map (·.1)) : x = k ∨ x ∈ m.map (·.1) := by
  unfold Dg.kvPut at h
  split at h
  · rw [List.map_map] at h
    obtain ⟨p, hp, e⟩ := List.mem_map.mp h
    right
    refine List.mem_map.mpr ⟨p, hp, ?_⟩
    rw [← e]
    show p.1 = (if p.1 = k then (p.1, true) else p).1
    split <;> rfl
  · rw [List.map_append, List.mem_append] at h
    rcases h with h | h
    · exact .inr h
    · exact .inl (by simpa using h)
theorem put_len (m : Dg.KV Bool) (k : Str) : (Dg.kvPut m k true).length ≤ m.length + 1 ∧ 1 ≤ (Dg.kvPut m k true).length := by
  unfold Dg.kvPut
  split
  · rename_i h
    rw [List.length_map]
    refine ⟨Nat.le_succ _, ?_⟩
    cases m with
    | nil => simp at h
    | cons p m => simp
  · simp
theorem noH_strs : ∀ xs : List Str, noHs (xs.map .str) = true
  | [] => rfl
  | x :: xs => by
    show (noH (.str x) && noHs (xs.map .str)) = true
    rw [noH_strs xs]
    rfl
/-! words -/
abbrev Fword : Fn DS := Lw30.K_w_word Fdraw9
theorem ok_word9 {s : DS} {m : Nat} (hm : m ≤ 20) {Q : D → DS → Prop} (q : ∀ l s', l.length ≤ m → inAll l smS = true → Q (.str (mk l)) s') : Ok (Fword [hnd 0, .int (m : Nat)] s) Q := by
  unfold Fword Lw30.K_w_word Lw30.B_w_word
  refine k_fn (k_seq (k_set ?_))
  simp only [ok_V0, ok_Vs, ok_K, ok_B, ok_U, ok_nil, ok_cons, ok_N, ok_aN, ok_call, ok_nl, ok_fl, ok_afl, ok_T, ok_qNot, ok_qAnd, ok_qOr, ok_and, ok_or, ok_not, ok_if, ok_Sl, ok_oNo, ok_oOf, ok_Ch, ok_it, ok_itA, ok_yes, v_addI, v_sub, v_neg, v_eqI, v_eqS, v_eqB, v_eq0, v_eqT0, v_neI, v_neS, v_neB, v_ne0, v_neT0, v_ltI, v_leI, v_gtI, v_geI, v_is, v_isNot, v_nn, v_ns, v_ni, v_nl, v_nt, v_tb, v_tl, v_tt, v_tn, v_ti, v_asB, v_asI, v_asL, v_asT, v_asS, v_lenL, v_lenT, v_tupL, v_tupT, v_listL, v_listT, v_intB, v_tup0, v_tup1, v_tup2, v_tup3, v_tup4, v_tup5, v_lst0, v_lst1, v_lst2, v_lst3, v_lst4, v_lst5, v_ok0, v_ok1, v_ok2, v_ix0L, v_ix0, v_ix1, v_ix2, v_ix3, v_fs, v_fi, v_fb, v_fn, v_ft, v_f0, v_fc, startR, List.map_cons, List.map_nil, List.length_cons, List.length_nil, List.replicate, List.cons_append, List.nil_append, List.set_cons_zero, List.set_cons_succ, Option.some.injEq, exists_eq_left', Nat.reduceAdd, Nat.reduceSub, Nat.sub_zero, Nat.sub_self, Nat.zero_add, Nat.reduceEqDiff, Bool.not_true, Bool.not_false, if_true, if_false, Bool.and_self, Bool.true_and, Bool.and_true, Bool.false_eq_true, ↓reduceIte, true_and, and_true, decide_true, decide_false, wipeR]
  refine k_ret ?_
  simp only [ok_V0, ok_Vs, ok_K, ok_B, ok_U, ok_nil, ok_cons, ok_N, ok_aN, ok_call, ok_nl, ok_fl, ok_afl, ok_T, ok_qNot, ok_qAnd, ok_qOr, ok_and, ok_or, ok_not, ok_if, ok_Sl, ok_oNo, ok_oOf, ok_Ch, ok_it, ok_itA, ok_yes, v_addI, v_sub, v_neg, v_eqI, v_eqS, v_eqB, v_eq0, v_eqT0, v_neI, v_neS, v_neB, v_ne0, v_neT0, v_ltI, v_leI, v_gtI, v_geI, v_is, v_isNot, v_nn, v_ns, v_ni, v_nl, v_nt, v_tb, v_tl, v_tt, v_tn, v_ti, v_asB, v_asI, v_asL, v_asT, v_asS, v_lenL, v_lenT, v_tupL, v_tupT, v_listL, v_listT, v_intB, v_tup0, v_tup1, v_tup2, v_tup3, v_tup4, v_tup5, v_lst0, v_lst1, v_lst2, v_lst3, v_lst4, v_lst5, v_ok0, v_ok1, v_ok2, v_ix0L, v_ix0, v_ix1, v_ix2, v_ix3, v_fs, v_fi, v_fb, v_fn, v_ft, v_f0, v_fc, startR, List.map_cons, List.map_nil, List.length_cons, List.length_nil, List.replicate, List.cons_append, List.nil_append, List.set_cons_zero, List.set_cons_succ, Option.some.injEq, exists_eq_left', Nat.reduceAdd, Nat.reduceSub, Nat.sub_zero, Nat.sub_self, Nat.zero_add, Nat.reduceEqDiff, Bool.not_true, Bool.not_false, if_true, if_false, Bool.and_self, Bool.true_and, Bool.and_true, Bool.false_eq_true, ↓reduceIte, true_and, and_true, decide_true, decide_false, wipeR]
  refine k_lcP (fun ds s' => ∃ n : Nat, n ≤ m ∧ ds = rngD 0 n) ?_ ?_
  · simp only [ok_V0, ok_Vs, ok_K, ok_B, ok_U, ok_nil, ok_cons, ok_N, ok_aN, ok_call, ok_nl, ok_fl, ok_afl, ok_T, ok_qNot, ok_qAnd, ok_qOr, ok_and, ok_or, ok_not, ok_if, ok_Sl, ok_oNo, ok_oOf, ok_Ch, ok_it, ok_itA, ok_yes, v_addI, v_sub, v_neg, v_eqI, v_eqS, v_eqB, v_eq0, v_eqT0, v_neI, v_neS, v_neB, v_ne0, v_neT0, v_ltI, v_leI, v_gtI, v_geI, v_is, v_isNot, v_nn, v_ns, v_ni, v_nl, v_nt, v_tb, v_tl, v_tt, v_tn, v_ti, v_asB, v_asI, v_asL, v_asT, v_asS, v_lenL, v_lenT, v_tupL, v_tupT, v_listL, v_listT, v_intB, v_tup0, v_tup1, v_tup2, v_tup3, v_tup4, v_tup5, v_lst0, v_lst1, v_lst2, v_lst3, v_lst4, v_lst5, v_ok0, v_ok1, v_ok2, v_ix0L, v_ix0, v_ix1, v_ix2, v_ix3, v_fs, v_fi, v_fb, v_fn, v_ft, v_f0, v_fc, startR, List.map_cons, List.map_nil, List.length_cons, List.length_nil, List.replicate, List.cons_append, List.nil_append, List.set_cons_zero, List.set_cons_succ, Option.some.injEq, exists_eq_left', Nat.reduceAdd, Nat.reduceSub, Nat.sub_zero, Nat.sub_self, Nat.zero_add, Nat.reduceEqDiff, Bool.not_true, Bool.not_false, if_true, if_false, Bool.and_self, Bool.true_and, Bool.and_true, Bool.false_eq_true, ↓reduceIte, true_and, and_true, decide_true, decide_false, wipeR]
    refine k_draw9 (by omega) (by omega) fun r s1 r0 r1 => ?_
    exact ⟨_, pr1 (by omega) (by omega), r.toNat, by omega, rfl⟩
  rintro ds s1 ⟨n, hn, rfl⟩
  refine ⟨by rw [rng_len]; exact szL (by omega), fun j acc _ => ∃ l : List Nat, acc = l.map sgD ∧ l.length = j ∧ inAll l smS = true, ⟨[], rfl, rfl, rfl⟩, ?_, ?_⟩
  · rintro j d acc s2 hd ⟨l, rfl, hl, hx⟩
    refine ⟨_, rfl, ?_⟩
    simp only [ok_V0, ok_Vs, ok_K, ok_B, ok_U, ok_nil, ok_cons, ok_N, ok_aN, ok_call, ok_nl, ok_fl, ok_afl, ok_T, ok_qNot, ok_qAnd, ok_qOr, ok_and, ok_or, ok_not, ok_if, ok_Sl, ok_oNo, ok_oOf, ok_Ch, ok_it, ok_itA, ok_yes, v_addI, v_sub, v_neg, v_eqI, v_eqS, v_eqB, v_eq0, v_eqT0, v_neI, v_neS, v_neB, v_ne0, v_neT0, v_ltI, v_leI, v_gtI, v_geI, v_is, v_isNot, v_nn, v_ns, v_ni, v_nl, v_nt, v_tb, v_tl, v_tt, v_tn, v_ti, v_asB, v_asI, v_asL, v_asT, v_asS, v_lenL, v_lenT, v_tupL, v_tupT, v_listL, v_listT, v_intB, v_tup0, v_tup1, v_tup2, v_tup3, v_tup4, v_tup5, v_lst0, v_lst1, v_lst2, v_lst3, v_lst4, v_lst5, v_ok0, v_ok1, v_ok2, v_ix0L, v_ix0, v_ix1, v_ix2, v_ix3, v_fs, v_fi, v_fb, v_fn, v_ft, v_f0, v_fc, startR, List.map_cons, List.map_nil, List.length_cons, List.length_nil, List.replicate, List.cons_append, List.nil_append, List.set_cons_zero, List.set_cons_succ, Option.some.injEq, exists_eq_left', Nat.reduceAdd, Nat.reduceSub, Nat.sub_zero, Nat.sub_self, Nat.zero_add, Nat.reduceEqDiff, Bool.not_true, Bool.not_false, if_true, if_false, Bool.and_self, Bool.true_and, Bool.and_true, Bool.false_eq_true, ↓reduceIte, true_and, and_true, decide_true, decide_false, wipeR]
    refine k_draw9 (by omega) (by omega) fun r s3 r0 r1 => ?_
    obtain ⟨c, c1, _, hc⟩ := ix_at (z := smS) (r := r) (by decide) r0 r1
    refine ⟨_, hc, l ++ [c], by simp; rfl, by simp [hl], ?_⟩
    rw [inAll_app, hx, inAll_one c1]
    rfl
  · rintro acc s2 ⟨l, rfl, hl, hx⟩
    rw [rng_len] at hl
    exact ⟨_, join_eq (by omega), q l _ (by omega) hx⟩
/-- a text drawn: a head, small signs, the tail -/
structure Sw (heads : Str) (tl : List Nat) (x : Str) : Prop where
  ex : ∃ c l, x = mk (c :: (l ++ tl)) ∧ c ∈ heads.cps.toList ∧ inAll l smS = true ∧ l.length ≤ 6
theorem Sw.tk {heads x : Str} {tl : List Nat} (h : Sw heads tl x) (hk : Tk 30 heads) (h2 : tl.length ≤ 2) (h3 : inAll tl smS = true) : Tk 20 x := by
  obtain ⟨c, l, rfl, hc, hl, hn⟩ := h.ex
  have sm : ∀ {l : List Nat}, inAll l smS = true → ∀ c ∈ l, c < 128 := fun {l} k c hc => (tk_small (Nat.le_refl l.length) k).ok c (by rw [mk_cps]; exact hc)
  refine tk_mk (by simp; omega) fun x hx => ?_
  rcases List.mem_cons.mp hx with rfl | hx
  · exact hk.ok _ hc
  · rcases List.mem_append.mp hx with hx | hx
    · exact sm hl x hx
    · exact sm h3 x hx
theorem inAll_take {l : List Nat} {z : Str} (h : inAll l z = true) (n : Nat) : inAll (l.take n) z = true := by
  unfold inAll at *
  rw [List.all_eq_true] at *
  exact fun x hx => h x (List.mem_of_mem_take hx)
abbrev Fsome : Fn DS := Lw30.K_w_some Fdraw9 Fword
theorem ok_some9 {s : DS} {many most : Nat} {heads : Str} {tl : List Nat} (hm : many ≤ 7) (hh : 0 < heads.length) (hk : Tk 30 heads) (ht : tl.length ≤ 2) (htl : inAll tl smS = true) (hmost : most ≤ 6) {Q : D → DS → Prop} (q : ∀ xs s', xs.length ≤ many → (1 ≤ many → xs ≠ []) → (∀ x ∈ xs, Sw heads tl x) → Q (.tuple (xs.map .str)) s') :
    Ok (Fsome [hnd 0, .int (many : Nat), .str heads, .str (mk tl), .int (most : Nat)] s) Q := by
  have htk2 : Tk 2 (mk tl) := tk_small ht htl
  have tlen : (mk tl).length ≤ 2 := htk2.length
  unfold Fsome Lw30.K_w_some
  refine k_fnDg rfl ?_
  unfold Lw30.B_w_some
  have hl := hk.length
  refine k_seq (k_forP (fun ds s' => ds = rngD 0 many ∧ s' = (s, [])) ?_ ?_)
  · simp only [ok_V0, ok_Vs, ok_K, ok_B, ok_U, ok_nil, ok_cons, ok_N, ok_aN, ok_call, ok_nl, ok_fl, ok_afl, ok_T, ok_qNot, ok_qAnd, ok_qOr, ok_and, ok_or, ok_not, ok_if, ok_Sl, ok_oNo, ok_oOf, ok_Ch, ok_it, ok_itA, ok_yes, v_addI, v_sub, v_neg, v_eqI, v_eqS, v_eqB, v_eq0, v_eqT0, v_neI, v_neS, v_neB, v_ne0, v_neT0, v_ltI, v_leI, v_gtI, v_geI, v_is, v_isNot, v_nn, v_ns, v_ni, v_nl, v_nt, v_tb, v_tl, v_tt, v_tn, v_ti, v_asB, v_asI, v_asL, v_asT, v_asS, v_lenL, v_lenT, v_tupL, v_tupT, v_listL, v_listT, v_intB, v_tup0, v_tup1, v_tup2, v_tup3, v_tup4, v_tup5, v_lst0, v_lst1, v_lst2, v_lst3, v_lst4, v_lst5, v_ok0, v_ok1, v_ok2, v_ix0L, v_ix0, v_ix1, v_ix2, v_ix3, v_fs, v_fi, v_fb, v_fn, v_ft, v_f0, v_fc, startR, List.map_cons, List.map_nil, List.length_cons, List.length_nil, List.replicate, List.cons_append, List.nil_append, List.set_cons_zero, List.set_cons_succ, Option.some.injEq, exists_eq_left', Nat.reduceAdd, Nat.reduceSub, Nat.sub_zero, Nat.sub_self, Nat.zero_add, Nat.reduceEqDiff, Bool.not_true, Bool.not_false, if_true, if_false, Bool.and_self, Bool.true_and, Bool.and_true, Bool.false_eq_true, ↓reduceIte, true_and, and_true, decide_true, decide_false, wipeR]
    exact ⟨_, pr1 (by omega) (by omega), rfl⟩
  rintro ds s1 ⟨rfl, rfl⟩
  refine ⟨fun j ρ s' => (∃ o6 o7, ρ = [some (hnd 0), some (.int (many : Nat)), some (.str heads), some (.str (mk tl)), some (.int (most : Nat)), some (hnd 1), o6, o7]) ∧ s'.2.length ≤ j ∧ (1 ≤ j → 1 ≤ s'.2.length) ∧ ∀ x ∈ s'.2.map (·.1), Sw heads tl x, ⟨⟨none, none, rfl⟩, Nat.le_refl _, fun h => h, by simp⟩, ?_, ?_⟩
  · rintro j d ρ s2 hd ⟨⟨o6, o7, rfl⟩, hlen, hone, htk⟩
    obtain ⟨hj, rfl⟩ := rng_get hd
    refine ⟨_, rfl, ?_⟩
    refine k_seq (k_set ?_)
    simp only [ok_V0, ok_Vs, ok_K, ok_B, ok_U, ok_nil, ok_cons, ok_N, ok_aN, ok_call, ok_nl, ok_fl, ok_afl, ok_T, ok_qNot, ok_qAnd, ok_qOr, ok_and, ok_or, ok_not, ok_if, ok_Sl, ok_oNo, ok_oOf, ok_Ch, ok_it, ok_itA, ok_yes, v_addI, v_sub, v_neg, v_eqI, v_eqS, v_eqB, v_eq0, v_eqT0, v_neI, v_neS, v_neB, v_ne0, v_neT0, v_ltI, v_leI, v_gtI, v_geI, v_is, v_isNot, v_nn, v_ns, v_ni, v_nl, v_nt, v_tb, v_tl, v_tt, v_tn, v_ti, v_asB, v_asI, v_asL, v_asT, v_asS, v_lenL, v_lenT, v_tupL, v_tupT, v_listL, v_listT, v_intB, v_tup0, v_tup1, v_tup2, v_tup3, v_tup4, v_tup5, v_lst0, v_lst1, v_lst2, v_lst3, v_lst4, v_lst5, v_ok0, v_ok1, v_ok2, v_ix0L, v_ix0, v_ix1, v_ix2, v_ix3, v_fs, v_fi, v_fb, v_fn, v_ft, v_f0, v_fc, startR, List.map_cons, List.map_nil, List.length_cons, List.length_nil, List.replicate, List.cons_append, List.nil_append, List.set_cons_zero, List.set_cons_succ, Option.some.injEq, exists_eq_left', Nat.reduceAdd, Nat.reduceSub, Nat.sub_zero, Nat.sub_self, Nat.zero_add, Nat.reduceEqDiff, Bool.not_true, Bool.not_false, if_true, if_false, Bool.and_self, Bool.true_and, Bool.and_true, Bool.false_eq_true, ↓reduceIte, true_and, and_true, decide_true, decide_false, wipeR, v_lenS (show heads.length ≤ sizeLine from szL (by omega))]
    refine k_up rfl (k_draw9 (by omega) (by omega) fun r s3 r0 r1 => ⟨rfl, ?_⟩)
    obtain ⟨c, c1, _, hc⟩ := ix_at (z := heads) (r := r) (szL (by omega)) r0 r1
    refine ⟨_, hc, ?_⟩
    refine k_up rfl (ok_word9 (by omega) fun l s4 hl4 hx => ⟨rfl, ?_⟩)
    have t1 : Tk 1 (mk [c]) := tk_mk (by simp) fun x hx => by rw [List.mem_singleton.mp hx]; exact hk.ok c c1
    have t2 : Tk 6 (mk l) := tk_small (by omega) hx
    have t3 : Sw heads tl (mk [c] ++ mk l ++ mk tl) := ⟨c, l, by rw [mk_app, mk_app]; rfl, c1, hx, by omega⟩
    refine ⟨_, v_addS (szL (by have := t1.length; have := t2.length; omega)), ?_⟩
    refine ⟨_, v_addS (szL (by have := (t1.app t2).length; omega)), ?_⟩
    refine k_seq (Ok.imp (Q := fun rs s' => ∃ x, rs = .nx [some (hnd 0), some (.int (many : Nat)), some (.str heads), some (.str (mk tl)), some (.int (most : Nat)), some (hnd 1), some (.int (0 + (j : Int))), some (.str x)] ∧ Sw heads tl x ∧ s'.2 = s2.2) ?_ ?_)
    · refine k_sIf ?_
      have isH1 : Dg.isH [some (hnd 0), some (.int (many : Nat)), some (.str heads), some (.str (mk tl)), some (.int (most : Nat)), some (hnd 1), some (.int (0 + (j : Int))), some (.str (mk [c] ++ mk l ++ mk tl))] 5 = true := rfl
      refine k_qAnd ?_
      simp only [ok_V0, ok_Vs, ok_K, ok_B, ok_U, ok_nil, ok_cons, ok_N, ok_aN, ok_call, ok_nl, ok_fl, ok_afl, ok_T, ok_qNot, ok_qAnd, ok_qOr, ok_and, ok_or, ok_not, ok_if, ok_Sl, ok_oNo, ok_oOf, ok_Ch, ok_it, ok_itA, ok_yes, v_addI, v_sub, v_neg, v_eqI, v_eqS, v_eqB, v_eq0, v_eqT0, v_neI, v_neS, v_neB, v_ne0, v_neT0, v_ltI, v_leI, v_gtI, v_geI, v_is, v_isNot, v_nn, v_ns, v_ni, v_nl, v_nt, v_tb, v_tl, v_tt, v_tn, v_ti, v_asB, v_asI, v_asL, v_asT, v_asS, v_lenL, v_lenT, v_tupL, v_tupT, v_listL, v_listT, v_intB, v_tup0, v_tup1, v_tup2, v_tup3, v_tup4, v_tup5, v_lst0, v_lst1, v_lst2, v_lst3, v_lst4, v_lst5, v_ok0, v_ok1, v_ok2, v_ix0L, v_ix0, v_ix1, v_ix2, v_ix3, v_fs, v_fi, v_fb, v_fn, v_ft, v_f0, v_fc, startR, List.map_cons, List.map_nil, List.length_cons, List.length_nil, List.replicate, List.cons_append, List.nil_append, List.set_cons_zero, List.set_cons_succ, Option.some.injEq, exists_eq_left', Nat.reduceAdd, Nat.reduceSub, Nat.sub_zero, Nat.sub_self, Nat.zero_add, Nat.reduceEqDiff, Bool.not_true, Bool.not_false, if_true, if_false, Bool.and_self, Bool.true_and, Bool.and_true, Bool.false_eq_true, ↓reduceIte, true_and, and_true, decide_true, decide_false, wipeR, v_mod (show (0 : Int) < 2 by decide)]
      by_cases e1 : (0 + (j : Int)) % 2 = 1
      · simp only [e1, ok_V0, ok_Vs, ok_K, ok_B, ok_U, ok_nil, ok_cons, ok_N, ok_aN, ok_call, ok_nl, ok_fl, ok_afl, ok_T, ok_qNot, ok_qAnd, ok_qOr, ok_and, ok_or, ok_not, ok_if, ok_Sl, ok_oNo, ok_oOf, ok_Ch, ok_it, ok_itA, ok_yes, v_addI, v_sub, v_neg, v_eqI, v_eqS, v_eqB, v_eq0, v_eqT0, v_neI, v_neS, v_neB, v_ne0, v_neT0, v_ltI, v_leI, v_gtI, v_geI, v_is, v_isNot, v_nn, v_ns, v_ni, v_nl, v_nt, v_tb, v_tl, v_tt, v_tn, v_ti, v_asB, v_asI, v_asL, v_asT, v_asS, v_lenL, v_lenT, v_tupL, v_tupT, v_listL, v_listT, v_intB, v_tup0, v_tup1, v_tup2, v_tup3, v_tup4, v_tup5, v_lst0, v_lst1, v_lst2, v_lst3, v_lst4, v_lst5, v_ok0, v_ok1, v_ok2, v_ix0L, v_ix0, v_ix1, v_ix2, v_ix3, v_fs, v_fi, v_fb, v_fn, v_ft, v_f0, v_fc, startR, List.map_cons, List.map_nil, List.length_cons, List.length_nil, List.replicate, List.cons_append, List.nil_append, List.set_cons_zero, List.set_cons_succ, Option.some.injEq, exists_eq_left', Nat.reduceAdd, Nat.reduceSub, Nat.sub_zero, Nat.sub_self, Nat.zero_add, Nat.reduceEqDiff, Bool.not_true, Bool.not_false, if_true, if_false, Bool.and_self, Bool.true_and, Bool.and_true, Bool.false_eq_true, ↓reduceIte, true_and, and_true, decide_true, decide_false, wipeR]
        refine ⟨.int s2.2.length, (s4, s2.2), by unfold Dg.cDlen; rw [if_pos isH1], ?_⟩
        simp only [ok_V0, ok_Vs, ok_K, ok_B, ok_U, ok_nil, ok_cons, ok_N, ok_aN, ok_call, ok_nl, ok_fl, ok_afl, ok_T, ok_qNot, ok_qAnd, ok_qOr, ok_and, ok_or, ok_not, ok_if, ok_Sl, ok_oNo, ok_oOf, ok_Ch, ok_it, ok_itA, ok_yes, v_addI, v_sub, v_neg, v_eqI, v_eqS, v_eqB, v_eq0, v_eqT0, v_neI, v_neS, v_neB, v_ne0, v_neT0, v_ltI, v_leI, v_gtI, v_geI, v_is, v_isNot, v_nn, v_ns, v_ni, v_nl, v_nt, v_tb, v_tl, v_tt, v_tn, v_ti, v_asB, v_asI, v_asL, v_asT, v_asS, v_lenL, v_lenT, v_tupL, v_tupT, v_listL, v_listT, v_intB, v_tup0, v_tup1, v_tup2, v_tup3, v_tup4, v_tup5, v_lst0, v_lst1, v_lst2, v_lst3, v_lst4, v_lst5, v_ok0, v_ok1, v_ok2, v_ix0L, v_ix0, v_ix1, v_ix2, v_ix3, v_fs, v_fi, v_fb, v_fn, v_ft, v_f0, v_fc, startR, List.map_cons, List.map_nil, List.length_cons, List.length_nil, List.replicate, List.cons_append, List.nil_append, List.set_cons_zero, List.set_cons_succ, Option.some.injEq, exists_eq_left', Nat.reduceAdd, Nat.reduceSub, Nat.sub_zero, Nat.sub_self, Nat.zero_add, Nat.reduceEqDiff, Bool.not_true, Bool.not_false, if_true, if_false, Bool.and_self, Bool.true_and, Bool.and_true, Bool.false_eq_true, ↓reduceIte, true_and, and_true, decide_true, decide_false, wipeR]
        by_cases e2 : (0 : Int) < (s2.2.length : Int)
        · simp only [e2, ok_V0, ok_Vs, ok_K, ok_B, ok_U, ok_nil, ok_cons, ok_N, ok_aN, ok_call, ok_nl, ok_fl, ok_afl, ok_T, ok_qNot, ok_qAnd, ok_qOr, ok_and, ok_or, ok_not, ok_if, ok_Sl, ok_oNo, ok_oOf, ok_Ch, ok_it, ok_itA, ok_yes, v_addI, v_sub, v_neg, v_eqI, v_eqS, v_eqB, v_eq0, v_eqT0, v_neI, v_neS, v_neB, v_ne0, v_neT0, v_ltI, v_leI, v_gtI, v_geI, v_is, v_isNot, v_nn, v_ns, v_ni, v_nl, v_nt, v_tb, v_tl, v_tt, v_tn, v_ti, v_asB, v_asI, v_asL, v_asT, v_asS, v_lenL, v_lenT, v_tupL, v_tupT, v_listL, v_listT, v_intB, v_tup0, v_tup1, v_tup2, v_tup3, v_tup4, v_tup5, v_lst0, v_lst1, v_lst2, v_lst3, v_lst4, v_lst5, v_ok0, v_ok1, v_ok2, v_ix0L, v_ix0, v_ix1, v_ix2, v_ix3, v_fs, v_fi, v_fb, v_fn, v_ft, v_f0, v_fc, startR, List.map_cons, List.map_nil, List.length_cons, List.length_nil, List.replicate, List.cons_append, List.nil_append, List.set_cons_zero, List.set_cons_succ, Option.some.injEq, exists_eq_left', Nat.reduceAdd, Nat.reduceSub, Nat.sub_zero, Nat.sub_self, Nat.zero_add, Nat.reduceEqDiff, Bool.not_true, Bool.not_false, if_true, if_false, Bool.and_self, Bool.true_and, Bool.and_true, Bool.false_eq_true, ↓reduceIte, true_and, and_true, decide_true, decide_false, wipeR]
          refine k_up rfl (k_draw9 (by omega) (by omega) fun r s5 r0 r1 => ⟨rfl, ?_⟩)
          simp only [ok_V0, ok_Vs, ok_K, ok_B, ok_U, ok_nil, ok_cons, ok_N, ok_aN, ok_call, ok_nl, ok_fl, ok_afl, ok_T, ok_qNot, ok_qAnd, ok_qOr, ok_and, ok_or, ok_not, ok_if, ok_Sl, ok_oNo, ok_oOf, ok_Ch, ok_it, ok_itA, ok_yes, v_addI, v_sub, v_neg, v_eqI, v_eqS, v_eqB, v_eq0, v_eqT0, v_neI, v_neS, v_neB, v_ne0, v_neT0, v_ltI, v_leI, v_gtI, v_geI, v_is, v_isNot, v_nn, v_ns, v_ni, v_nl, v_nt, v_tb, v_tl, v_tt, v_tn, v_ti, v_asB, v_asI, v_asL, v_asT, v_asS, v_lenL, v_lenT, v_tupL, v_tupT, v_listL, v_listT, v_intB, v_tup0, v_tup1, v_tup2, v_tup3, v_tup4, v_tup5, v_lst0, v_lst1, v_lst2, v_lst3, v_lst4, v_lst5, v_ok0, v_ok1, v_ok2, v_ix0L, v_ix0, v_ix1, v_ix2, v_ix3, v_fs, v_fi, v_fb, v_fn, v_ft, v_f0, v_fc, startR, List.map_cons, List.map_nil, List.length_cons, List.length_nil, List.replicate, List.cons_append, List.nil_append, List.set_cons_zero, List.set_cons_succ, Option.some.injEq, exists_eq_left', Nat.reduceAdd, Nat.reduceSub, Nat.sub_zero, Nat.sub_self, Nat.zero_add, Nat.reduceEqDiff, Bool.not_true, Bool.not_false, if_true, if_false, Bool.and_self, Bool.true_and, Bool.and_true, Bool.false_eq_true, ↓reduceIte, true_and, and_true, decide_true, decide_false, wipeR]
          by_cases e3 : r = 0
          · simp only [e3, ok_V0, ok_Vs, ok_K, ok_B, ok_U, ok_nil, ok_cons, ok_N, ok_aN, ok_call, ok_nl, ok_fl, ok_afl, ok_T, ok_qNot, ok_qAnd, ok_qOr, ok_and, ok_or, ok_not, ok_if, ok_Sl, ok_oNo, ok_oOf, ok_Ch, ok_it, ok_itA, ok_yes, v_addI, v_sub, v_neg, v_eqI, v_eqS, v_eqB, v_eq0, v_eqT0, v_neI, v_neS, v_neB, v_ne0, v_neT0, v_ltI, v_leI, v_gtI, v_geI, v_is, v_isNot, v_nn, v_ns, v_ni, v_nl, v_nt, v_tb, v_tl, v_tt, v_tn, v_ti, v_asB, v_asI, v_asL, v_asT, v_asS, v_lenL, v_lenT, v_tupL, v_tupT, v_listL, v_listT, v_intB, v_tup0, v_tup1, v_tup2, v_tup3, v_tup4, v_tup5, v_lst0, v_lst1, v_lst2, v_lst3, v_lst4, v_lst5, v_ok0, v_ok1, v_ok2, v_ix0L, v_ix0, v_ix1, v_ix2, v_ix3, v_fs, v_fi, v_fb, v_fn, v_ft, v_f0, v_fc, startR, List.map_cons, List.map_nil, List.length_cons, List.length_nil, List.replicate, List.cons_append, List.nil_append, List.set_cons_zero, List.set_cons_succ, Option.some.injEq, exists_eq_left', Nat.reduceAdd, Nat.reduceSub, Nat.sub_zero, Nat.sub_self, Nat.zero_add, Nat.reduceEqDiff, Bool.not_true, Bool.not_false, if_true, if_false, Bool.and_self, Bool.true_and, Bool.and_true, Bool.false_eq_true, ↓reduceIte, true_and, and_true, decide_true, decide_false, wipeR]
            refine k_set ?_
            simp only [ok_V0, ok_Vs, ok_K, ok_B, ok_U, ok_nil, ok_cons, ok_N, ok_aN, ok_call, ok_nl, ok_fl, ok_afl, ok_T, ok_qNot, ok_qAnd, ok_qOr, ok_and, ok_or, ok_not, ok_if, ok_Sl, ok_oNo, ok_oOf, ok_Ch, ok_it, ok_itA, ok_yes, v_addI, v_sub, v_neg, v_eqI, v_eqS, v_eqB, v_eq0, v_eqT0, v_neI, v_neS, v_neB, v_ne0, v_neT0, v_ltI, v_leI, v_gtI, v_geI, v_is, v_isNot, v_nn, v_ns, v_ni, v_nl, v_nt, v_tb, v_tl, v_tt, v_tn, v_ti, v_asB, v_asI, v_asL, v_asT, v_asS, v_lenL, v_lenT, v_tupL, v_tupT, v_listL, v_listT, v_intB, v_tup0, v_tup1, v_tup2, v_tup3, v_tup4, v_tup5, v_lst0, v_lst1, v_lst2, v_lst3, v_lst4, v_lst5, v_ok0, v_ok1, v_ok2, v_ix0L, v_ix0, v_ix1, v_ix2, v_ix3, v_fs, v_fi, v_fb, v_fn, v_ft, v_f0, v_fc, startR, List.map_cons, List.map_nil, List.length_cons, List.length_nil, List.replicate, List.cons_append, List.nil_append, List.set_cons_zero, List.set_cons_succ, Option.some.injEq, exists_eq_left', Nat.reduceAdd, Nat.reduceSub, Nat.sub_zero, Nat.sub_self, Nat.zero_add, Nat.reduceEqDiff, Bool.not_true, Bool.not_false, if_true, if_false, Bool.and_self, Bool.true_and, Bool.and_true, Bool.false_eq_true, ↓reduceIte, true_and, and_true, decide_true, decide_false, wipeR]
            obtain ⟨p, m, em⟩ : ∃ p m, s2.2 = p :: m := by
              cases h : s2.2 with
              | nil => rw [h] at e2; simp at e2
              | cons p m => exact ⟨p, m, rfl⟩
            have t0 : Sw heads tl p.1 := htk p.1 (by rw [em]; simp)
            have t4 : Tk 20 p.1 := t0.tk hk ht htl
            refine ⟨(s2.2.map (·.1)).map .str, (s5, s2.2), by unfold Dg.aDk; rw [if_pos isH1], ?_⟩
            rw [em]
            simp only [ok_V0, ok_Vs, ok_K, ok_B, ok_U, ok_nil, ok_cons, ok_N, ok_aN, ok_call, ok_nl, ok_fl, ok_afl, ok_T, ok_qNot, ok_qAnd, ok_qOr, ok_and, ok_or, ok_not, ok_if, ok_Sl, ok_oNo, ok_oOf, ok_Ch, ok_it, ok_itA, ok_yes, v_addI, v_sub, v_neg, v_eqI, v_eqS, v_eqB, v_eq0, v_eqT0, v_neI, v_neS, v_neB, v_ne0, v_neT0, v_ltI, v_leI, v_gtI, v_geI, v_is, v_isNot, v_nn, v_ns, v_ni, v_nl, v_nt, v_tb, v_tl, v_tt, v_tn, v_ti, v_asB, v_asI, v_asL, v_asT, v_asS, v_lenL, v_lenT, v_tupL, v_tupT, v_listL, v_listT, v_intB, v_tup0, v_tup1, v_tup2, v_tup3, v_tup4, v_tup5, v_lst0, v_lst1, v_lst2, v_lst3, v_lst4, v_lst5, v_ok0, v_ok1, v_ok2, v_ix0L, v_ix0, v_ix1, v_ix2, v_ix3, v_fs, v_fi, v_fb, v_fn, v_ft, v_f0, v_fc, startR, List.map_cons, List.map_nil, List.length_cons, List.length_nil, List.replicate, List.cons_append, List.nil_append, List.set_cons_zero, List.set_cons_succ, Option.some.injEq, exists_eq_left', Nat.reduceAdd, Nat.reduceSub, Nat.sub_zero, Nat.sub_self, Nat.zero_add, Nat.reduceEqDiff, Bool.not_true, Bool.not_false, if_true, if_false, Bool.and_self, Bool.true_and, Bool.and_true, Bool.false_eq_true, ↓reduceIte, true_and, and_true, decide_true, decide_false, wipeR]
            rw [show (4 : Int) = ((4 : Nat) : Int) from rfl]
            obtain ⟨c0, l0, e0, hc0, hl0, hn0⟩ := t0.ex
            have e4 : cutS p.1 none (some ((4 : Nat) : Int)) = mk (c0 :: (l0 ++ tl).take 3) := by rw [e0, cut_to]; rfl
            have len3 : ((l0 ++ tl).take 3).length ≤ 3 := by rw [List.length_take]; omega
            have t6 : Sw heads tl (mk (c0 :: (l0 ++ tl).take 3) ++ Str.ofString "q" ++ mk tl) := ⟨c0, (l0 ++ tl).take 3 ++ [113], by
              rw [show Str.ofString "q" = mk [113] from by decide +kernel, mk_app, mk_app]
              simp, hc0, by rw [inAll_app, inAll_take (by rw [inAll_app, hl0, htl]; rfl)]; decide +kernel, by rw [List.length_append]; simp; omega⟩
            refine ⟨_, v_slS (szL (by have := t4.length; omega)), ?_⟩
            rw [e4]
            have q1 : (Str.ofString "q").length = 1 := by decide +kernel
            have q2 : (mk (c0 :: (l0 ++ tl).take 3)).length ≤ 4 := by rw [mk_len, List.length_cons]; omega
            refine ⟨_, v_addS (szL (by omega)), ?_⟩
            refine ⟨_, v_addS (szL (by
              have e1 : (mk (c0 :: (l0 ++ tl).take 3) ++ Str.ofString "q").length ≤ 5 := by
                rw [show Str.ofString "q" = mk [113] from by decide +kernel, mk_app, mk_len]
                simp
                omega
              omega)), ?_⟩
            exact ⟨_, rfl, t6⟩
          · simp only [e3, ok_V0, ok_Vs, ok_K, ok_B, ok_U, ok_nil, ok_cons, ok_N, ok_aN, ok_call, ok_nl, ok_fl, ok_afl, ok_T, ok_qNot, ok_qAnd, ok_qOr, ok_and, ok_or, ok_not, ok_if, ok_Sl, ok_oNo, ok_oOf, ok_Ch, ok_it, ok_itA, ok_yes, v_addI, v_sub, v_neg, v_eqI, v_eqS, v_eqB, v_eq0, v_eqT0, v_neI, v_neS, v_neB, v_ne0, v_neT0, v_ltI, v_leI, v_gtI, v_geI, v_is, v_isNot, v_nn, v_ns, v_ni, v_nl, v_nt, v_tb, v_tl, v_tt, v_tn, v_ti, v_asB, v_asI, v_asL, v_asT, v_asS, v_lenL, v_lenT, v_tupL, v_tupT, v_listL, v_listT, v_intB, v_tup0, v_tup1, v_tup2, v_tup3, v_tup4, v_tup5, v_lst0, v_lst1, v_lst2, v_lst3, v_lst4, v_lst5, v_ok0, v_ok1, v_ok2, v_ix0L, v_ix0, v_ix1, v_ix2, v_ix3, v_fs, v_fi, v_fb, v_fn, v_ft, v_f0, v_fc, startR, List.map_cons, List.map_nil, List.length_cons, List.length_nil, List.replicate, List.cons_append, List.nil_append, List.set_cons_zero, List.set_cons_succ, Option.some.injEq, exists_eq_left', Nat.reduceAdd, Nat.reduceSub, Nat.sub_zero, Nat.sub_self, Nat.zero_add, Nat.reduceEqDiff, Bool.not_true, Bool.not_false, if_true, if_false, Bool.and_self, Bool.true_and, Bool.and_true, Bool.false_eq_true, ↓reduceIte, true_and, and_true, decide_true, decide_false, wipeR]
            exact k_nx ⟨_, rfl, t3, rfl⟩
        · simp only [e2, ok_V0, ok_Vs, ok_K, ok_B, ok_U, ok_nil, ok_cons, ok_N, ok_aN, ok_call, ok_nl, ok_fl, ok_afl, ok_T, ok_qNot, ok_qAnd, ok_qOr, ok_and, ok_or, ok_not, ok_if, ok_Sl, ok_oNo, ok_oOf, ok_Ch, ok_it, ok_itA, ok_yes, v_addI, v_sub, v_neg, v_eqI, v_eqS, v_eqB, v_eq0, v_eqT0, v_neI, v_neS, v_neB, v_ne0, v_neT0, v_ltI, v_leI, v_gtI, v_geI, v_is, v_isNot, v_nn, v_ns, v_ni, v_nl, v_nt, v_tb, v_tl, v_tt, v_tn, v_ti, v_asB, v_asI, v_asL, v_asT, v_asS, v_lenL, v_lenT, v_tupL, v_tupT, v_listL, v_listT, v_intB, v_tup0, v_tup1, v_tup2, v_tup3, v_tup4, v_tup5, v_lst0, v_lst1, v_lst2, v_lst3, v_lst4, v_lst5, v_ok0, v_ok1, v_ok2, v_ix0L, v_ix0, v_ix1, v_ix2, v_ix3, v_fs, v_fi, v_fb, v_fn, v_ft, v_f0, v_fc, startR, List.map_cons, List.map_nil, List.length_cons, List.length_nil, List.replicate, List.cons_append, List.nil_append, List.set_cons_zero, List.set_cons_succ, Option.some.injEq, exists_eq_left', Nat.reduceAdd, Nat.reduceSub, Nat.sub_zero, Nat.sub_self, Nat.zero_add, Nat.reduceEqDiff, Bool.not_true, Bool.not_false, if_true, if_false, Bool.and_self, Bool.true_and, Bool.and_true, Bool.false_eq_true, ↓reduceIte, true_and, and_true, decide_true, decide_false, wipeR]
          exact k_nx ⟨_, rfl, t3, rfl⟩
      · simp only [e1, ok_V0, ok_Vs, ok_K, ok_B, ok_U, ok_nil, ok_cons, ok_N, ok_aN, ok_call, ok_nl, ok_fl, ok_afl, ok_T, ok_qNot, ok_qAnd, ok_qOr, ok_and, ok_or, ok_not, ok_if, ok_Sl, ok_oNo, ok_oOf, ok_Ch, ok_it, ok_itA, ok_yes, v_addI, v_sub, v_neg, v_eqI, v_eqS, v_eqB, v_eq0, v_eqT0, v_neI, v_neS, v_neB, v_ne0, v_neT0, v_ltI, v_leI, v_gtI, v_geI, v_is, v_isNot, v_nn, v_ns, v_ni, v_nl, v_nt, v_tb, v_tl, v_tt, v_tn, v_ti, v_asB, v_asI, v_asL, v_asT, v_asS, v_lenL, v_lenT, v_tupL, v_tupT, v_listL, v_listT, v_intB, v_tup0, v_tup1, v_tup2, v_tup3, v_tup4, v_tup5, v_lst0, v_lst1, v_lst2, v_lst3, v_lst4, v_lst5, v_ok0, v_ok1, v_ok2, v_ix0L, v_ix0, v_ix1, v_ix2, v_ix3, v_fs, v_fi, v_fb, v_fn, v_ft, v_f0, v_fc, startR, List.map_cons, List.map_nil, List.length_cons, List.length_nil, List.replicate, List.cons_append, List.nil_append, List.set_cons_zero, List.set_cons_succ, Option.some.injEq, exists_eq_left', Nat.reduceAdd, Nat.reduceSub, Nat.sub_zero, Nat.sub_self, Nat.zero_add, Nat.reduceEqDiff, Bool.not_true, Bool.not_false, if_true, if_false, Bool.and_self, Bool.true_and, Bool.and_true, Bool.false_eq_true, ↓reduceIte, true_and, and_true, decide_true, decide_false, wipeR]
        exact k_nx ⟨_, rfl, t3, rfl⟩
    rintro rs s5 ⟨x, rfl, hx, e5⟩
    obtain ⟨s5a, s5b⟩ := s5
    have e5 : s5b = s2.2 := e5
    subst e5
    refine ⟨.nx [some (hnd 0), some (.int (many : Nat)), some (.str heads), some (.str (mk tl)), some (.int (most : Nat)), some (hnd 1), some (.int (0 + (j : Int))), some (.str x)], (s5a, Dg.kvPut s2.2 x true), ?_, ?_⟩
    · show (if true = true then bnd (some (PyData.bool true, (s5a, s2.2))) _ else none) = _
      show (if s2.2.length < 1000 then _ else none) = _
      rw [if_pos (by omega)]
    · have := put_len s2.2 x
      refine ⟨⟨_, _, rfl⟩, by show (Dg.kvPut s2.2 x true).length ≤ _; omega, fun _ => this.2, fun y hy => ?_⟩
      rcases put_mem hy with rfl | hy
      · exact hx
      · exact htk y hy
  · rintro ρ s2 ⟨⟨o6, o7, rfl⟩, hlen, hone, htk⟩
    rw [rng_len] at hlen hone
    refine k_ret ?_
    simp only [ok_V0, ok_Vs, ok_K, ok_B, ok_U, ok_nil, ok_cons, ok_N, ok_aN, ok_call, ok_nl, ok_fl, ok_afl, ok_T, ok_qNot, ok_qAnd, ok_qOr, ok_and, ok_or, ok_not, ok_if, ok_Sl, ok_oNo, ok_oOf, ok_Ch, ok_it, ok_itA, ok_yes, v_addI, v_sub, v_neg, v_eqI, v_eqS, v_eqB, v_eq0, v_eqT0, v_neI, v_neS, v_neB, v_ne0, v_neT0, v_ltI, v_leI, v_gtI, v_geI, v_is, v_isNot, v_nn, v_ns, v_ni, v_nl, v_nt, v_tb, v_tl, v_tt, v_tn, v_ti, v_asB, v_asI, v_asL, v_asT, v_asS, v_lenL, v_lenT, v_tupL, v_tupT, v_listL, v_listT, v_intB, v_tup0, v_tup1, v_tup2, v_tup3, v_tup4, v_tup5, v_lst0, v_lst1, v_lst2, v_lst3, v_lst4, v_lst5, v_ok0, v_ok1, v_ok2, v_ix0L, v_ix0, v_ix1, v_ix2, v_ix3, v_fs, v_fi, v_fb, v_fn, v_ft, v_f0, v_fc, startR, List.map_cons, List.map_nil, List.length_cons, List.length_nil, List.replicate, List.cons_append, List.nil_append, List.set_cons_zero, List.set_cons_succ, Option.some.injEq, exists_eq_left', Nat.reduceAdd, Nat.reduceSub, Nat.sub_zero, Nat.sub_self, Nat.zero_add, Nat.reduceEqDiff, Bool.not_true, Bool.not_false, if_true, if_false, Bool.and_self, Bool.true_and, Bool.and_true, Bool.false_eq_true, ↓reduceIte, true_and, and_true, decide_true, decide_false, wipeR]
    refine ⟨(sortS (s2.2.map (·.1))).map .str, s2, by unfold Dg.aSd; rw [if_pos ⟨rfl, by omega⟩], ?_⟩
    refine ⟨_, rfl, by show noHs _ = true; exact noH_strs _, ?_⟩
    have e := (sortS_perm (s2.2.map (·.1))).length_eq
    rw [List.length_map] at e
    refine q (sortS (s2.2.map (·.1))) _ (by omega) (fun h1 h2 => ?_) (fun x hx => htk x ((sortS_perm _).mem_iff.mp hx))
    have := hone h1
    rw [h2] at e
    simp at e
    omega
end Lw30
set_option Elab.async false
set_option linter.all false
set_option maxRecDepth 100000
set_option maxHeartbeats 1000000
/-! vocabularies, sums, forms drawn -/
namespace Lw30
open PySem PySem.Spec L2 Dl Mx Ds Lw01 Lw41
/-- the letters that a law binds -/
def lets : List Str := [Str.ofString "x", Str.ofString "y", Str.ofString "z", Str.ofString "u", Str.ofString "x1", Str.ofString "w"]
theorem lets_at {x : Str} (h : x ∈ lets) : ∃ a b, x = mk (a :: b) ∧ b.length ≤ 1 ∧ (b ≠ [] → b = [49]) := by
  have : lets = [mk [120], mk [121], mk [122], mk [117], mk [120, 49], mk [119]] := by decide +kernel
  rw [this] at h
  simp only [List.mem_cons, List.not_mem_nil, or_false] at h
  rcases h with rfl | rfl | rfl | rfl | rfl | rfl <;> exact ⟨_, _, rfl, by simp, by simp⟩
theorem kind_far {h x : Str} (k : Sw h [113] x) : x ∉ lets := fun hx => by
  obtain ⟨c, l, rfl, _, _, _⟩ := k.ex
  obtain ⟨a, b, e, h1, h2⟩ := lets_at hx
  have e := congrArg (fun z : Str => z.cps.toList) e
  simp only [mk_cps, List.cons.injEq] at e
  have hb : b = [49] := h2 (by rw [← e.2]; simp)
  rw [hb] at e
  have := congrArg List.getLast? e.2
  simp at this
theorem doing_far {h x : Str} (k : Sw h [113, 122] x) : x ∉ lets := fun hx => by
  obtain ⟨c, l, rfl, _, _, _⟩ := k.ex
  obtain ⟨a, b, e, h1, h2⟩ := lets_at hx
  have e := congrArg (fun z : Str => z.cps.toList) e
  simp only [mk_cps, List.cons.injEq] at e
  rw [← e.2] at h1
  simp at h1
inductive Fo
  | is (t k : Str)
  | does (e t u : Str)
  | same (t u : Str)
  | least (a b : Tot)
  | fals
  | no (f : Fo)
  | jn (w : Jw) (f g : Fo)
  | qu (w : Qw) (x : Str) (f : Fo)
def Fo.d : Fo → D
  | .is t k => .tuple [.str (Str.ofString "is"), .str t, .str k]
  | .does e t u => .tuple [.str (Str.ofString "does"), .str e, .str t, .str u]
  | .same t u => .tuple [.str (Str.ofString "same"), .str t, .str u]
  | .least a b => .tuple [.str (Str.ofString "least"), totD a, totD b]
  | .fals => .tuple [.str (Str.ofString "false")]
  | .no f => .tuple [.str (Str.ofString "not"), f.d]
  | .jn w f g => .tuple [.str w.s, f.d, g.d]
  | .qu w x f => .tuple [.str w.s, .str x, f.d]
def Fo.dep : Fo → Nat
  | .no f => f.dep + 1
  | .jn _ f g => max f.dep g.dep + 1
  | .qu _ _ f => f.dep + 1
  | _ => 0
abbrev sok (x : Str) : Prop := PyData.strOk x = true
def Fo.ok : Fo → Prop
  | .is t k => sok t ∧ sok k ∧ k ∉ lets
  | .does e t u => sok e ∧ sok t ∧ sok u ∧ e ∉ lets
  | .same t u => sok t ∧ sok u
  | .least a b => (∀ p ∈ a.1, sok p.1) ∧ ∀ p ∈ b.1, sok p.1
  | .fals => True
  | .no f => f.ok
  | .jn _ f g => f.ok ∧ g.ok
  | .qu _ x f => sok x ∧ f.ok ∧ x ∈ lets
theorem jw_sok (w : Jw) : sok w.s := by cases w <;> decide +kernel
theorem qw_sok (w : Qw) : sok w.s := by cases w <;> decide +kernel
theorem lit_ok : sok (Str.ofString "is") ∧ sok (Str.ofString "does") ∧ sok (Str.ofString "same") ∧ sok (Str.ofString "least") ∧ sok (Str.ofString "false") ∧ sok (Str.ofString "not") ∧ sok (Str.ofString "and") ∧ sok (Str.ofString "or") ∧ sok (Str.ofString "if") := by decide +kernel
theorem smp_pts : ∀ ps : List Pt, (∀ p ∈ ps, sok p.1) → Lw38.smpAll (ps.map ptD) = true
  | [], _ => by simp [Lw38.smpAll]
  | p :: ps, h => by
    have h1 := h p List.mem_cons_self
    have h2 := smp_pts ps fun x hx => h x (List.mem_cons_of_mem _ hx)
    simp [Lw38.smpAll, Lw38.smp, ptD, h1, h2]
theorem smp_tot {t : Tot} (h : ∀ p ∈ t.1, sok p.1) : Lw38.smp (totD t) = true := by simp [totD, Lw38.smp, Lw38.smpAll, smp_pts t.1 h]
theorem dep_tot (t : Tot) : PyData.depth (totD t) ≤ 3 := by
  have := dep_pts t.1
  simp only [totD, PyData.depth, PyData.depthAll]
  omega
theorem dep_fo : ∀ f : Fo, PyData.depth f.d ≤ f.dep + 4
  | .is t k => by simp [Fo.d, PyData.depth, PyData.depthAll, Fo.dep]
  | .does e t k => by simp [Fo.d, PyData.depth, PyData.depthAll, Fo.dep]
  | .same t u => by simp [Fo.d, PyData.depth, PyData.depthAll, Fo.dep]
  | .least t u => by
    have h1 := dep_tot t
    have h2 := dep_tot u
    simp only [Fo.d, PyData.depth, PyData.depthAll, Fo.dep]
    omega
  | .fals => by simp [Fo.d, PyData.depth, PyData.depthAll, Fo.dep]
  | .no f => by
    have h1 := dep_fo f
    simp only [Fo.d, PyData.depth, PyData.depthAll, Fo.dep]
    omega
  | .jn w f g => by
    have h1 := dep_fo f
    have h2 := dep_fo g
    simp only [Fo.d, PyData.depth, PyData.depthAll, Fo.dep]
    omega
  | .qu w x f => by
    have h1 := dep_fo f
    simp only [Fo.d, PyData.depth, PyData.depthAll, Fo.dep]
    omega
/-! drawing -/
theorem pick9 {r : Int} {xs : List Str} (h0 : 0 ≤ r) (h1 : r < xs.length) : ∃ x, x ∈ xs ∧ pIx (.list (xs.map .str)) (.int r) = some (.str x) := by
  obtain ⟨v, hv, hv2, ev⟩ := atI_lt (xs := xs.map PyData.str) h0 (by rw [List.length_map]; exact h1)
  obtain ⟨x, hx, rfl⟩ := List.mem_map.mp hv
  exact ⟨x, hx, ev⟩
theorem pick9T {r : Int} {xs : List Str} (h0 : 0 ≤ r) (h1 : r < xs.length) : ∃ x, x ∈ xs ∧ pIx (.tuple (xs.map .str)) (.int r) = some (.str x) := by
  obtain ⟨v, hv, hv2, ev⟩ := atI_lt (xs := xs.map PyData.str) h0 (by rw [List.length_map]; exact h1)
  obtain ⟨x, hx, rfl⟩ := List.mem_map.mp hv
  exact ⟨x, hx, ev⟩
structure Vc (ns ks es : List Str) : Prop where
  n0 : ns ≠ []
  k0 : ks ≠ []
  nl : ns.length ≤ 7
  kl : ks.length ≤ 7
  el : es.length ≤ 7
  n : ∀ x ∈ ns, Tk 20 x
  k : ∀ x ∈ ks, Tk 20 x
  e : ∀ x ∈ es, Tk 20 x
  nm : ∀ x ∈ ns, nameB (.str x) = true
  kf : ∀ x ∈ ks, x ∉ lets
  ef : ∀ x ∈ es, x ∉ lets
def vcD (ns ks es : List Str) : D := .tuple [.tuple (ns.map .str), .tuple (ks.map .str), .tuple (es.map .str)]
abbrev Fvoc : Fn DS := Lw30.K_w_vocabulary Fsome Fdraw9
theorem tk_great : Tk 30 (Str.ofString "ABCDEFGHIJKLM") := ⟨by decide +kernel, by decide +kernel⟩
theorem tk_smS : Tk 30 (Str.ofString "abcdefghijklmnopqrstuvwxyz") := ⟨by decide +kernel, by decide +kernel⟩
theorem ok_voc {s : DS} {a b c : Nat} (ha : 1 ≤ a) (ha2 : a ≤ 6) (hb : 1 ≤ b) (hb2 : b ≤ 6) (hc : c ≤ 3) {Q : D → DS → Prop} (q : ∀ ns ks es s', Vc ns ks es → Q (vcD ns ks es) s') : Ok (Fvoc [hnd 0, .int (a : Nat), .int (b : Nat), .int (c : Nat)] s) Q := by
  unfold Fvoc Lw30.K_w_vocabulary Lw30.B_w_vocabulary
  refine k_fn (k_seq (k_set ?_))
  simp only [ok_V0, ok_Vs, ok_K, ok_B, ok_U, ok_nil, ok_cons, ok_N, ok_aN, ok_call, ok_nl, ok_fl, ok_afl, ok_T, ok_qNot, ok_qAnd, ok_qOr, ok_and, ok_or, ok_not, ok_if, ok_Sl, ok_oNo, ok_oOf, ok_Ch, ok_it, ok_itA, ok_yes, v_addI, v_sub, v_neg, v_eqI, v_eqS, v_eqB, v_eq0, v_eqT0, v_neI, v_neS, v_neB, v_ne0, v_neT0, v_ltI, v_leI, v_gtI, v_geI, v_is, v_isNot, v_nn, v_ns, v_ni, v_nl, v_nt, v_tb, v_tl, v_tt, v_tn, v_ti, v_asB, v_asI, v_asL, v_asT, v_asS, v_lenL, v_lenT, v_tupL, v_tupT, v_listL, v_listT, v_intB, v_tup0, v_tup1, v_tup2, v_tup3, v_tup4, v_tup5, v_lst0, v_lst1, v_lst2, v_lst3, v_lst4, v_lst5, v_ok0, v_ok1, v_ok2, v_ix0L, v_ix0, v_ix1, v_ix2, v_ix3, v_fs, v_fi, v_fb, v_fn, v_ft, v_f0, v_fc, startR, List.map_cons, List.map_nil, List.length_cons, List.length_nil, List.replicate, List.cons_append, List.nil_append, List.set_cons_zero, List.set_cons_succ, Option.some.injEq, exists_eq_left', Nat.reduceAdd, Nat.reduceSub, Nat.sub_zero, Nat.sub_self, Nat.zero_add, Nat.reduceEqDiff, Bool.not_true, Bool.not_false, if_true, if_false, Bool.and_self, Bool.true_and, Bool.and_true, Bool.false_eq_true, ↓reduceIte, true_and, and_true, decide_true, decide_false, wipeR]
  refine k_draw9 (by omega) (by omega) fun r s1 r0 r1 => ?_
  refine ⟨_, rfl, ?_⟩
  rw [show (PyData.int (1 + r)) = .int (((1 + r).toNat : Nat) : Int) from by congr 1; omega]
  rw [show PyData.str (Str.ofString "") = .str (mk []) from rfl]
  refine ok_some9 (most := 6) (tl := []) (by omega) (by decide +kernel) tk_great (by decide) rfl (by decide) fun ns s2 n1 n2 n3 => ?_
  refine k_seq (k_set ?_)
  simp only [ok_V0, ok_Vs, ok_K, ok_B, ok_U, ok_nil, ok_cons, ok_N, ok_aN, ok_call, ok_nl, ok_fl, ok_afl, ok_T, ok_qNot, ok_qAnd, ok_qOr, ok_and, ok_or, ok_not, ok_if, ok_Sl, ok_oNo, ok_oOf, ok_Ch, ok_it, ok_itA, ok_yes, v_addI, v_sub, v_neg, v_eqI, v_eqS, v_eqB, v_eq0, v_eqT0, v_neI, v_neS, v_neB, v_ne0, v_neT0, v_ltI, v_leI, v_gtI, v_geI, v_is, v_isNot, v_nn, v_ns, v_ni, v_nl, v_nt, v_tb, v_tl, v_tt, v_tn, v_ti, v_asB, v_asI, v_asL, v_asT, v_asS, v_lenL, v_lenT, v_tupL, v_tupT, v_listL, v_listT, v_intB, v_tup0, v_tup1, v_tup2, v_tup3, v_tup4, v_tup5, v_lst0, v_lst1, v_lst2, v_lst3, v_lst4, v_lst5, v_ok0, v_ok1, v_ok2, v_ix0L, v_ix0, v_ix1, v_ix2, v_ix3, v_fs, v_fi, v_fb, v_fn, v_ft, v_f0, v_fc, startR, List.map_cons, List.map_nil, List.length_cons, List.length_nil, List.replicate, List.cons_append, List.nil_append, List.set_cons_zero, List.set_cons_succ, Option.some.injEq, exists_eq_left', Nat.reduceAdd, Nat.reduceSub, Nat.sub_zero, Nat.sub_self, Nat.zero_add, Nat.reduceEqDiff, Bool.not_true, Bool.not_false, if_true, if_false, Bool.and_self, Bool.true_and, Bool.and_true, Bool.false_eq_true, ↓reduceIte, true_and, and_true, decide_true, decide_false, wipeR]
  refine k_draw9 (by omega) (by omega) fun t s3 t0 t1 => ?_
  refine ⟨_, rfl, ?_⟩
  rw [show (PyData.int (1 + t)) = .int (((1 + t).toNat : Nat) : Int) from by congr 1; omega]
  rw [show PyData.str (Str.ofString "q") = .str (mk [113]) from by congr 1]
  refine ok_some9 (most := 5) (tl := [113]) (by omega) (by decide +kernel) tk_smS (by decide) (by decide +kernel) (by decide) fun ks s4 k1 k2 k3 => ?_
  refine k_seq (k_set ?_)
  simp only [ok_V0, ok_Vs, ok_K, ok_B, ok_U, ok_nil, ok_cons, ok_N, ok_aN, ok_call, ok_nl, ok_fl, ok_afl, ok_T, ok_qNot, ok_qAnd, ok_qOr, ok_and, ok_or, ok_not, ok_if, ok_Sl, ok_oNo, ok_oOf, ok_Ch, ok_it, ok_itA, ok_yes, v_addI, v_sub, v_neg, v_eqI, v_eqS, v_eqB, v_eq0, v_eqT0, v_neI, v_neS, v_neB, v_ne0, v_neT0, v_ltI, v_leI, v_gtI, v_geI, v_is, v_isNot, v_nn, v_ns, v_ni, v_nl, v_nt, v_tb, v_tl, v_tt, v_tn, v_ti, v_asB, v_asI, v_asL, v_asT, v_asS, v_lenL, v_lenT, v_tupL, v_tupT, v_listL, v_listT, v_intB, v_tup0, v_tup1, v_tup2, v_tup3, v_tup4, v_tup5, v_lst0, v_lst1, v_lst2, v_lst3, v_lst4, v_lst5, v_ok0, v_ok1, v_ok2, v_ix0L, v_ix0, v_ix1, v_ix2, v_ix3, v_fs, v_fi, v_fb, v_fn, v_ft, v_f0, v_fc, startR, List.map_cons, List.map_nil, List.length_cons, List.length_nil, List.replicate, List.cons_append, List.nil_append, List.set_cons_zero, List.set_cons_succ, Option.some.injEq, exists_eq_left', Nat.reduceAdd, Nat.reduceSub, Nat.sub_zero, Nat.sub_self, Nat.zero_add, Nat.reduceEqDiff, Bool.not_true, Bool.not_false, if_true, if_false, Bool.and_self, Bool.true_and, Bool.and_true, Bool.false_eq_true, ↓reduceIte, true_and, and_true, decide_true, decide_false, wipeR]
  refine k_draw9 (by omega) (by omega) fun u s5 u0 u1 => ?_
  rw [show (PyData.int u) = .int ((u.toNat : Nat) : Int) from by congr 1; omega]
  rw [show PyData.str (Str.ofString "qz") = .str (mk [113, 122]) from by congr 1]
  refine ok_some9 (most := 4) (tl := [113, 122]) (by omega) (by decide +kernel) tk_smS (by decide) (by decide +kernel) (by decide) fun es s6 e1 e2 e3 => ?_
  refine k_ret ?_
  simp only [ok_V0, ok_Vs, ok_K, ok_B, ok_U, ok_nil, ok_cons, ok_N, ok_aN, ok_call, ok_nl, ok_fl, ok_afl, ok_T, ok_qNot, ok_qAnd, ok_qOr, ok_and, ok_or, ok_not, ok_if, ok_Sl, ok_oNo, ok_oOf, ok_Ch, ok_it, ok_itA, ok_yes, v_addI, v_sub, v_neg, v_eqI, v_eqS, v_eqB, v_eq0, v_eqT0, v_neI, v_neS, v_neB, v_ne0, v_neT0, v_ltI, v_leI, v_gtI, v_geI, v_is, v_isNot, v_nn, v_ns, v_ni, v_nl, v_nt, v_tb, v_tl, v_tt, v_tn, v_ti, v_asB, v_asI, v_asL, v_asT, v_asS, v_lenL, v_lenT, v_tupL, v_tupT, v_listL, v_listT, v_intB, v_tup0, v_tup1, v_tup2, v_tup3, v_tup4, v_tup5, v_lst0, v_lst1, v_lst2, v_lst3, v_lst4, v_lst5, v_ok0, v_ok1, v_ok2, v_ix0L, v_ix0, v_ix1, v_ix2, v_ix3, v_fs, v_fi, v_fb, v_fn, v_ft, v_f0, v_fc, startR, List.map_cons, List.map_nil, List.length_cons, List.length_nil, List.replicate, List.cons_append, List.nil_append, List.set_cons_zero, List.set_cons_succ, Option.some.injEq, exists_eq_left', Nat.reduceAdd, Nat.reduceSub, Nat.sub_zero, Nat.sub_self, Nat.zero_add, Nat.reduceEqDiff, Bool.not_true, Bool.not_false, if_true, if_false, Bool.and_self, Bool.true_and, Bool.and_true, Bool.false_eq_true, ↓reduceIte, true_and, and_true, decide_true, decide_false, wipeR]
  exact q ns ks es _ ⟨n2 (by omega), k2 (by omega), by omega, by omega, by omega, fun x hx => (n3 x hx).tk tk_great (by decide) rfl, fun x hx => (k3 x hx).tk tk_smS (by decide) (by decide +kernel), fun x hx => (e3 x hx).tk tk_smS (by decide) (by decide +kernel), fun x hx => by
    obtain ⟨c, l, rfl, hc, hl, hn⟩ := (n3 x hx).ex
    rw [List.append_nil]
    have hg : ((Str.ofString "ABCDEFGHIJKLM").cps.toList.all fun c => decide (c ∈ (Str.ofString "ABCDEFGHIJKLMNOPQRSTUVWXYZ").cps.toList)) = true := by decide +kernel
    rw [nameB_str, mk_cps, nameL_cons, hl, of_decide_eq_true (List.all_eq_true.mp hg c hc) |> decide_eq_true, decide_eq_true (show l.length ≤ 7 by omega)]
    rfl, fun x hx => kind_far (k3 x hx), fun x hx => doing_far (e3 x hx)⟩
abbrev Fsum9 : Fn DS := Lw30.K_w_sum Fdraw9
theorem ok_sum9 {s : DS} {ks : List Str} (hl : ks.length ≤ 7) {Q : D → DS → Prop} (q : ∀ t s', (∀ p ∈ t.1, p.1 ∈ ks) → Q (totD t) s') : Ok (Fsum9 [hnd 0, .tuple (ks.map .str)] s) Q := by
  unfold Fsum9 Lw30.K_w_sum Lw30.B_w_sum
  refine k_fn (k_seq (k_set ?_))
  simp only [ok_V0, ok_Vs, ok_K, ok_B, ok_U, ok_nil, ok_cons, ok_N, ok_aN, ok_call, ok_nl, ok_fl, ok_afl, ok_T, ok_qNot, ok_qAnd, ok_qOr, ok_and, ok_or, ok_not, ok_if, ok_Sl, ok_oNo, ok_oOf, ok_Ch, ok_it, ok_itA, ok_yes, v_addI, v_sub, v_neg, v_eqI, v_eqS, v_eqB, v_eq0, v_eqT0, v_neI, v_neS, v_neB, v_ne0, v_neT0, v_ltI, v_leI, v_gtI, v_geI, v_is, v_isNot, v_nn, v_ns, v_ni, v_nl, v_nt, v_tb, v_tl, v_tt, v_tn, v_ti, v_asB, v_asI, v_asL, v_asT, v_asS, v_lenL, v_lenT, v_tupL, v_tupT, v_listL, v_listT, v_intB, v_tup0, v_tup1, v_tup2, v_tup3, v_tup4, v_tup5, v_lst0, v_lst1, v_lst2, v_lst3, v_lst4, v_lst5, v_ok0, v_ok1, v_ok2, v_ix0L, v_ix0, v_ix1, v_ix2, v_ix3, v_fs, v_fi, v_fb, v_fn, v_ft, v_f0, v_fc, startR, List.map_cons, List.map_nil, List.length_cons, List.length_nil, List.replicate, List.cons_append, List.nil_append, List.set_cons_zero, List.set_cons_succ, Option.some.injEq, exists_eq_left', Nat.reduceAdd, Nat.reduceSub, Nat.sub_zero, Nat.sub_self, Nat.zero_add, Nat.reduceEqDiff, Bool.not_true, Bool.not_false, if_true, if_false, Bool.and_self, Bool.true_and, Bool.and_true, Bool.false_eq_true, ↓reduceIte, true_and, and_true, decide_true, decide_false, wipeR]
  refine k_lcP (fun ds s' => ds = ks.map .str) ⟨_, _, rfl, rfl⟩ ?_
  rintro ds s1 rfl
  refine ⟨by rw [List.length_map]; exact szL (by omega), fun j acc _ => ∃ ps : List Pt, acc = ps.map ptD ∧ ∀ p ∈ ps, p.1 ∈ ks, ⟨[], rfl, by simp⟩, ?_, ?_⟩
  · rintro j d acc s2 hd ⟨ps, rfl, hp⟩
    obtain ⟨k, hk, rfl⟩ := List.mem_map.mp (List.mem_of_getElem? hd)
    refine ⟨_, rfl, ?_⟩
    simp only [ok_V0, ok_Vs, ok_K, ok_B, ok_U, ok_nil, ok_cons, ok_N, ok_aN, ok_call, ok_nl, ok_fl, ok_afl, ok_T, ok_qNot, ok_qAnd, ok_qOr, ok_and, ok_or, ok_not, ok_if, ok_Sl, ok_oNo, ok_oOf, ok_Ch, ok_it, ok_itA, ok_yes, v_addI, v_sub, v_neg, v_eqI, v_eqS, v_eqB, v_eq0, v_eqT0, v_neI, v_neS, v_neB, v_ne0, v_neT0, v_ltI, v_leI, v_gtI, v_geI, v_is, v_isNot, v_nn, v_ns, v_ni, v_nl, v_nt, v_tb, v_tl, v_tt, v_tn, v_ti, v_asB, v_asI, v_asL, v_asT, v_asS, v_lenL, v_lenT, v_tupL, v_tupT, v_listL, v_listT, v_intB, v_tup0, v_tup1, v_tup2, v_tup3, v_tup4, v_tup5, v_lst0, v_lst1, v_lst2, v_lst3, v_lst4, v_lst5, v_ok0, v_ok1, v_ok2, v_ix0L, v_ix0, v_ix1, v_ix2, v_ix3, v_fs, v_fi, v_fb, v_fn, v_ft, v_f0, v_fc, startR, List.map_cons, List.map_nil, List.length_cons, List.length_nil, List.replicate, List.cons_append, List.nil_append, List.set_cons_zero, List.set_cons_succ, Option.some.injEq, exists_eq_left', Nat.reduceAdd, Nat.reduceSub, Nat.sub_zero, Nat.sub_self, Nat.zero_add, Nat.reduceEqDiff, Bool.not_true, Bool.not_false, if_true, if_false, Bool.and_self, Bool.true_and, Bool.and_true, Bool.false_eq_true, ↓reduceIte, true_and, and_true, decide_true, decide_false, wipeR]
    refine k_draw9 (by omega) (by omega) fun r s3 r0 r1 => ?_
    simp only [ok_V0, ok_Vs, ok_K, ok_B, ok_U, ok_nil, ok_cons, ok_N, ok_aN, ok_call, ok_nl, ok_fl, ok_afl, ok_T, ok_qNot, ok_qAnd, ok_qOr, ok_and, ok_or, ok_not, ok_if, ok_Sl, ok_oNo, ok_oOf, ok_Ch, ok_it, ok_itA, ok_yes, v_addI, v_sub, v_neg, v_eqI, v_eqS, v_eqB, v_eq0, v_eqT0, v_neI, v_neS, v_neB, v_ne0, v_neT0, v_ltI, v_leI, v_gtI, v_geI, v_is, v_isNot, v_nn, v_ns, v_ni, v_nl, v_nt, v_tb, v_tl, v_tt, v_tn, v_ti, v_asB, v_asI, v_asL, v_asT, v_asS, v_lenL, v_lenT, v_tupL, v_tupT, v_listL, v_listT, v_intB, v_tup0, v_tup1, v_tup2, v_tup3, v_tup4, v_tup5, v_lst0, v_lst1, v_lst2, v_lst3, v_lst4, v_lst5, v_ok0, v_ok1, v_ok2, v_ix0L, v_ix0, v_ix1, v_ix2, v_ix3, v_fs, v_fi, v_fb, v_fn, v_ft, v_f0, v_fc, startR, List.map_cons, List.map_nil, List.length_cons, List.length_nil, List.replicate, List.cons_append, List.nil_append, List.set_cons_zero, List.set_cons_succ, Option.some.injEq, exists_eq_left', Nat.reduceAdd, Nat.reduceSub, Nat.sub_zero, Nat.sub_self, Nat.zero_add, Nat.reduceEqDiff, Bool.not_true, Bool.not_false, if_true, if_false, Bool.and_self, Bool.true_and, Bool.and_true, Bool.false_eq_true, ↓reduceIte, true_and, and_true, decide_true, decide_false, wipeR]
    by_cases e : r = 0
    · simp only [e, ok_V0, ok_Vs, ok_K, ok_B, ok_U, ok_nil, ok_cons, ok_N, ok_aN, ok_call, ok_nl, ok_fl, ok_afl, ok_T, ok_qNot, ok_qAnd, ok_qOr, ok_and, ok_or, ok_not, ok_if, ok_Sl, ok_oNo, ok_oOf, ok_Ch, ok_it, ok_itA, ok_yes, v_addI, v_sub, v_neg, v_eqI, v_eqS, v_eqB, v_eq0, v_eqT0, v_neI, v_neS, v_neB, v_ne0, v_neT0, v_ltI, v_leI, v_gtI, v_geI, v_is, v_isNot, v_nn, v_ns, v_ni, v_nl, v_nt, v_tb, v_tl, v_tt, v_tn, v_ti, v_asB, v_asI, v_asL, v_asT, v_asS, v_lenL, v_lenT, v_tupL, v_tupT, v_listL, v_listT, v_intB, v_tup0, v_tup1, v_tup2, v_tup3, v_tup4, v_tup5, v_lst0, v_lst1, v_lst2, v_lst3, v_lst4, v_lst5, v_ok0, v_ok1, v_ok2, v_ix0L, v_ix0, v_ix1, v_ix2, v_ix3, v_fs, v_fi, v_fb, v_fn, v_ft, v_f0, v_fc, startR, List.map_cons, List.map_nil, List.length_cons, List.length_nil, List.replicate, List.cons_append, List.nil_append, List.set_cons_zero, List.set_cons_succ, Option.some.injEq, exists_eq_left', Nat.reduceAdd, Nat.reduceSub, Nat.sub_zero, Nat.sub_self, Nat.zero_add, Nat.reduceEqDiff, Bool.not_true, Bool.not_false, if_true, if_false, Bool.and_self, Bool.true_and, Bool.and_true, Bool.false_eq_true, ↓reduceIte, true_and, and_true, decide_true, decide_false, wipeR]
      refine k_draw9 (by omega) (by omega) fun t s4 t0 t1 => ?_
      refine ⟨_, rfl, ps ++ [(k, 1 + t)], by rw [List.map_append]; rfl, fun p hp2 => ?_⟩
      rcases List.mem_append.mp hp2 with hp2 | hp2
      · exact hp p hp2
      · rw [List.mem_singleton.mp hp2]
        exact hk
    · simp only [e, ok_V0, ok_Vs, ok_K, ok_B, ok_U, ok_nil, ok_cons, ok_N, ok_aN, ok_call, ok_nl, ok_fl, ok_afl, ok_T, ok_qNot, ok_qAnd, ok_qOr, ok_and, ok_or, ok_not, ok_if, ok_Sl, ok_oNo, ok_oOf, ok_Ch, ok_it, ok_itA, ok_yes, v_addI, v_sub, v_neg, v_eqI, v_eqS, v_eqB, v_eq0, v_eqT0, v_neI, v_neS, v_neB, v_ne0, v_neT0, v_ltI, v_leI, v_gtI, v_geI, v_is, v_isNot, v_nn, v_ns, v_ni, v_nl, v_nt, v_tb, v_tl, v_tt, v_tn, v_ti, v_asB, v_asI, v_asL, v_asT, v_asS, v_lenL, v_lenT, v_tupL, v_tupT, v_listL, v_listT, v_intB, v_tup0, v_tup1, v_tup2, v_tup3, v_tup4, v_tup5, v_lst0, v_lst1, v_lst2, v_lst3, v_lst4, v_lst5, v_ok0, v_ok1, v_ok2, v_ix0L, v_ix0, v_ix1, v_ix2, v_ix3, v_fs, v_fi, v_fb, v_fn, v_ft, v_f0, v_fc, startR, List.map_cons, List.map_nil, List.length_cons, List.length_nil, List.replicate, List.cons_append, List.nil_append, List.set_cons_zero, List.set_cons_succ, Option.some.injEq, exists_eq_left', Nat.reduceAdd, Nat.reduceSub, Nat.sub_zero, Nat.sub_self, Nat.zero_add, Nat.reduceEqDiff, Bool.not_true, Bool.not_false, if_true, if_false, Bool.and_self, Bool.true_and, Bool.and_true, Bool.false_eq_true, ↓reduceIte, true_and, and_true, decide_true, decide_false, wipeR]
      exact ⟨ps, rfl, hp⟩
  · rintro acc s2 ⟨ps, rfl, hp⟩
    refine k_ret ?_
    simp only [ok_V0, ok_Vs, ok_K, ok_B, ok_U, ok_nil, ok_cons, ok_N, ok_aN, ok_call, ok_nl, ok_fl, ok_afl, ok_T, ok_qNot, ok_qAnd, ok_qOr, ok_and, ok_or, ok_not, ok_if, ok_Sl, ok_oNo, ok_oOf, ok_Ch, ok_it, ok_itA, ok_yes, v_addI, v_sub, v_neg, v_eqI, v_eqS, v_eqB, v_eq0, v_eqT0, v_neI, v_neS, v_neB, v_ne0, v_neT0, v_ltI, v_leI, v_gtI, v_geI, v_is, v_isNot, v_nn, v_ns, v_ni, v_nl, v_nt, v_tb, v_tl, v_tt, v_tn, v_ti, v_asB, v_asI, v_asL, v_asT, v_asS, v_lenL, v_lenT, v_tupL, v_tupT, v_listL, v_listT, v_intB, v_tup0, v_tup1, v_tup2, v_tup3, v_tup4, v_tup5, v_lst0, v_lst1, v_lst2, v_lst3, v_lst4, v_lst5, v_ok0, v_ok1, v_ok2, v_ix0L, v_ix0, v_ix1, v_ix2, v_ix3, v_fs, v_fi, v_fb, v_fn, v_ft, v_f0, v_fc, startR, List.map_cons, List.map_nil, List.length_cons, List.length_nil, List.replicate, List.cons_append, List.nil_append, List.set_cons_zero, List.set_cons_succ, Option.some.injEq, exists_eq_left', Nat.reduceAdd, Nat.reduceSub, Nat.sub_zero, Nat.sub_self, Nat.zero_add, Nat.reduceEqDiff, Bool.not_true, Bool.not_false, if_true, if_false, Bool.and_self, Bool.true_and, Bool.and_true, Bool.false_eq_true, ↓reduceIte, true_and, and_true, decide_true, decide_false, wipeR]
    refine k_draw9 (by omega) (by omega) fun t s4 t0 t1 => ?_
    exact q (ps, t) _ hp
abbrev Fatom : Fn DS := Lw30.K_w_atom Fdraw9 Fsum9
theorem ok_atom {s : DS} {ns ks es L : List Str} (v : Vc ns ks es) (hL : ∀ x ∈ L, sok x) (hl : L.length ≤ 20) {Q : D → DS → Prop} (q : ∀ f s', Fo.ok f → f.dep = 0 → Q f.d s') : Ok (Fatom [hnd 0, vcD ns ks es, .list (L.map .str)] s) Q := by
  unfold Fatom Lw30.K_w_atom Lw30.B_w_atom
  have n1 := List.length_pos_iff.mpr v.n0
  have k1 := List.length_pos_iff.mpr v.k0
  have nl := v.nl
  have kl := v.kl
  have el := v.el
  refine k_fn (k_seq (k_asg ?_))
  simp only [ok_V0, ok_Vs, ok_K, ok_B, ok_U, ok_nil, ok_cons, ok_N, ok_aN, ok_call, ok_nl, ok_fl, ok_afl, ok_T, ok_qNot, ok_qAnd, ok_qOr, ok_and, ok_or, ok_not, ok_if, ok_Sl, ok_oNo, ok_oOf, ok_Ch, ok_it, ok_itA, ok_yes, v_addI, v_sub, v_neg, v_eqI, v_eqS, v_eqB, v_eq0, v_eqT0, v_neI, v_neS, v_neB, v_ne0, v_neT0, v_ltI, v_leI, v_gtI, v_geI, v_is, v_isNot, v_nn, v_ns, v_ni, v_nl, v_nt, v_tb, v_tl, v_tt, v_tn, v_ti, v_asB, v_asI, v_asL, v_asT, v_asS, v_lenL, v_lenT, v_tupL, v_tupT, v_listL, v_listT, v_intB, v_tup0, v_tup1, v_tup2, v_tup3, v_tup4, v_tup5, v_lst0, v_lst1, v_lst2, v_lst3, v_lst4, v_lst5, v_ok0, v_ok1, v_ok2, v_ix0L, v_ix0, v_ix1, v_ix2, v_ix3, v_fs, v_fi, v_fb, v_fn, v_ft, v_f0, v_fc, startR, List.map_cons, List.map_nil, List.length_cons, List.length_nil, List.replicate, List.cons_append, List.nil_append, List.set_cons_zero, List.set_cons_succ, Option.some.injEq, exists_eq_left', Nat.reduceAdd, Nat.reduceSub, Nat.sub_zero, Nat.sub_self, Nat.zero_add, Nat.reduceEqDiff, Bool.not_true, Bool.not_false, if_true, if_false, Bool.and_self, Bool.true_and, Bool.and_true, Bool.false_eq_true, ↓reduceIte, true_and, and_true, decide_true, decide_false, wipeR]
  refine ⟨_, rfl, ?_⟩
  refine k_seq (k_set ?_)
  simp only [ok_V0, ok_Vs, ok_K, ok_B, ok_U, ok_nil, ok_cons, ok_N, ok_aN, ok_call, ok_nl, ok_fl, ok_afl, ok_T, ok_qNot, ok_qAnd, ok_qOr, ok_and, ok_or, ok_not, ok_if, ok_Sl, ok_oNo, ok_oOf, ok_Ch, ok_it, ok_itA, ok_yes, v_addI, v_sub, v_neg, v_eqI, v_eqS, v_eqB, v_eq0, v_eqT0, v_neI, v_neS, v_neB, v_ne0, v_neT0, v_ltI, v_leI, v_gtI, v_geI, v_is, v_isNot, v_nn, v_ns, v_ni, v_nl, v_nt, v_tb, v_tl, v_tt, v_tn, v_ti, v_asB, v_asI, v_asL, v_asT, v_asS, v_lenL, v_lenT, v_tupL, v_tupT, v_listL, v_listT, v_intB, v_tup0, v_tup1, v_tup2, v_tup3, v_tup4, v_tup5, v_lst0, v_lst1, v_lst2, v_lst3, v_lst4, v_lst5, v_ok0, v_ok1, v_ok2, v_ix0L, v_ix0, v_ix1, v_ix2, v_ix3, v_fs, v_fi, v_fb, v_fn, v_ft, v_f0, v_fc, startR, List.map_cons, List.map_nil, List.length_cons, List.length_nil, List.replicate, List.cons_append, List.nil_append, List.set_cons_zero, List.set_cons_succ, Option.some.injEq, exists_eq_left', Nat.reduceAdd, Nat.reduceSub, Nat.sub_zero, Nat.sub_self, Nat.zero_add, Nat.reduceEqDiff, Bool.not_true, Bool.not_false, if_true, if_false, Bool.and_self, Bool.true_and, Bool.and_true, Bool.false_eq_true, ↓reduceIte, true_and, and_true, decide_true, decide_false, wipeR]
  refine ⟨_, v_addL (by rw [List.length_map, List.length_map]; exact szL (by omega)), ?_⟩
  refine ⟨_, v_addL (by rw [List.length_append, List.length_map, List.length_map]; exact szL (by omega)), ?_⟩
  rw [← List.map_append, ← List.map_append]
  have tl : (ns ++ L ++ L).length ≤ 60 := by
    rw [List.length_append, List.length_append]
    omega
  have t0 : 0 < (ns ++ L ++ L).length := by
    rw [List.length_append, List.length_append]
    omega
  have tok : ∀ x ∈ ns ++ L ++ L, sok x := fun x hx => by
    rw [List.mem_append, List.mem_append] at hx
    rcases hx with (hx | hx) | hx
    · exact (v.n x hx).sok
    · exact hL x hx
    · exact hL x hx
  generalize ns ++ L ++ L = T at tl t0 tok
  refine k_seq (k_set ?_)
  simp only [ok_V0, ok_Vs, ok_K, ok_B, ok_U, ok_nil, ok_cons, ok_N, ok_aN, ok_call, ok_nl, ok_fl, ok_afl, ok_T, ok_qNot, ok_qAnd, ok_qOr, ok_and, ok_or, ok_not, ok_if, ok_Sl, ok_oNo, ok_oOf, ok_Ch, ok_it, ok_itA, ok_yes, v_addI, v_sub, v_neg, v_eqI, v_eqS, v_eqB, v_eq0, v_eqT0, v_neI, v_neS, v_neB, v_ne0, v_neT0, v_ltI, v_leI, v_gtI, v_geI, v_is, v_isNot, v_nn, v_ns, v_ni, v_nl, v_nt, v_tb, v_tl, v_tt, v_tn, v_ti, v_asB, v_asI, v_asL, v_asT, v_asS, v_lenL, v_lenT, v_tupL, v_tupT, v_listL, v_listT, v_intB, v_tup0, v_tup1, v_tup2, v_tup3, v_tup4, v_tup5, v_lst0, v_lst1, v_lst2, v_lst3, v_lst4, v_lst5, v_ok0, v_ok1, v_ok2, v_ix0L, v_ix0, v_ix1, v_ix2, v_ix3, v_fs, v_fi, v_fb, v_fn, v_ft, v_f0, v_fc, startR, List.map_cons, List.map_nil, List.length_cons, List.length_nil, List.replicate, List.cons_append, List.nil_append, List.set_cons_zero, List.set_cons_succ, Option.some.injEq, exists_eq_left', Nat.reduceAdd, Nat.reduceSub, Nat.sub_zero, Nat.sub_self, Nat.zero_add, Nat.reduceEqDiff, Bool.not_true, Bool.not_false, if_true, if_false, Bool.and_self, Bool.true_and, Bool.and_true, Bool.false_eq_true, ↓reduceIte, true_and, and_true, decide_true, decide_false, wipeR, List.length_map]
  refine k_draw9 (by omega) (by omega) fun r s1 r0 r1 => ?_
  obtain ⟨t, ht, et⟩ := pick9 (xs := T) r0 (by omega)
  refine ⟨_, et, ?_⟩
  refine k_seq (k_set ?_)
  simp only [ok_V0, ok_Vs, ok_K, ok_B, ok_U, ok_nil, ok_cons, ok_N, ok_aN, ok_call, ok_nl, ok_fl, ok_afl, ok_T, ok_qNot, ok_qAnd, ok_qOr, ok_and, ok_or, ok_not, ok_if, ok_Sl, ok_oNo, ok_oOf, ok_Ch, ok_it, ok_itA, ok_yes, v_addI, v_sub, v_neg, v_eqI, v_eqS, v_eqB, v_eq0, v_eqT0, v_neI, v_neS, v_neB, v_ne0, v_neT0, v_ltI, v_leI, v_gtI, v_geI, v_is, v_isNot, v_nn, v_ns, v_ni, v_nl, v_nt, v_tb, v_tl, v_tt, v_tn, v_ti, v_asB, v_asI, v_asL, v_asT, v_asS, v_lenL, v_lenT, v_tupL, v_tupT, v_listL, v_listT, v_intB, v_tup0, v_tup1, v_tup2, v_tup3, v_tup4, v_tup5, v_lst0, v_lst1, v_lst2, v_lst3, v_lst4, v_lst5, v_ok0, v_ok1, v_ok2, v_ix0L, v_ix0, v_ix1, v_ix2, v_ix3, v_fs, v_fi, v_fb, v_fn, v_ft, v_f0, v_fc, startR, List.map_cons, List.map_nil, List.length_cons, List.length_nil, List.replicate, List.cons_append, List.nil_append, List.set_cons_zero, List.set_cons_succ, Option.some.injEq, exists_eq_left', Nat.reduceAdd, Nat.reduceSub, Nat.sub_zero, Nat.sub_self, Nat.zero_add, Nat.reduceEqDiff, Bool.not_true, Bool.not_false, if_true, if_false, Bool.and_self, Bool.true_and, Bool.and_true, Bool.false_eq_true, ↓reduceIte, true_and, and_true, decide_true, decide_false, wipeR, List.length_map]
  refine k_draw9 (by omega) (by omega) fun r s2 r0 r1 => ?_
  obtain ⟨u, hu, eu⟩ := pick9 (xs := T) r0 (by omega)
  refine ⟨_, eu, ?_⟩
  refine k_seq (k_set ?_)
  simp only [ok_V0, ok_Vs, ok_K, ok_B, ok_U, ok_nil, ok_cons, ok_N, ok_aN, ok_call, ok_nl, ok_fl, ok_afl, ok_T, ok_qNot, ok_qAnd, ok_qOr, ok_and, ok_or, ok_not, ok_if, ok_Sl, ok_oNo, ok_oOf, ok_Ch, ok_it, ok_itA, ok_yes, v_addI, v_sub, v_neg, v_eqI, v_eqS, v_eqB, v_eq0, v_eqT0, v_neI, v_neS, v_neB, v_ne0, v_neT0, v_ltI, v_leI, v_gtI, v_geI, v_is, v_isNot, v_nn, v_ns, v_ni, v_nl, v_nt, v_tb, v_tl, v_tt, v_tn, v_ti, v_asB, v_asI, v_asL, v_asT, v_asS, v_lenL, v_lenT, v_tupL, v_tupT, v_listL, v_listT, v_intB, v_tup0, v_tup1, v_tup2, v_tup3, v_tup4, v_tup5, v_lst0, v_lst1, v_lst2, v_lst3, v_lst4, v_lst5, v_ok0, v_ok1, v_ok2, v_ix0L, v_ix0, v_ix1, v_ix2, v_ix3, v_fs, v_fi, v_fb, v_fn, v_ft, v_f0, v_fc, startR, List.map_cons, List.map_nil, List.length_cons, List.length_nil, List.replicate, List.cons_append, List.nil_append, List.set_cons_zero, List.set_cons_succ, Option.some.injEq, exists_eq_left', Nat.reduceAdd, Nat.reduceSub, Nat.sub_zero, Nat.sub_self, Nat.zero_add, Nat.reduceEqDiff, Bool.not_true, Bool.not_false, if_true, if_false, Bool.and_self, Bool.true_and, Bool.and_true, Bool.false_eq_true, ↓reduceIte, true_and, and_true, decide_true, decide_false, wipeR]
  refine k_draw9 (by omega) (by omega) fun y s3 y0 y1 => ?_
  refine k_seq (k_sIf ?_)
  simp only [ok_V0, ok_Vs, ok_K, ok_B, ok_U, ok_nil, ok_cons, ok_N, ok_aN, ok_call, ok_nl, ok_fl, ok_afl, ok_T, ok_qNot, ok_qAnd, ok_qOr, ok_and, ok_or, ok_not, ok_if, ok_Sl, ok_oNo, ok_oOf, ok_Ch, ok_it, ok_itA, ok_yes, v_addI, v_sub, v_neg, v_eqI, v_eqS, v_eqB, v_eq0, v_eqT0, v_neI, v_neS, v_neB, v_ne0, v_neT0, v_ltI, v_leI, v_gtI, v_geI, v_is, v_isNot, v_nn, v_ns, v_ni, v_nl, v_nt, v_tb, v_tl, v_tt, v_tn, v_ti, v_asB, v_asI, v_asL, v_asT, v_asS, v_lenL, v_lenT, v_tupL, v_tupT, v_listL, v_listT, v_intB, v_tup0, v_tup1, v_tup2, v_tup3, v_tup4, v_tup5, v_lst0, v_lst1, v_lst2, v_lst3, v_lst4, v_lst5, v_ok0, v_ok1, v_ok2, v_ix0L, v_ix0, v_ix1, v_ix2, v_ix3, v_fs, v_fi, v_fb, v_fn, v_ft, v_f0, v_fc, startR, List.map_cons, List.map_nil, List.length_cons, List.length_nil, List.replicate, List.cons_append, List.nil_append, List.set_cons_zero, List.set_cons_succ, Option.some.injEq, exists_eq_left', Nat.reduceAdd, Nat.reduceSub, Nat.sub_zero, Nat.sub_self, Nat.zero_add, Nat.reduceEqDiff, Bool.not_true, Bool.not_false, if_true, if_false, Bool.and_self, Bool.true_and, Bool.and_true, Bool.false_eq_true, ↓reduceIte, true_and, and_true, decide_true, decide_false, wipeR]
  by_cases e0 : y = 0
  · simp only [e0, ok_V0, ok_Vs, ok_K, ok_B, ok_U, ok_nil, ok_cons, ok_N, ok_aN, ok_call, ok_nl, ok_fl, ok_afl, ok_T, ok_qNot, ok_qAnd, ok_qOr, ok_and, ok_or, ok_not, ok_if, ok_Sl, ok_oNo, ok_oOf, ok_Ch, ok_it, ok_itA, ok_yes, v_addI, v_sub, v_neg, v_eqI, v_eqS, v_eqB, v_eq0, v_eqT0, v_neI, v_neS, v_neB, v_ne0, v_neT0, v_ltI, v_leI, v_gtI, v_geI, v_is, v_isNot, v_nn, v_ns, v_ni, v_nl, v_nt, v_tb, v_tl, v_tt, v_tn, v_ti, v_asB, v_asI, v_asL, v_asT, v_asS, v_lenL, v_lenT, v_tupL, v_tupT, v_listL, v_listT, v_intB, v_tup0, v_tup1, v_tup2, v_tup3, v_tup4, v_tup5, v_lst0, v_lst1, v_lst2, v_lst3, v_lst4, v_lst5, v_ok0, v_ok1, v_ok2, v_ix0L, v_ix0, v_ix1, v_ix2, v_ix3, v_fs, v_fi, v_fb, v_fn, v_ft, v_f0, v_fc, startR, List.map_cons, List.map_nil, List.length_cons, List.length_nil, List.replicate, List.cons_append, List.nil_append, List.set_cons_zero, List.set_cons_succ, Option.some.injEq, exists_eq_left', Nat.reduceAdd, Nat.reduceSub, Nat.sub_zero, Nat.sub_self, Nat.zero_add, Nat.reduceEqDiff, Bool.not_true, Bool.not_false, if_true, if_false, Bool.and_self, Bool.true_and, Bool.and_true, Bool.false_eq_true, ↓reduceIte, true_and, and_true, decide_true, decide_false, wipeR]
    refine k_ret ?_
    simp only [ok_V0, ok_Vs, ok_K, ok_B, ok_U, ok_nil, ok_cons, ok_N, ok_aN, ok_call, ok_nl, ok_fl, ok_afl, ok_T, ok_qNot, ok_qAnd, ok_qOr, ok_and, ok_or, ok_not, ok_if, ok_Sl, ok_oNo, ok_oOf, ok_Ch, ok_it, ok_itA, ok_yes, v_addI, v_sub, v_neg, v_eqI, v_eqS, v_eqB, v_eq0, v_eqT0, v_neI, v_neS, v_neB, v_ne0, v_neT0, v_ltI, v_leI, v_gtI, v_geI, v_is, v_isNot, v_nn, v_ns, v_ni, v_nl, v_nt, v_tb, v_tl, v_tt, v_tn, v_ti, v_asB, v_asI, v_asL, v_asT, v_asS, v_lenL, v_lenT, v_tupL, v_tupT, v_listL, v_listT, v_intB, v_tup0, v_tup1, v_tup2, v_tup3, v_tup4, v_tup5, v_lst0, v_lst1, v_lst2, v_lst3, v_lst4, v_lst5, v_ok0, v_ok1, v_ok2, v_ix0L, v_ix0, v_ix1, v_ix2, v_ix3, v_fs, v_fi, v_fb, v_fn, v_ft, v_f0, v_fc, startR, List.map_cons, List.map_nil, List.length_cons, List.length_nil, List.replicate, List.cons_append, List.nil_append, List.set_cons_zero, List.set_cons_succ, Option.some.injEq, exists_eq_left', Nat.reduceAdd, Nat.reduceSub, Nat.sub_zero, Nat.sub_self, Nat.zero_add, Nat.reduceEqDiff, Bool.not_true, Bool.not_false, if_true, if_false, Bool.and_self, Bool.true_and, Bool.and_true, Bool.false_eq_true, ↓reduceIte, true_and, and_true, decide_true, decide_false, wipeR]
    exact q (.same t u) _ ⟨tok t ht, tok u hu⟩ rfl
  simp only [e0, ok_V0, ok_Vs, ok_K, ok_B, ok_U, ok_nil, ok_cons, ok_N, ok_aN, ok_call, ok_nl, ok_fl, ok_afl, ok_T, ok_qNot, ok_qAnd, ok_qOr, ok_and, ok_or, ok_not, ok_if, ok_Sl, ok_oNo, ok_oOf, ok_Ch, ok_it, ok_itA, ok_yes, v_addI, v_sub, v_neg, v_eqI, v_eqS, v_eqB, v_eq0, v_eqT0, v_neI, v_neS, v_neB, v_ne0, v_neT0, v_ltI, v_leI, v_gtI, v_geI, v_is, v_isNot, v_nn, v_ns, v_ni, v_nl, v_nt, v_tb, v_tl, v_tt, v_tn, v_ti, v_asB, v_asI, v_asL, v_asT, v_asS, v_lenL, v_lenT, v_tupL, v_tupT, v_listL, v_listT, v_intB, v_tup0, v_tup1, v_tup2, v_tup3, v_tup4, v_tup5, v_lst0, v_lst1, v_lst2, v_lst3, v_lst4, v_lst5, v_ok0, v_ok1, v_ok2, v_ix0L, v_ix0, v_ix1, v_ix2, v_ix3, v_fs, v_fi, v_fb, v_fn, v_ft, v_f0, v_fc, startR, List.map_cons, List.map_nil, List.length_cons, List.length_nil, List.replicate, List.cons_append, List.nil_append, List.set_cons_zero, List.set_cons_succ, Option.some.injEq, exists_eq_left', Nat.reduceAdd, Nat.reduceSub, Nat.sub_zero, Nat.sub_self, Nat.zero_add, Nat.reduceEqDiff, Bool.not_true, Bool.not_false, if_true, if_false, Bool.and_self, Bool.true_and, Bool.and_true, Bool.false_eq_true, ↓reduceIte, true_and, and_true, decide_true, decide_false, wipeR]
  refine k_nx (k_seq (k_sIf ?_))
  simp only [ok_V0, ok_Vs, ok_K, ok_B, ok_U, ok_nil, ok_cons, ok_N, ok_aN, ok_call, ok_nl, ok_fl, ok_afl, ok_T, ok_qNot, ok_qAnd, ok_qOr, ok_and, ok_or, ok_not, ok_if, ok_Sl, ok_oNo, ok_oOf, ok_Ch, ok_it, ok_itA, ok_yes, v_addI, v_sub, v_neg, v_eqI, v_eqS, v_eqB, v_eq0, v_eqT0, v_neI, v_neS, v_neB, v_ne0, v_neT0, v_ltI, v_leI, v_gtI, v_geI, v_is, v_isNot, v_nn, v_ns, v_ni, v_nl, v_nt, v_tb, v_tl, v_tt, v_tn, v_ti, v_asB, v_asI, v_asL, v_asT, v_asS, v_lenL, v_lenT, v_tupL, v_tupT, v_listL, v_listT, v_intB, v_tup0, v_tup1, v_tup2, v_tup3, v_tup4, v_tup5, v_lst0, v_lst1, v_lst2, v_lst3, v_lst4, v_lst5, v_ok0, v_ok1, v_ok2, v_ix0L, v_ix0, v_ix1, v_ix2, v_ix3, v_fs, v_fi, v_fb, v_fn, v_ft, v_f0, v_fc, startR, List.map_cons, List.map_nil, List.length_cons, List.length_nil, List.replicate, List.cons_append, List.nil_append, List.set_cons_zero, List.set_cons_succ, Option.some.injEq, exists_eq_left', Nat.reduceAdd, Nat.reduceSub, Nat.sub_zero, Nat.sub_self, Nat.zero_add, Nat.reduceEqDiff, Bool.not_true, Bool.not_false, if_true, if_false, Bool.and_self, Bool.true_and, Bool.and_true, Bool.false_eq_true, ↓reduceIte, true_and, and_true, decide_true, decide_false, wipeR]
  by_cases e1 : y = 1
  · simp only [e1, ok_V0, ok_Vs, ok_K, ok_B, ok_U, ok_nil, ok_cons, ok_N, ok_aN, ok_call, ok_nl, ok_fl, ok_afl, ok_T, ok_qNot, ok_qAnd, ok_qOr, ok_and, ok_or, ok_not, ok_if, ok_Sl, ok_oNo, ok_oOf, ok_Ch, ok_it, ok_itA, ok_yes, v_addI, v_sub, v_neg, v_eqI, v_eqS, v_eqB, v_eq0, v_eqT0, v_neI, v_neS, v_neB, v_ne0, v_neT0, v_ltI, v_leI, v_gtI, v_geI, v_is, v_isNot, v_nn, v_ns, v_ni, v_nl, v_nt, v_tb, v_tl, v_tt, v_tn, v_ti, v_asB, v_asI, v_asL, v_asT, v_asS, v_lenL, v_lenT, v_tupL, v_tupT, v_listL, v_listT, v_intB, v_tup0, v_tup1, v_tup2, v_tup3, v_tup4, v_tup5, v_lst0, v_lst1, v_lst2, v_lst3, v_lst4, v_lst5, v_ok0, v_ok1, v_ok2, v_ix0L, v_ix0, v_ix1, v_ix2, v_ix3, v_fs, v_fi, v_fb, v_fn, v_ft, v_f0, v_fc, startR, List.map_cons, List.map_nil, List.length_cons, List.length_nil, List.replicate, List.cons_append, List.nil_append, List.set_cons_zero, List.set_cons_succ, Option.some.injEq, exists_eq_left', Nat.reduceAdd, Nat.reduceSub, Nat.sub_zero, Nat.sub_self, Nat.zero_add, Nat.reduceEqDiff, Bool.not_true, Bool.not_false, if_true, if_false, Bool.and_self, Bool.true_and, Bool.and_true, Bool.false_eq_true, ↓reduceIte, true_and, and_true, decide_true, decide_false, wipeR]
    refine k_ret ?_
    simp only [ok_V0, ok_Vs, ok_K, ok_B, ok_U, ok_nil, ok_cons, ok_N, ok_aN, ok_call, ok_nl, ok_fl, ok_afl, ok_T, ok_qNot, ok_qAnd, ok_qOr, ok_and, ok_or, ok_not, ok_if, ok_Sl, ok_oNo, ok_oOf, ok_Ch, ok_it, ok_itA, ok_yes, v_addI, v_sub, v_neg, v_eqI, v_eqS, v_eqB, v_eq0, v_eqT0, v_neI, v_neS, v_neB, v_ne0, v_neT0, v_ltI, v_leI, v_gtI, v_geI, v_is, v_isNot, v_nn, v_ns, v_ni, v_nl, v_nt, v_tb, v_tl, v_tt, v_tn, v_ti, v_asB, v_asI, v_asL, v_asT, v_asS, v_lenL, v_lenT, v_tupL, v_tupT, v_listL, v_listT, v_intB, v_tup0, v_tup1, v_tup2, v_tup3, v_tup4, v_tup5, v_lst0, v_lst1, v_lst2, v_lst3, v_lst4, v_lst5, v_ok0, v_ok1, v_ok2, v_ix0L, v_ix0, v_ix1, v_ix2, v_ix3, v_fs, v_fi, v_fb, v_fn, v_ft, v_f0, v_fc, startR, List.map_cons, List.map_nil, List.length_cons, List.length_nil, List.replicate, List.cons_append, List.nil_append, List.set_cons_zero, List.set_cons_succ, Option.some.injEq, exists_eq_left', Nat.reduceAdd, Nat.reduceSub, Nat.sub_zero, Nat.sub_self, Nat.zero_add, Nat.reduceEqDiff, Bool.not_true, Bool.not_false, if_true, if_false, Bool.and_self, Bool.true_and, Bool.and_true, Bool.false_eq_true, ↓reduceIte, true_and, and_true, decide_true, decide_false, wipeR]
    refine ok_sum9 v.kl fun a s4 ha => ?_
    refine ok_sum9 v.kl fun b s5 hb => ?_
    exact q (.least a b) _ ⟨fun p hp => (v.k _ (ha p hp)).sok, fun p hp => (v.k _ (hb p hp)).sok⟩ rfl
  simp only [e1, ok_V0, ok_Vs, ok_K, ok_B, ok_U, ok_nil, ok_cons, ok_N, ok_aN, ok_call, ok_nl, ok_fl, ok_afl, ok_T, ok_qNot, ok_qAnd, ok_qOr, ok_and, ok_or, ok_not, ok_if, ok_Sl, ok_oNo, ok_oOf, ok_Ch, ok_it, ok_itA, ok_yes, v_addI, v_sub, v_neg, v_eqI, v_eqS, v_eqB, v_eq0, v_eqT0, v_neI, v_neS, v_neB, v_ne0, v_neT0, v_ltI, v_leI, v_gtI, v_geI, v_is, v_isNot, v_nn, v_ns, v_ni, v_nl, v_nt, v_tb, v_tl, v_tt, v_tn, v_ti, v_asB, v_asI, v_asL, v_asT, v_asS, v_lenL, v_lenT, v_tupL, v_tupT, v_listL, v_listT, v_intB, v_tup0, v_tup1, v_tup2, v_tup3, v_tup4, v_tup5, v_lst0, v_lst1, v_lst2, v_lst3, v_lst4, v_lst5, v_ok0, v_ok1, v_ok2, v_ix0L, v_ix0, v_ix1, v_ix2, v_ix3, v_fs, v_fi, v_fb, v_fn, v_ft, v_f0, v_fc, startR, List.map_cons, List.map_nil, List.length_cons, List.length_nil, List.replicate, List.cons_append, List.nil_append, List.set_cons_zero, List.set_cons_succ, Option.some.injEq, exists_eq_left', Nat.reduceAdd, Nat.reduceSub, Nat.sub_zero, Nat.sub_self, Nat.zero_add, Nat.reduceEqDiff, Bool.not_true, Bool.not_false, if_true, if_false, Bool.and_self, Bool.true_and, Bool.and_true, Bool.false_eq_true, ↓reduceIte, true_and, and_true, decide_true, decide_false, wipeR]
  refine k_nx (k_seq (k_sIf ?_))
  simp only [ok_V0, ok_Vs, ok_K, ok_B, ok_U, ok_nil, ok_cons, ok_N, ok_aN, ok_call, ok_nl, ok_fl, ok_afl, ok_T, ok_qNot, ok_qAnd, ok_qOr, ok_and, ok_or, ok_not, ok_if, ok_Sl, ok_oNo, ok_oOf, ok_Ch, ok_it, ok_itA, ok_yes, v_addI, v_sub, v_neg, v_eqI, v_eqS, v_eqB, v_eq0, v_eqT0, v_neI, v_neS, v_neB, v_ne0, v_neT0, v_ltI, v_leI, v_gtI, v_geI, v_is, v_isNot, v_nn, v_ns, v_ni, v_nl, v_nt, v_tb, v_tl, v_tt, v_tn, v_ti, v_asB, v_asI, v_asL, v_asT, v_asS, v_lenL, v_lenT, v_tupL, v_tupT, v_listL, v_listT, v_intB, v_tup0, v_tup1, v_tup2, v_tup3, v_tup4, v_tup5, v_lst0, v_lst1, v_lst2, v_lst3, v_lst4, v_lst5, v_ok0, v_ok1, v_ok2, v_ix0L, v_ix0, v_ix1, v_ix2, v_ix3, v_fs, v_fi, v_fb, v_fn, v_ft, v_f0, v_fc, startR, List.map_cons, List.map_nil, List.length_cons, List.length_nil, List.replicate, List.cons_append, List.nil_append, List.set_cons_zero, List.set_cons_succ, Option.some.injEq, exists_eq_left', Nat.reduceAdd, Nat.reduceSub, Nat.sub_zero, Nat.sub_self, Nat.zero_add, Nat.reduceEqDiff, Bool.not_true, Bool.not_false, if_true, if_false, Bool.and_self, Bool.true_and, Bool.and_true, Bool.false_eq_true, ↓reduceIte, true_and, and_true, decide_true, decide_false, wipeR]
  have last : ∀ s, Ok (sSeq (sIf (qAnd (qT (cB pLt (cVar 9) (cK (.int 5)))) (qT (cB pNe (cVar 5) (cN pTup aNil))))
      (sRet (cN pTup (aCons (cK (.str (Str.ofString "does"))) (aCons (cB pIx (cVar 5) (cCall 2 Fdraw9 (aCons (cVar 0) (aCons (cN pLen (aCons (cVar 5) aNil)) aNil)))) (aCons (cVar 7) (aCons (cVar 8) aNil))))))
      sNx)
      (sRet (cN pTup (aCons (cK (.str (Str.ofString "is"))) (aCons (cVar 7) (aCons (cB pIx (cVar 4) (cCall 2 Fdraw9 (aCons (cVar 0) (aCons (cN pLen (aCons (cVar 4) aNil)) aNil)))) aNil)))))
      [some (hnd 0), some (vcD ns ks es), some (.list (L.map .str)), some (.tuple (ns.map .str)), some (.tuple (ks.map .str)), some (.tuple (es.map .str)), some (.list (T.map .str)), some (.str t), some (.str u), some (.int y)] s) fun r s => match r with | .rt d => Q d s | .nx _ => Q .none s | _ => False := fun s => by
    have fin : ∀ s, Ok (sRet (cN pTup (aCons (cK (.str (Str.ofString "is"))) (aCons (cVar 7) (aCons (cB pIx (cVar 4) (cCall 2 Fdraw9 (aCons (cVar 0) (aCons (cN pLen (aCons (cVar 4) aNil)) aNil)))) aNil)))) [some (hnd 0), some (vcD ns ks es), some (.list (L.map .str)), some (.tuple (ns.map .str)), some (.tuple (ks.map .str)), some (.tuple (es.map .str)), some (.list (T.map .str)), some (.str t), some (.str u), some (.int y)] s) fun r s => match r with | .rt d => Q d s | .nx _ => Q .none s | _ => False := fun s => by
      refine k_ret ?_
      simp only [ok_V0, ok_Vs, ok_K, ok_B, ok_U, ok_nil, ok_cons, ok_N, ok_aN, ok_call, ok_nl, ok_fl, ok_afl, ok_T, ok_qNot, ok_qAnd, ok_qOr, ok_and, ok_or, ok_not, ok_if, ok_Sl, ok_oNo, ok_oOf, ok_Ch, ok_it, ok_itA, ok_yes, v_addI, v_sub, v_neg, v_eqI, v_eqS, v_eqB, v_eq0, v_eqT0, v_neI, v_neS, v_neB, v_ne0, v_neT0, v_ltI, v_leI, v_gtI, v_geI, v_is, v_isNot, v_nn, v_ns, v_ni, v_nl, v_nt, v_tb, v_tl, v_tt, v_tn, v_ti, v_asB, v_asI, v_asL, v_asT, v_asS, v_lenL, v_lenT, v_tupL, v_tupT, v_listL, v_listT, v_intB, v_tup0, v_tup1, v_tup2, v_tup3, v_tup4, v_tup5, v_lst0, v_lst1, v_lst2, v_lst3, v_lst4, v_lst5, v_ok0, v_ok1, v_ok2, v_ix0L, v_ix0, v_ix1, v_ix2, v_ix3, v_fs, v_fi, v_fb, v_fn, v_ft, v_f0, v_fc, startR, List.map_cons, List.map_nil, List.length_cons, List.length_nil, List.replicate, List.cons_append, List.nil_append, List.set_cons_zero, List.set_cons_succ, Option.some.injEq, exists_eq_left', Nat.reduceAdd, Nat.reduceSub, Nat.sub_zero, Nat.sub_self, Nat.zero_add, Nat.reduceEqDiff, Bool.not_true, Bool.not_false, if_true, if_false, Bool.and_self, Bool.true_and, Bool.and_true, Bool.false_eq_true, ↓reduceIte, true_and, and_true, decide_true, decide_false, wipeR, List.length_map]
      refine k_draw9 (by omega) (by omega) fun r s2 r0 r1 => ?_
      obtain ⟨k, hk, ek⟩ := pick9T (xs := ks) r0 (by omega)
      refine ⟨_, ek, ?_⟩
      exact q (.is t k) _ ⟨tok t ht, (v.k k hk).sok, v.kf k hk⟩ rfl
    refine k_seq (k_sIf ?_)
    simp only [ok_V0, ok_Vs, ok_K, ok_B, ok_U, ok_nil, ok_cons, ok_N, ok_aN, ok_call, ok_nl, ok_fl, ok_afl, ok_T, ok_qNot, ok_qAnd, ok_qOr, ok_and, ok_or, ok_not, ok_if, ok_Sl, ok_oNo, ok_oOf, ok_Ch, ok_it, ok_itA, ok_yes, v_addI, v_sub, v_neg, v_eqI, v_eqS, v_eqB, v_eq0, v_eqT0, v_neI, v_neS, v_neB, v_ne0, v_neT0, v_ltI, v_leI, v_gtI, v_geI, v_is, v_isNot, v_nn, v_ns, v_ni, v_nl, v_nt, v_tb, v_tl, v_tt, v_tn, v_ti, v_asB, v_asI, v_asL, v_asT, v_asS, v_lenL, v_lenT, v_tupL, v_tupT, v_listL, v_listT, v_intB, v_tup0, v_tup1, v_tup2, v_tup3, v_tup4, v_tup5, v_lst0, v_lst1, v_lst2, v_lst3, v_lst4, v_lst5, v_ok0, v_ok1, v_ok2, v_ix0L, v_ix0, v_ix1, v_ix2, v_ix3, v_fs, v_fi, v_fb, v_fn, v_ft, v_f0, v_fc, startR, List.map_cons, List.map_nil, List.length_cons, List.length_nil, List.replicate, List.cons_append, List.nil_append, List.set_cons_zero, List.set_cons_succ, Option.some.injEq, exists_eq_left', Nat.reduceAdd, Nat.reduceSub, Nat.sub_zero, Nat.sub_self, Nat.zero_add, Nat.reduceEqDiff, Bool.not_true, Bool.not_false, if_true, if_false, Bool.and_self, Bool.true_and, Bool.and_true, Bool.false_eq_true, ↓reduceIte, true_and, and_true, decide_true, decide_false, wipeR]
    by_cases e5 : y < 5
    · simp only [e5, ok_V0, ok_Vs, ok_K, ok_B, ok_U, ok_nil, ok_cons, ok_N, ok_aN, ok_call, ok_nl, ok_fl, ok_afl, ok_T, ok_qNot, ok_qAnd, ok_qOr, ok_and, ok_or, ok_not, ok_if, ok_Sl, ok_oNo, ok_oOf, ok_Ch, ok_it, ok_itA, ok_yes, v_addI, v_sub, v_neg, v_eqI, v_eqS, v_eqB, v_eq0, v_eqT0, v_neI, v_neS, v_neB, v_ne0, v_neT0, v_ltI, v_leI, v_gtI, v_geI, v_is, v_isNot, v_nn, v_ns, v_ni, v_nl, v_nt, v_tb, v_tl, v_tt, v_tn, v_ti, v_asB, v_asI, v_asL, v_asT, v_asS, v_lenL, v_lenT, v_tupL, v_tupT, v_listL, v_listT, v_intB, v_tup0, v_tup1, v_tup2, v_tup3, v_tup4, v_tup5, v_lst0, v_lst1, v_lst2, v_lst3, v_lst4, v_lst5, v_ok0, v_ok1, v_ok2, v_ix0L, v_ix0, v_ix1, v_ix2, v_ix3, v_fs, v_fi, v_fb, v_fn, v_ft, v_f0, v_fc, startR, List.map_cons, List.map_nil, List.length_cons, List.length_nil, List.replicate, List.cons_append, List.nil_append, List.set_cons_zero, List.set_cons_succ, Option.some.injEq, exists_eq_left', Nat.reduceAdd, Nat.reduceSub, Nat.sub_zero, Nat.sub_self, Nat.zero_add, Nat.reduceEqDiff, Bool.not_true, Bool.not_false, if_true, if_false, Bool.and_self, Bool.true_and, Bool.and_true, Bool.false_eq_true, ↓reduceIte, true_and, and_true, decide_true, decide_false, wipeR]
      by_cases e6 : es = []
      · subst e6
        simp only [ok_V0, ok_Vs, ok_K, ok_B, ok_U, ok_nil, ok_cons, ok_N, ok_aN, ok_call, ok_nl, ok_fl, ok_afl, ok_T, ok_qNot, ok_qAnd, ok_qOr, ok_and, ok_or, ok_not, ok_if, ok_Sl, ok_oNo, ok_oOf, ok_Ch, ok_it, ok_itA, ok_yes, v_addI, v_sub, v_neg, v_eqI, v_eqS, v_eqB, v_eq0, v_eqT0, v_neI, v_neS, v_neB, v_ne0, v_neT0, v_ltI, v_leI, v_gtI, v_geI, v_is, v_isNot, v_nn, v_ns, v_ni, v_nl, v_nt, v_tb, v_tl, v_tt, v_tn, v_ti, v_asB, v_asI, v_asL, v_asT, v_asS, v_lenL, v_lenT, v_tupL, v_tupT, v_listL, v_listT, v_intB, v_tup0, v_tup1, v_tup2, v_tup3, v_tup4, v_tup5, v_lst0, v_lst1, v_lst2, v_lst3, v_lst4, v_lst5, v_ok0, v_ok1, v_ok2, v_ix0L, v_ix0, v_ix1, v_ix2, v_ix3, v_fs, v_fi, v_fb, v_fn, v_ft, v_f0, v_fc, startR, List.map_cons, List.map_nil, List.length_cons, List.length_nil, List.replicate, List.cons_append, List.nil_append, List.set_cons_zero, List.set_cons_succ, Option.some.injEq, exists_eq_left', Nat.reduceAdd, Nat.reduceSub, Nat.sub_zero, Nat.sub_self, Nat.zero_add, Nat.reduceEqDiff, Bool.not_true, Bool.not_false, if_true, if_false, Bool.and_self, Bool.true_and, Bool.and_true, Bool.false_eq_true, ↓reduceIte, true_and, and_true, decide_true, decide_false, wipeR, List.isEmpty_nil]
        exact k_nx (fin s)
      · have el1 := List.length_pos_iff.mpr e6
        rw [show (es.map PyData.str).isEmpty = false from by cases es with | nil => exact absurd rfl e6 | cons _ _ => rfl]
        simp only [ok_V0, ok_Vs, ok_K, ok_B, ok_U, ok_nil, ok_cons, ok_N, ok_aN, ok_call, ok_nl, ok_fl, ok_afl, ok_T, ok_qNot, ok_qAnd, ok_qOr, ok_and, ok_or, ok_not, ok_if, ok_Sl, ok_oNo, ok_oOf, ok_Ch, ok_it, ok_itA, ok_yes, v_addI, v_sub, v_neg, v_eqI, v_eqS, v_eqB, v_eq0, v_eqT0, v_neI, v_neS, v_neB, v_ne0, v_neT0, v_ltI, v_leI, v_gtI, v_geI, v_is, v_isNot, v_nn, v_ns, v_ni, v_nl, v_nt, v_tb, v_tl, v_tt, v_tn, v_ti, v_asB, v_asI, v_asL, v_asT, v_asS, v_lenL, v_lenT, v_tupL, v_tupT, v_listL, v_listT, v_intB, v_tup0, v_tup1, v_tup2, v_tup3, v_tup4, v_tup5, v_lst0, v_lst1, v_lst2, v_lst3, v_lst4, v_lst5, v_ok0, v_ok1, v_ok2, v_ix0L, v_ix0, v_ix1, v_ix2, v_ix3, v_fs, v_fi, v_fb, v_fn, v_ft, v_f0, v_fc, startR, List.map_cons, List.map_nil, List.length_cons, List.length_nil, List.replicate, List.cons_append, List.nil_append, List.set_cons_zero, List.set_cons_succ, Option.some.injEq, exists_eq_left', Nat.reduceAdd, Nat.reduceSub, Nat.sub_zero, Nat.sub_self, Nat.zero_add, Nat.reduceEqDiff, Bool.not_true, Bool.not_false, if_true, if_false, Bool.and_self, Bool.true_and, Bool.and_true, Bool.false_eq_true, ↓reduceIte, true_and, and_true, decide_true, decide_false, wipeR]
        refine k_ret ?_
        simp only [ok_V0, ok_Vs, ok_K, ok_B, ok_U, ok_nil, ok_cons, ok_N, ok_aN, ok_call, ok_nl, ok_fl, ok_afl, ok_T, ok_qNot, ok_qAnd, ok_qOr, ok_and, ok_or, ok_not, ok_if, ok_Sl, ok_oNo, ok_oOf, ok_Ch, ok_it, ok_itA, ok_yes, v_addI, v_sub, v_neg, v_eqI, v_eqS, v_eqB, v_eq0, v_eqT0, v_neI, v_neS, v_neB, v_ne0, v_neT0, v_ltI, v_leI, v_gtI, v_geI, v_is, v_isNot, v_nn, v_ns, v_ni, v_nl, v_nt, v_tb, v_tl, v_tt, v_tn, v_ti, v_asB, v_asI, v_asL, v_asT, v_asS, v_lenL, v_lenT, v_tupL, v_tupT, v_listL, v_listT, v_intB, v_tup0, v_tup1, v_tup2, v_tup3, v_tup4, v_tup5, v_lst0, v_lst1, v_lst2, v_lst3, v_lst4, v_lst5, v_ok0, v_ok1, v_ok2, v_ix0L, v_ix0, v_ix1, v_ix2, v_ix3, v_fs, v_fi, v_fb, v_fn, v_ft, v_f0, v_fc, startR, List.map_cons, List.map_nil, List.length_cons, List.length_nil, List.replicate, List.cons_append, List.nil_append, List.set_cons_zero, List.set_cons_succ, Option.some.injEq, exists_eq_left', Nat.reduceAdd, Nat.reduceSub, Nat.sub_zero, Nat.sub_self, Nat.zero_add, Nat.reduceEqDiff, Bool.not_true, Bool.not_false, if_true, if_false, Bool.and_self, Bool.true_and, Bool.and_true, Bool.false_eq_true, ↓reduceIte, true_and, and_true, decide_true, decide_false, wipeR, List.length_map]
        refine k_draw9 (by omega) (by omega) fun r s2 r0 r1 => ?_
        obtain ⟨k, hk, ek⟩ := pick9T (xs := es) r0 (by omega)
        refine ⟨_, ek, ?_⟩
        exact q (.does k t u) _ ⟨(v.e k hk).sok, tok t ht, tok u hu, v.ef k hk⟩ rfl
    · simp only [e5, ok_V0, ok_Vs, ok_K, ok_B, ok_U, ok_nil, ok_cons, ok_N, ok_aN, ok_call, ok_nl, ok_fl, ok_afl, ok_T, ok_qNot, ok_qAnd, ok_qOr, ok_and, ok_or, ok_not, ok_if, ok_Sl, ok_oNo, ok_oOf, ok_Ch, ok_it, ok_itA, ok_yes, v_addI, v_sub, v_neg, v_eqI, v_eqS, v_eqB, v_eq0, v_eqT0, v_neI, v_neS, v_neB, v_ne0, v_neT0, v_ltI, v_leI, v_gtI, v_geI, v_is, v_isNot, v_nn, v_ns, v_ni, v_nl, v_nt, v_tb, v_tl, v_tt, v_tn, v_ti, v_asB, v_asI, v_asL, v_asT, v_asS, v_lenL, v_lenT, v_tupL, v_tupT, v_listL, v_listT, v_intB, v_tup0, v_tup1, v_tup2, v_tup3, v_tup4, v_tup5, v_lst0, v_lst1, v_lst2, v_lst3, v_lst4, v_lst5, v_ok0, v_ok1, v_ok2, v_ix0L, v_ix0, v_ix1, v_ix2, v_ix3, v_fs, v_fi, v_fb, v_fn, v_ft, v_f0, v_fc, startR, List.map_cons, List.map_nil, List.length_cons, List.length_nil, List.replicate, List.cons_append, List.nil_append, List.set_cons_zero, List.set_cons_succ, Option.some.injEq, exists_eq_left', Nat.reduceAdd, Nat.reduceSub, Nat.sub_zero, Nat.sub_self, Nat.zero_add, Nat.reduceEqDiff, Bool.not_true, Bool.not_false, if_true, if_false, Bool.and_self, Bool.true_and, Bool.and_true, Bool.false_eq_true, ↓reduceIte, true_and, and_true, decide_true, decide_false, wipeR]
      exact k_nx (fin s)
  by_cases e2 : y = 2
  · simp only [e2, ok_V0, ok_Vs, ok_K, ok_B, ok_U, ok_nil, ok_cons, ok_N, ok_aN, ok_call, ok_nl, ok_fl, ok_afl, ok_T, ok_qNot, ok_qAnd, ok_qOr, ok_and, ok_or, ok_not, ok_if, ok_Sl, ok_oNo, ok_oOf, ok_Ch, ok_it, ok_itA, ok_yes, v_addI, v_sub, v_neg, v_eqI, v_eqS, v_eqB, v_eq0, v_eqT0, v_neI, v_neS, v_neB, v_ne0, v_neT0, v_ltI, v_leI, v_gtI, v_geI, v_is, v_isNot, v_nn, v_ns, v_ni, v_nl, v_nt, v_tb, v_tl, v_tt, v_tn, v_ti, v_asB, v_asI, v_asL, v_asT, v_asS, v_lenL, v_lenT, v_tupL, v_tupT, v_listL, v_listT, v_intB, v_tup0, v_tup1, v_tup2, v_tup3, v_tup4, v_tup5, v_lst0, v_lst1, v_lst2, v_lst3, v_lst4, v_lst5, v_ok0, v_ok1, v_ok2, v_ix0L, v_ix0, v_ix1, v_ix2, v_ix3, v_fs, v_fi, v_fb, v_fn, v_ft, v_f0, v_fc, startR, List.map_cons, List.map_nil, List.length_cons, List.length_nil, List.replicate, List.cons_append, List.nil_append, List.set_cons_zero, List.set_cons_succ, Option.some.injEq, exists_eq_left', Nat.reduceAdd, Nat.reduceSub, Nat.sub_zero, Nat.sub_self, Nat.zero_add, Nat.reduceEqDiff, Bool.not_true, Bool.not_false, if_true, if_false, Bool.and_self, Bool.true_and, Bool.and_true, Bool.false_eq_true, ↓reduceIte, true_and, and_true, decide_true, decide_false, wipeR]
    by_cases e3 : L = []
    · subst e3
      simp only [ok_V0, ok_Vs, ok_K, ok_B, ok_U, ok_nil, ok_cons, ok_N, ok_aN, ok_call, ok_nl, ok_fl, ok_afl, ok_T, ok_qNot, ok_qAnd, ok_qOr, ok_and, ok_or, ok_not, ok_if, ok_Sl, ok_oNo, ok_oOf, ok_Ch, ok_it, ok_itA, ok_yes, v_addI, v_sub, v_neg, v_eqI, v_eqS, v_eqB, v_eq0, v_eqT0, v_neI, v_neS, v_neB, v_ne0, v_neT0, v_ltI, v_leI, v_gtI, v_geI, v_is, v_isNot, v_nn, v_ns, v_ni, v_nl, v_nt, v_tb, v_tl, v_tt, v_tn, v_ti, v_asB, v_asI, v_asL, v_asT, v_asS, v_lenL, v_lenT, v_tupL, v_tupT, v_listL, v_listT, v_intB, v_tup0, v_tup1, v_tup2, v_tup3, v_tup4, v_tup5, v_lst0, v_lst1, v_lst2, v_lst3, v_lst4, v_lst5, v_ok0, v_ok1, v_ok2, v_ix0L, v_ix0, v_ix1, v_ix2, v_ix3, v_fs, v_fi, v_fb, v_fn, v_ft, v_f0, v_fc, startR, List.map_cons, List.map_nil, List.length_cons, List.length_nil, List.replicate, List.cons_append, List.nil_append, List.set_cons_zero, List.set_cons_succ, Option.some.injEq, exists_eq_left', Nat.reduceAdd, Nat.reduceSub, Nat.sub_zero, Nat.sub_self, Nat.zero_add, Nat.reduceEqDiff, Bool.not_true, Bool.not_false, if_true, if_false, Bool.and_self, Bool.true_and, Bool.and_true, Bool.false_eq_true, ↓reduceIte, true_and, and_true, decide_true, decide_false, wipeR, List.isEmpty_nil]
      refine k_ret ?_
      simp only [ok_V0, ok_Vs, ok_K, ok_B, ok_U, ok_nil, ok_cons, ok_N, ok_aN, ok_call, ok_nl, ok_fl, ok_afl, ok_T, ok_qNot, ok_qAnd, ok_qOr, ok_and, ok_or, ok_not, ok_if, ok_Sl, ok_oNo, ok_oOf, ok_Ch, ok_it, ok_itA, ok_yes, v_addI, v_sub, v_neg, v_eqI, v_eqS, v_eqB, v_eq0, v_eqT0, v_neI, v_neS, v_neB, v_ne0, v_neT0, v_ltI, v_leI, v_gtI, v_geI, v_is, v_isNot, v_nn, v_ns, v_ni, v_nl, v_nt, v_tb, v_tl, v_tt, v_tn, v_ti, v_asB, v_asI, v_asL, v_asT, v_asS, v_lenL, v_lenT, v_tupL, v_tupT, v_listL, v_listT, v_intB, v_tup0, v_tup1, v_tup2, v_tup3, v_tup4, v_tup5, v_lst0, v_lst1, v_lst2, v_lst3, v_lst4, v_lst5, v_ok0, v_ok1, v_ok2, v_ix0L, v_ix0, v_ix1, v_ix2, v_ix3, v_fs, v_fi, v_fb, v_fn, v_ft, v_f0, v_fc, startR, List.map_cons, List.map_nil, List.length_cons, List.length_nil, List.replicate, List.cons_append, List.nil_append, List.set_cons_zero, List.set_cons_succ, Option.some.injEq, exists_eq_left', Nat.reduceAdd, Nat.reduceSub, Nat.sub_zero, Nat.sub_self, Nat.zero_add, Nat.reduceEqDiff, Bool.not_true, Bool.not_false, if_true, if_false, Bool.and_self, Bool.true_and, Bool.and_true, Bool.false_eq_true, ↓reduceIte, true_and, and_true, decide_true, decide_false, wipeR]
      exact q .fals _ trivial rfl
    · rw [show (L.map PyData.str).isEmpty = false from by cases L with | nil => exact absurd rfl e3 | cons _ _ => rfl]
      simp only [ok_V0, ok_Vs, ok_K, ok_B, ok_U, ok_nil, ok_cons, ok_N, ok_aN, ok_call, ok_nl, ok_fl, ok_afl, ok_T, ok_qNot, ok_qAnd, ok_qOr, ok_and, ok_or, ok_not, ok_if, ok_Sl, ok_oNo, ok_oOf, ok_Ch, ok_it, ok_itA, ok_yes, v_addI, v_sub, v_neg, v_eqI, v_eqS, v_eqB, v_eq0, v_eqT0, v_neI, v_neS, v_neB, v_ne0, v_neT0, v_ltI, v_leI, v_gtI, v_geI, v_is, v_isNot, v_nn, v_ns, v_ni, v_nl, v_nt, v_tb, v_tl, v_tt, v_tn, v_ti, v_asB, v_asI, v_asL, v_asT, v_asS, v_lenL, v_lenT, v_tupL, v_tupT, v_listL, v_listT, v_intB, v_tup0, v_tup1, v_tup2, v_tup3, v_tup4, v_tup5, v_lst0, v_lst1, v_lst2, v_lst3, v_lst4, v_lst5, v_ok0, v_ok1, v_ok2, v_ix0L, v_ix0, v_ix1, v_ix2, v_ix3, v_fs, v_fi, v_fb, v_fn, v_ft, v_f0, v_fc, startR, List.map_cons, List.map_nil, List.length_cons, List.length_nil, List.replicate, List.cons_append, List.nil_append, List.set_cons_zero, List.set_cons_succ, Option.some.injEq, exists_eq_left', Nat.reduceAdd, Nat.reduceSub, Nat.sub_zero, Nat.sub_self, Nat.zero_add, Nat.reduceEqDiff, Bool.not_true, Bool.not_false, if_true, if_false, Bool.and_self, Bool.true_and, Bool.and_true, Bool.false_eq_true, ↓reduceIte, true_and, and_true, decide_true, decide_false, wipeR]
      subst e2
      exact k_nx (last _)
  · simp only [e2, ok_V0, ok_Vs, ok_K, ok_B, ok_U, ok_nil, ok_cons, ok_N, ok_aN, ok_call, ok_nl, ok_fl, ok_afl, ok_T, ok_qNot, ok_qAnd, ok_qOr, ok_and, ok_or, ok_not, ok_if, ok_Sl, ok_oNo, ok_oOf, ok_Ch, ok_it, ok_itA, ok_yes, v_addI, v_sub, v_neg, v_eqI, v_eqS, v_eqB, v_eq0, v_eqT0, v_neI, v_neS, v_neB, v_ne0, v_neT0, v_ltI, v_leI, v_gtI, v_geI, v_is, v_isNot, v_nn, v_ns, v_ni, v_nl, v_nt, v_tb, v_tl, v_tt, v_tn, v_ti, v_asB, v_asI, v_asL, v_asT, v_asS, v_lenL, v_lenT, v_tupL, v_tupT, v_listL, v_listT, v_intB, v_tup0, v_tup1, v_tup2, v_tup3, v_tup4, v_tup5, v_lst0, v_lst1, v_lst2, v_lst3, v_lst4, v_lst5, v_ok0, v_ok1, v_ok2, v_ix0L, v_ix0, v_ix1, v_ix2, v_ix3, v_fs, v_fi, v_fb, v_fn, v_ft, v_f0, v_fc, startR, List.map_cons, List.map_nil, List.length_cons, List.length_nil, List.replicate, List.cons_append, List.nil_append, List.set_cons_zero, List.set_cons_succ, Option.some.injEq, exists_eq_left', Nat.reduceAdd, Nat.reduceSub, Nat.sub_zero, Nat.sub_self, Nat.zero_add, Nat.reduceEqDiff, Bool.not_true, Bool.not_false, if_true, if_false, Bool.and_self, Bool.true_and, Bool.and_true, Bool.false_eq_true, ↓reduceIte, true_and, and_true, decide_true, decide_false, wipeR]
    exact k_nx (last _)
def Fform : Nat → Fn DS
  | 0 => fun _ _ => none
  | m + 1 => Lw30.K_w_form Fdraw9 Fatom (Fform m)
theorem pick_x {r : Int} (h0 : 0 ≤ r) (h1 : r < 5) : ∃ x : Str, (sok x ∧ x ∈ lets) ∧ pIx (.list [.str (Str.ofString "x"), .str (Str.ofString "y"), .str (Str.ofString "z"), .str (Str.ofString "u"), .str (Str.ofString "x1")]) (.int r) = some (.str x) := by
  have h : (([Str.ofString "x", Str.ofString "y", Str.ofString "z", Str.ofString "u", Str.ofString "x1"] : List Str).all fun x => PyData.strOk x) = true := by decide +kernel
  obtain ⟨x, hx, e⟩ := pick9 (xs := [Str.ofString "x", Str.ofString "y", Str.ofString "z", Str.ofString "u", Str.ofString "x1"]) h0 h1
  exact ⟨x, ⟨List.all_eq_true.mp h x hx, by simp only [lets, List.mem_cons, List.not_mem_nil, or_false] at hx ⊢; rcases hx with h | h | h | h | h <;> simp [h]⟩, e⟩
theorem pick_q {r : Int} (h0 : 0 ≤ r) (h1 : r < 2) : ∃ w : Qw, pIx (.list [.str (Str.ofString "every"), .str (Str.ofString "some")]) (.int r) = some (.str w.s) := by
  obtain rfl | rfl : r = 0 ∨ r = 1 := by omega
  · exact ⟨.every, v_ix0L⟩
  · exact ⟨.some, by simp only [pIx]; exact atI_nat (j := 1) rfl⟩
theorem pick_j {r : Int} (h0 : 0 ≤ r) (h1 : r < 4) : ∃ w : Jw, pIx (.list [.str (Str.ofString "and"), .str (Str.ofString "or"), .str (Str.ofString "if"), .str (Str.ofString "if")]) (.int r) = some (.str w.s) := by
  obtain rfl | rfl | rfl | rfl : r = 0 ∨ r = 1 ∨ r = 2 ∨ r = 3 := by omega
  · exact ⟨.and, v_ix0L⟩
  · exact ⟨.or, by simp only [pIx]; exact atI_nat (j := 1) rfl⟩
  · exact ⟨.if', by simp only [pIx]; exact atI_nat (j := 2) rfl⟩
  · exact ⟨.if', by simp only [pIx]; exact atI_nat (j := 3) rfl⟩
theorem ok_form {ns ks es : List Str} (v : Vc ns ks es) : ∀ (m p : Nat) (L : List Str) (s : DS) (Q : D → DS → Prop), p < m → (∀ x ∈ L, sok x) → L.length + p ≤ 20 → (∀ f s', Fo.ok f → f.dep ≤ p → Q f.d s') → Ok (Fform m [hnd 0, vcD ns ks es, .list (L.map .str), .int (p : Nat)] s) Q
  | 0, _, _, _, _, h, _, _, _ => absurd h (Nat.not_lt_zero _)
  | m + 1, p, L, s, Q, hm, hL, hl, q => by
    have ih := ok_form v m
    unfold Fform Lw30.K_w_form Lw30.B_w_form
    refine k_fn (k_seq (k_set ?_))
    simp only [ok_V0, ok_Vs, ok_K, ok_B, ok_U, ok_nil, ok_cons, ok_N, ok_aN, ok_call, ok_nl, ok_fl, ok_afl, ok_T, ok_qNot, ok_qAnd, ok_qOr, ok_and, ok_or, ok_not, ok_if, ok_Sl, ok_oNo, ok_oOf, ok_Ch, ok_it, ok_itA, ok_yes, v_addI, v_sub, v_neg, v_eqI, v_eqS, v_eqB, v_eq0, v_eqT0, v_neI, v_neS, v_neB, v_ne0, v_neT0, v_ltI, v_leI, v_gtI, v_geI, v_is, v_isNot, v_nn, v_ns, v_ni, v_nl, v_nt, v_tb, v_tl, v_tt, v_tn, v_ti, v_asB, v_asI, v_asL, v_asT, v_asS, v_lenL, v_lenT, v_tupL, v_tupT, v_listL, v_listT, v_intB, v_tup0, v_tup1, v_tup2, v_tup3, v_tup4, v_tup5, v_lst0, v_lst1, v_lst2, v_lst3, v_lst4, v_lst5, v_ok0, v_ok1, v_ok2, v_ix0L, v_ix0, v_ix1, v_ix2, v_ix3, v_fs, v_fi, v_fb, v_fn, v_ft, v_f0, v_fc, startR, List.map_cons, List.map_nil, List.length_cons, List.length_nil, List.replicate, List.cons_append, List.nil_append, List.set_cons_zero, List.set_cons_succ, Option.some.injEq, exists_eq_left', Nat.reduceAdd, Nat.reduceSub, Nat.sub_zero, Nat.sub_self, Nat.zero_add, Nat.reduceEqDiff, Bool.not_true, Bool.not_false, if_true, if_false, Bool.and_self, Bool.true_and, Bool.and_true, Bool.false_eq_true, ↓reduceIte, true_and, and_true, decide_true, decide_false, wipeR]
    refine k_draw9 (by omega) (by omega) fun y s1 y0 y1 => ?_
    have atom : ∀ {R : Rs → DS → Prop}, (∀ d s', Q d s' → R (.rt d) s') → Ok (sRet (cCall 3 Fatom (aCons (cVar 0) (aCons (cVar 1) (aCons (cVar 2) aNil)))) [some (hnd 0), some (vcD ns ks es), some (.list (L.map .str)), some (.int (p : Nat)), some (.int y), none, none, none] s1) R := fun hR => by
      refine k_ret ?_
      simp only [ok_V0, ok_Vs, ok_K, ok_B, ok_U, ok_nil, ok_cons, ok_N, ok_aN, ok_call, ok_nl, ok_fl, ok_afl, ok_T, ok_qNot, ok_qAnd, ok_qOr, ok_and, ok_or, ok_not, ok_if, ok_Sl, ok_oNo, ok_oOf, ok_Ch, ok_it, ok_itA, ok_yes, v_addI, v_sub, v_neg, v_eqI, v_eqS, v_eqB, v_eq0, v_eqT0, v_neI, v_neS, v_neB, v_ne0, v_neT0, v_ltI, v_leI, v_gtI, v_geI, v_is, v_isNot, v_nn, v_ns, v_ni, v_nl, v_nt, v_tb, v_tl, v_tt, v_tn, v_ti, v_asB, v_asI, v_asL, v_asT, v_asS, v_lenL, v_lenT, v_tupL, v_tupT, v_listL, v_listT, v_intB, v_tup0, v_tup1, v_tup2, v_tup3, v_tup4, v_tup5, v_lst0, v_lst1, v_lst2, v_lst3, v_lst4, v_lst5, v_ok0, v_ok1, v_ok2, v_ix0L, v_ix0, v_ix1, v_ix2, v_ix3, v_fs, v_fi, v_fb, v_fn, v_ft, v_f0, v_fc, startR, List.map_cons, List.map_nil, List.length_cons, List.length_nil, List.replicate, List.cons_append, List.nil_append, List.set_cons_zero, List.set_cons_succ, Option.some.injEq, exists_eq_left', Nat.reduceAdd, Nat.reduceSub, Nat.sub_zero, Nat.sub_self, Nat.zero_add, Nat.reduceEqDiff, Bool.not_true, Bool.not_false, if_true, if_false, Bool.and_self, Bool.true_and, Bool.and_true, Bool.false_eq_true, ↓reduceIte, true_and, and_true, decide_true, decide_false, wipeR]
      exact ok_atom v hL (by omega) fun f s2 hf hd => hR _ _ (q f s2 hf (by omega))
    refine k_seq (k_sIf ?_)
    simp only [ok_V0, ok_Vs, ok_K, ok_B, ok_U, ok_nil, ok_cons, ok_N, ok_aN, ok_call, ok_nl, ok_fl, ok_afl, ok_T, ok_qNot, ok_qAnd, ok_qOr, ok_and, ok_or, ok_not, ok_if, ok_Sl, ok_oNo, ok_oOf, ok_Ch, ok_it, ok_itA, ok_yes, v_addI, v_sub, v_neg, v_eqI, v_eqS, v_eqB, v_eq0, v_eqT0, v_neI, v_neS, v_neB, v_ne0, v_neT0, v_ltI, v_leI, v_gtI, v_geI, v_is, v_isNot, v_nn, v_ns, v_ni, v_nl, v_nt, v_tb, v_tl, v_tt, v_tn, v_ti, v_asB, v_asI, v_asL, v_asT, v_asS, v_lenL, v_lenT, v_tupL, v_tupT, v_listL, v_listT, v_intB, v_tup0, v_tup1, v_tup2, v_tup3, v_tup4, v_tup5, v_lst0, v_lst1, v_lst2, v_lst3, v_lst4, v_lst5, v_ok0, v_ok1, v_ok2, v_ix0L, v_ix0, v_ix1, v_ix2, v_ix3, v_fs, v_fi, v_fb, v_fn, v_ft, v_f0, v_fc, startR, List.map_cons, List.map_nil, List.length_cons, List.length_nil, List.replicate, List.cons_append, List.nil_append, List.set_cons_zero, List.set_cons_succ, Option.some.injEq, exists_eq_left', Nat.reduceAdd, Nat.reduceSub, Nat.sub_zero, Nat.sub_self, Nat.zero_add, Nat.reduceEqDiff, Bool.not_true, Bool.not_false, if_true, if_false, Bool.and_self, Bool.true_and, Bool.and_true, Bool.false_eq_true, ↓reduceIte, true_and, and_true, decide_true, decide_false, wipeR]
    cases p with
    | zero =>
      rw [show decide (((0 : Nat) : Int) = 0) = true from rfl]
      simp only [ok_V0, ok_Vs, ok_K, ok_B, ok_U, ok_nil, ok_cons, ok_N, ok_aN, ok_call, ok_nl, ok_fl, ok_afl, ok_T, ok_qNot, ok_qAnd, ok_qOr, ok_and, ok_or, ok_not, ok_if, ok_Sl, ok_oNo, ok_oOf, ok_Ch, ok_it, ok_itA, ok_yes, v_addI, v_sub, v_neg, v_eqI, v_eqS, v_eqB, v_eq0, v_eqT0, v_neI, v_neS, v_neB, v_ne0, v_neT0, v_ltI, v_leI, v_gtI, v_geI, v_is, v_isNot, v_nn, v_ns, v_ni, v_nl, v_nt, v_tb, v_tl, v_tt, v_tn, v_ti, v_asB, v_asI, v_asL, v_asT, v_asS, v_lenL, v_lenT, v_tupL, v_tupT, v_listL, v_listT, v_intB, v_tup0, v_tup1, v_tup2, v_tup3, v_tup4, v_tup5, v_lst0, v_lst1, v_lst2, v_lst3, v_lst4, v_lst5, v_ok0, v_ok1, v_ok2, v_ix0L, v_ix0, v_ix1, v_ix2, v_ix3, v_fs, v_fi, v_fb, v_fn, v_ft, v_f0, v_fc, startR, List.map_cons, List.map_nil, List.length_cons, List.length_nil, List.replicate, List.cons_append, List.nil_append, List.set_cons_zero, List.set_cons_succ, Option.some.injEq, exists_eq_left', Nat.reduceAdd, Nat.reduceSub, Nat.sub_zero, Nat.sub_self, Nat.zero_add, Nat.reduceEqDiff, Bool.not_true, Bool.not_false, if_true, if_false, Bool.and_self, Bool.true_and, Bool.and_true, Bool.false_eq_true, ↓reduceIte, true_and, and_true, decide_true, decide_false, wipeR]
      exact atom fun d s h => h
    | succ p =>
      rw [show decide (((p + 1 : Nat) : Int) = 0) = false from decide_eq_false (by omega)]
      simp only [ok_V0, ok_Vs, ok_K, ok_B, ok_U, ok_nil, ok_cons, ok_N, ok_aN, ok_call, ok_nl, ok_fl, ok_afl, ok_T, ok_qNot, ok_qAnd, ok_qOr, ok_and, ok_or, ok_not, ok_if, ok_Sl, ok_oNo, ok_oOf, ok_Ch, ok_it, ok_itA, ok_yes, v_addI, v_sub, v_neg, v_eqI, v_eqS, v_eqB, v_eq0, v_eqT0, v_neI, v_neS, v_neB, v_ne0, v_neT0, v_ltI, v_leI, v_gtI, v_geI, v_is, v_isNot, v_nn, v_ns, v_ni, v_nl, v_nt, v_tb, v_tl, v_tt, v_tn, v_ti, v_asB, v_asI, v_asL, v_asT, v_asS, v_lenL, v_lenT, v_tupL, v_tupT, v_listL, v_listT, v_intB, v_tup0, v_tup1, v_tup2, v_tup3, v_tup4, v_tup5, v_lst0, v_lst1, v_lst2, v_lst3, v_lst4, v_lst5, v_ok0, v_ok1, v_ok2, v_ix0L, v_ix0, v_ix1, v_ix2, v_ix3, v_fs, v_fi, v_fb, v_fn, v_ft, v_f0, v_fc, startR, List.map_cons, List.map_nil, List.length_cons, List.length_nil, List.replicate, List.cons_append, List.nil_append, List.set_cons_zero, List.set_cons_succ, Option.some.injEq, exists_eq_left', Nat.reduceAdd, Nat.reduceSub, Nat.sub_zero, Nat.sub_self, Nat.zero_add, Nat.reduceEqDiff, Bool.not_true, Bool.not_false, if_true, if_false, Bool.and_self, Bool.true_and, Bool.and_true, Bool.false_eq_true, ↓reduceIte, true_and, and_true, decide_true, decide_false, wipeR]
      by_cases e2 : y < 2
      · simp only [e2, ok_V0, ok_Vs, ok_K, ok_B, ok_U, ok_nil, ok_cons, ok_N, ok_aN, ok_call, ok_nl, ok_fl, ok_afl, ok_T, ok_qNot, ok_qAnd, ok_qOr, ok_and, ok_or, ok_not, ok_if, ok_Sl, ok_oNo, ok_oOf, ok_Ch, ok_it, ok_itA, ok_yes, v_addI, v_sub, v_neg, v_eqI, v_eqS, v_eqB, v_eq0, v_eqT0, v_neI, v_neS, v_neB, v_ne0, v_neT0, v_ltI, v_leI, v_gtI, v_geI, v_is, v_isNot, v_nn, v_ns, v_ni, v_nl, v_nt, v_tb, v_tl, v_tt, v_tn, v_ti, v_asB, v_asI, v_asL, v_asT, v_asS, v_lenL, v_lenT, v_tupL, v_tupT, v_listL, v_listT, v_intB, v_tup0, v_tup1, v_tup2, v_tup3, v_tup4, v_tup5, v_lst0, v_lst1, v_lst2, v_lst3, v_lst4, v_lst5, v_ok0, v_ok1, v_ok2, v_ix0L, v_ix0, v_ix1, v_ix2, v_ix3, v_fs, v_fi, v_fb, v_fn, v_ft, v_f0, v_fc, startR, List.map_cons, List.map_nil, List.length_cons, List.length_nil, List.replicate, List.cons_append, List.nil_append, List.set_cons_zero, List.set_cons_succ, Option.some.injEq, exists_eq_left', Nat.reduceAdd, Nat.reduceSub, Nat.sub_zero, Nat.sub_self, Nat.zero_add, Nat.reduceEqDiff, Bool.not_true, Bool.not_false, if_true, if_false, Bool.and_self, Bool.true_and, Bool.and_true, Bool.false_eq_true, ↓reduceIte, true_and, and_true, decide_true, decide_false, wipeR]
        exact atom fun d s h => h
      simp only [e2, ok_V0, ok_Vs, ok_K, ok_B, ok_U, ok_nil, ok_cons, ok_N, ok_aN, ok_call, ok_nl, ok_fl, ok_afl, ok_T, ok_qNot, ok_qAnd, ok_qOr, ok_and, ok_or, ok_not, ok_if, ok_Sl, ok_oNo, ok_oOf, ok_Ch, ok_it, ok_itA, ok_yes, v_addI, v_sub, v_neg, v_eqI, v_eqS, v_eqB, v_eq0, v_eqT0, v_neI, v_neS, v_neB, v_ne0, v_neT0, v_ltI, v_leI, v_gtI, v_geI, v_is, v_isNot, v_nn, v_ns, v_ni, v_nl, v_nt, v_tb, v_tl, v_tt, v_tn, v_ti, v_asB, v_asI, v_asL, v_asT, v_asS, v_lenL, v_lenT, v_tupL, v_tupT, v_listL, v_listT, v_intB, v_tup0, v_tup1, v_tup2, v_tup3, v_tup4, v_tup5, v_lst0, v_lst1, v_lst2, v_lst3, v_lst4, v_lst5, v_ok0, v_ok1, v_ok2, v_ix0L, v_ix0, v_ix1, v_ix2, v_ix3, v_fs, v_fi, v_fb, v_fn, v_ft, v_f0, v_fc, startR, List.map_cons, List.map_nil, List.length_cons, List.length_nil, List.replicate, List.cons_append, List.nil_append, List.set_cons_zero, List.set_cons_succ, Option.some.injEq, exists_eq_left', Nat.reduceAdd, Nat.reduceSub, Nat.sub_zero, Nat.sub_self, Nat.zero_add, Nat.reduceEqDiff, Bool.not_true, Bool.not_false, if_true, if_false, Bool.and_self, Bool.true_and, Bool.and_true, Bool.false_eq_true, ↓reduceIte, true_and, and_true, decide_true, decide_false, wipeR]
      have ep : (((p + 1 : Nat) : Int) - 1) = ((p : Nat) : Int) := by omega
      refine k_nx (k_seq (k_sIf ?_))
      simp only [ok_V0, ok_Vs, ok_K, ok_B, ok_U, ok_nil, ok_cons, ok_N, ok_aN, ok_call, ok_nl, ok_fl, ok_afl, ok_T, ok_qNot, ok_qAnd, ok_qOr, ok_and, ok_or, ok_not, ok_if, ok_Sl, ok_oNo, ok_oOf, ok_Ch, ok_it, ok_itA, ok_yes, v_addI, v_sub, v_neg, v_eqI, v_eqS, v_eqB, v_eq0, v_eqT0, v_neI, v_neS, v_neB, v_ne0, v_neT0, v_ltI, v_leI, v_gtI, v_geI, v_is, v_isNot, v_nn, v_ns, v_ni, v_nl, v_nt, v_tb, v_tl, v_tt, v_tn, v_ti, v_asB, v_asI, v_asL, v_asT, v_asS, v_lenL, v_lenT, v_tupL, v_tupT, v_listL, v_listT, v_intB, v_tup0, v_tup1, v_tup2, v_tup3, v_tup4, v_tup5, v_lst0, v_lst1, v_lst2, v_lst3, v_lst4, v_lst5, v_ok0, v_ok1, v_ok2, v_ix0L, v_ix0, v_ix1, v_ix2, v_ix3, v_fs, v_fi, v_fb, v_fn, v_ft, v_f0, v_fc, startR, List.map_cons, List.map_nil, List.length_cons, List.length_nil, List.replicate, List.cons_append, List.nil_append, List.set_cons_zero, List.set_cons_succ, Option.some.injEq, exists_eq_left', Nat.reduceAdd, Nat.reduceSub, Nat.sub_zero, Nat.sub_self, Nat.zero_add, Nat.reduceEqDiff, Bool.not_true, Bool.not_false, if_true, if_false, Bool.and_self, Bool.true_and, Bool.and_true, Bool.false_eq_true, ↓reduceIte, true_and, and_true, decide_true, decide_false, wipeR]
      by_cases e3 : y = 2
      · simp only [e3, ok_V0, ok_Vs, ok_K, ok_B, ok_U, ok_nil, ok_cons, ok_N, ok_aN, ok_call, ok_nl, ok_fl, ok_afl, ok_T, ok_qNot, ok_qAnd, ok_qOr, ok_and, ok_or, ok_not, ok_if, ok_Sl, ok_oNo, ok_oOf, ok_Ch, ok_it, ok_itA, ok_yes, v_addI, v_sub, v_neg, v_eqI, v_eqS, v_eqB, v_eq0, v_eqT0, v_neI, v_neS, v_neB, v_ne0, v_neT0, v_ltI, v_leI, v_gtI, v_geI, v_is, v_isNot, v_nn, v_ns, v_ni, v_nl, v_nt, v_tb, v_tl, v_tt, v_tn, v_ti, v_asB, v_asI, v_asL, v_asT, v_asS, v_lenL, v_lenT, v_tupL, v_tupT, v_listL, v_listT, v_intB, v_tup0, v_tup1, v_tup2, v_tup3, v_tup4, v_tup5, v_lst0, v_lst1, v_lst2, v_lst3, v_lst4, v_lst5, v_ok0, v_ok1, v_ok2, v_ix0L, v_ix0, v_ix1, v_ix2, v_ix3, v_fs, v_fi, v_fb, v_fn, v_ft, v_f0, v_fc, startR, List.map_cons, List.map_nil, List.length_cons, List.length_nil, List.replicate, List.cons_append, List.nil_append, List.set_cons_zero, List.set_cons_succ, Option.some.injEq, exists_eq_left', Nat.reduceAdd, Nat.reduceSub, Nat.sub_zero, Nat.sub_self, Nat.zero_add, Nat.reduceEqDiff, Bool.not_true, Bool.not_false, if_true, if_false, Bool.and_self, Bool.true_and, Bool.and_true, Bool.false_eq_true, ↓reduceIte, true_and, and_true, decide_true, decide_false, wipeR]
        refine k_ret ?_
        simp only [ok_V0, ok_Vs, ok_K, ok_B, ok_U, ok_nil, ok_cons, ok_N, ok_aN, ok_call, ok_nl, ok_fl, ok_afl, ok_T, ok_qNot, ok_qAnd, ok_qOr, ok_and, ok_or, ok_not, ok_if, ok_Sl, ok_oNo, ok_oOf, ok_Ch, ok_it, ok_itA, ok_yes, v_addI, v_sub, v_neg, v_eqI, v_eqS, v_eqB, v_eq0, v_eqT0, v_neI, v_neS, v_neB, v_ne0, v_neT0, v_ltI, v_leI, v_gtI, v_geI, v_is, v_isNot, v_nn, v_ns, v_ni, v_nl, v_nt, v_tb, v_tl, v_tt, v_tn, v_ti, v_asB, v_asI, v_asL, v_asT, v_asS, v_lenL, v_lenT, v_tupL, v_tupT, v_listL, v_listT, v_intB, v_tup0, v_tup1, v_tup2, v_tup3, v_tup4, v_tup5, v_lst0, v_lst1, v_lst2, v_lst3, v_lst4, v_lst5, v_ok0, v_ok1, v_ok2, v_ix0L, v_ix0, v_ix1, v_ix2, v_ix3, v_fs, v_fi, v_fb, v_fn, v_ft, v_f0, v_fc, startR, List.map_cons, List.map_nil, List.length_cons, List.length_nil, List.replicate, List.cons_append, List.nil_append, List.set_cons_zero, List.set_cons_succ, Option.some.injEq, exists_eq_left', Nat.reduceAdd, Nat.reduceSub, Nat.sub_zero, Nat.sub_self, Nat.zero_add, Nat.reduceEqDiff, Bool.not_true, Bool.not_false, if_true, if_false, Bool.and_self, Bool.true_and, Bool.and_true, Bool.false_eq_true, ↓reduceIte, true_and, and_true, decide_true, decide_false, wipeR, ep]
        refine ih p L _ _ (by omega) hL (by omega) fun f s2 hf hd => ?_
        exact q (.no f) _ hf (by show f.dep + 1 ≤ p + 1; omega)
      simp only [e3, ok_V0, ok_Vs, ok_K, ok_B, ok_U, ok_nil, ok_cons, ok_N, ok_aN, ok_call, ok_nl, ok_fl, ok_afl, ok_T, ok_qNot, ok_qAnd, ok_qOr, ok_and, ok_or, ok_not, ok_if, ok_Sl, ok_oNo, ok_oOf, ok_Ch, ok_it, ok_itA, ok_yes, v_addI, v_sub, v_neg, v_eqI, v_eqS, v_eqB, v_eq0, v_eqT0, v_neI, v_neS, v_neB, v_ne0, v_neT0, v_ltI, v_leI, v_gtI, v_geI, v_is, v_isNot, v_nn, v_ns, v_ni, v_nl, v_nt, v_tb, v_tl, v_tt, v_tn, v_ti, v_asB, v_asI, v_asL, v_asT, v_asS, v_lenL, v_lenT, v_tupL, v_tupT, v_listL, v_listT, v_intB, v_tup0, v_tup1, v_tup2, v_tup3, v_tup4, v_tup5, v_lst0, v_lst1, v_lst2, v_lst3, v_lst4, v_lst5, v_ok0, v_ok1, v_ok2, v_ix0L, v_ix0, v_ix1, v_ix2, v_ix3, v_fs, v_fi, v_fb, v_fn, v_ft, v_f0, v_fc, startR, List.map_cons, List.map_nil, List.length_cons, List.length_nil, List.replicate, List.cons_append, List.nil_append, List.set_cons_zero, List.set_cons_succ, Option.some.injEq, exists_eq_left', Nat.reduceAdd, Nat.reduceSub, Nat.sub_zero, Nat.sub_self, Nat.zero_add, Nat.reduceEqDiff, Bool.not_true, Bool.not_false, if_true, if_false, Bool.and_self, Bool.true_and, Bool.and_true, Bool.false_eq_true, ↓reduceIte, true_and, and_true, decide_true, decide_false, wipeR]
      refine k_nx (k_seq (k_sIf ?_))
      simp only [ok_V0, ok_Vs, ok_K, ok_B, ok_U, ok_nil, ok_cons, ok_N, ok_aN, ok_call, ok_nl, ok_fl, ok_afl, ok_T, ok_qNot, ok_qAnd, ok_qOr, ok_and, ok_or, ok_not, ok_if, ok_Sl, ok_oNo, ok_oOf, ok_Ch, ok_it, ok_itA, ok_yes, v_addI, v_sub, v_neg, v_eqI, v_eqS, v_eqB, v_eq0, v_eqT0, v_neI, v_neS, v_neB, v_ne0, v_neT0, v_ltI, v_leI, v_gtI, v_geI, v_is, v_isNot, v_nn, v_ns, v_ni, v_nl, v_nt, v_tb, v_tl, v_tt, v_tn, v_ti, v_asB, v_asI, v_asL, v_asT, v_asS, v_lenL, v_lenT, v_tupL, v_tupT, v_listL, v_listT, v_intB, v_tup0, v_tup1, v_tup2, v_tup3, v_tup4, v_tup5, v_lst0, v_lst1, v_lst2, v_lst3, v_lst4, v_lst5, v_ok0, v_ok1, v_ok2, v_ix0L, v_ix0, v_ix1, v_ix2, v_ix3, v_fs, v_fi, v_fb, v_fn, v_ft, v_f0, v_fc, startR, List.map_cons, List.map_nil, List.length_cons, List.length_nil, List.replicate, List.cons_append, List.nil_append, List.set_cons_zero, List.set_cons_succ, Option.some.injEq, exists_eq_left', Nat.reduceAdd, Nat.reduceSub, Nat.sub_zero, Nat.sub_self, Nat.zero_add, Nat.reduceEqDiff, Bool.not_true, Bool.not_false, if_true, if_false, Bool.and_self, Bool.true_and, Bool.and_true, Bool.false_eq_true, ↓reduceIte, true_and, and_true, decide_true, decide_false, wipeR]
      by_cases e6 : 6 < y
      · simp only [e6, ok_V0, ok_Vs, ok_K, ok_B, ok_U, ok_nil, ok_cons, ok_N, ok_aN, ok_call, ok_nl, ok_fl, ok_afl, ok_T, ok_qNot, ok_qAnd, ok_qOr, ok_and, ok_or, ok_not, ok_if, ok_Sl, ok_oNo, ok_oOf, ok_Ch, ok_it, ok_itA, ok_yes, v_addI, v_sub, v_neg, v_eqI, v_eqS, v_eqB, v_eq0, v_eqT0, v_neI, v_neS, v_neB, v_ne0, v_neT0, v_ltI, v_leI, v_gtI, v_geI, v_is, v_isNot, v_nn, v_ns, v_ni, v_nl, v_nt, v_tb, v_tl, v_tt, v_tn, v_ti, v_asB, v_asI, v_asL, v_asT, v_asS, v_lenL, v_lenT, v_tupL, v_tupT, v_listL, v_listT, v_intB, v_tup0, v_tup1, v_tup2, v_tup3, v_tup4, v_tup5, v_lst0, v_lst1, v_lst2, v_lst3, v_lst4, v_lst5, v_ok0, v_ok1, v_ok2, v_ix0L, v_ix0, v_ix1, v_ix2, v_ix3, v_fs, v_fi, v_fb, v_fn, v_ft, v_f0, v_fc, startR, List.map_cons, List.map_nil, List.length_cons, List.length_nil, List.replicate, List.cons_append, List.nil_append, List.set_cons_zero, List.set_cons_succ, Option.some.injEq, exists_eq_left', Nat.reduceAdd, Nat.reduceSub, Nat.sub_zero, Nat.sub_self, Nat.zero_add, Nat.reduceEqDiff, Bool.not_true, Bool.not_false, if_true, if_false, Bool.and_self, Bool.true_and, Bool.and_true, Bool.false_eq_true, ↓reduceIte, true_and, and_true, decide_true, decide_false, wipeR]
        refine k_seq (k_set ?_)
        simp only [ok_V0, ok_Vs, ok_K, ok_B, ok_U, ok_nil, ok_cons, ok_N, ok_aN, ok_call, ok_nl, ok_fl, ok_afl, ok_T, ok_qNot, ok_qAnd, ok_qOr, ok_and, ok_or, ok_not, ok_if, ok_Sl, ok_oNo, ok_oOf, ok_Ch, ok_it, ok_itA, ok_yes, v_addI, v_sub, v_neg, v_eqI, v_eqS, v_eqB, v_eq0, v_eqT0, v_neI, v_neS, v_neB, v_ne0, v_neT0, v_ltI, v_leI, v_gtI, v_geI, v_is, v_isNot, v_nn, v_ns, v_ni, v_nl, v_nt, v_tb, v_tl, v_tt, v_tn, v_ti, v_asB, v_asI, v_asL, v_asT, v_asS, v_lenL, v_lenT, v_tupL, v_tupT, v_listL, v_listT, v_intB, v_tup0, v_tup1, v_tup2, v_tup3, v_tup4, v_tup5, v_lst0, v_lst1, v_lst2, v_lst3, v_lst4, v_lst5, v_ok0, v_ok1, v_ok2, v_ix0L, v_ix0, v_ix1, v_ix2, v_ix3, v_fs, v_fi, v_fb, v_fn, v_ft, v_f0, v_fc, startR, List.map_cons, List.map_nil, List.length_cons, List.length_nil, List.replicate, List.cons_append, List.nil_append, List.set_cons_zero, List.set_cons_succ, Option.some.injEq, exists_eq_left', Nat.reduceAdd, Nat.reduceSub, Nat.sub_zero, Nat.sub_self, Nat.zero_add, Nat.reduceEqDiff, Bool.not_true, Bool.not_false, if_true, if_false, Bool.and_self, Bool.true_and, Bool.and_true, Bool.false_eq_true, ↓reduceIte, true_and, and_true, decide_true, decide_false, wipeR]
        refine k_draw9 (by omega) (by omega) fun r s2 r0 r1 => ?_
        obtain ⟨x, ⟨hx, hxl⟩, ex⟩ := pick_x r0 r1
        refine ⟨_, ex, ?_⟩
        refine k_ret ?_
        simp only [ok_V0, ok_Vs, ok_K, ok_B, ok_U, ok_nil, ok_cons, ok_N, ok_aN, ok_call, ok_nl, ok_fl, ok_afl, ok_T, ok_qNot, ok_qAnd, ok_qOr, ok_and, ok_or, ok_not, ok_if, ok_Sl, ok_oNo, ok_oOf, ok_Ch, ok_it, ok_itA, ok_yes, v_addI, v_sub, v_neg, v_eqI, v_eqS, v_eqB, v_eq0, v_eqT0, v_neI, v_neS, v_neB, v_ne0, v_neT0, v_ltI, v_leI, v_gtI, v_geI, v_is, v_isNot, v_nn, v_ns, v_ni, v_nl, v_nt, v_tb, v_tl, v_tt, v_tn, v_ti, v_asB, v_asI, v_asL, v_asT, v_asS, v_lenL, v_lenT, v_tupL, v_tupT, v_listL, v_listT, v_intB, v_tup0, v_tup1, v_tup2, v_tup3, v_tup4, v_tup5, v_lst0, v_lst1, v_lst2, v_lst3, v_lst4, v_lst5, v_ok0, v_ok1, v_ok2, v_ix0L, v_ix0, v_ix1, v_ix2, v_ix3, v_fs, v_fi, v_fb, v_fn, v_ft, v_f0, v_fc, startR, List.map_cons, List.map_nil, List.length_cons, List.length_nil, List.replicate, List.cons_append, List.nil_append, List.set_cons_zero, List.set_cons_succ, Option.some.injEq, exists_eq_left', Nat.reduceAdd, Nat.reduceSub, Nat.sub_zero, Nat.sub_self, Nat.zero_add, Nat.reduceEqDiff, Bool.not_true, Bool.not_false, if_true, if_false, Bool.and_self, Bool.true_and, Bool.and_true, Bool.false_eq_true, ↓reduceIte, true_and, and_true, decide_true, decide_false, wipeR, ep]
        obtain ⟨w, ew⟩ := pick_q (r := y - 7) (by omega) (by omega)
        refine ⟨_, ew, ?_⟩
        refine ⟨_, v_addL (by rw [List.length_map]; exact szL (by simp; omega)), ?_⟩
        rw [show L.map PyData.str ++ [PyData.str x] = (L ++ [x]).map PyData.str from by simp]
        refine ih p (L ++ [x]) _ _ (by omega) (fun z hz => ?_) (by rw [List.length_append]; simp; omega) fun f s3 hf hd => ?_
        · rcases List.mem_append.mp hz with hz | hz
          · exact hL z hz
          · rw [List.mem_singleton.mp hz]
            exact hx
        · exact q (.qu w x f) _ ⟨hx, hf, hxl⟩ (by show f.dep + 1 ≤ p + 1; omega)
      simp only [e6, ok_V0, ok_Vs, ok_K, ok_B, ok_U, ok_nil, ok_cons, ok_N, ok_aN, ok_call, ok_nl, ok_fl, ok_afl, ok_T, ok_qNot, ok_qAnd, ok_qOr, ok_and, ok_or, ok_not, ok_if, ok_Sl, ok_oNo, ok_oOf, ok_Ch, ok_it, ok_itA, ok_yes, v_addI, v_sub, v_neg, v_eqI, v_eqS, v_eqB, v_eq0, v_eqT0, v_neI, v_neS, v_neB, v_ne0, v_neT0, v_ltI, v_leI, v_gtI, v_geI, v_is, v_isNot, v_nn, v_ns, v_ni, v_nl, v_nt, v_tb, v_tl, v_tt, v_tn, v_ti, v_asB, v_asI, v_asL, v_asT, v_asS, v_lenL, v_lenT, v_tupL, v_tupT, v_listL, v_listT, v_intB, v_tup0, v_tup1, v_tup2, v_tup3, v_tup4, v_tup5, v_lst0, v_lst1, v_lst2, v_lst3, v_lst4, v_lst5, v_ok0, v_ok1, v_ok2, v_ix0L, v_ix0, v_ix1, v_ix2, v_ix3, v_fs, v_fi, v_fb, v_fn, v_ft, v_f0, v_fc, startR, List.map_cons, List.map_nil, List.length_cons, List.length_nil, List.replicate, List.cons_append, List.nil_append, List.set_cons_zero, List.set_cons_succ, Option.some.injEq, exists_eq_left', Nat.reduceAdd, Nat.reduceSub, Nat.sub_zero, Nat.sub_self, Nat.zero_add, Nat.reduceEqDiff, Bool.not_true, Bool.not_false, if_true, if_false, Bool.and_self, Bool.true_and, Bool.and_true, Bool.false_eq_true, ↓reduceIte, true_and, and_true, decide_true, decide_false, wipeR]
      refine k_nx (k_seq (k_set ?_))
      simp only [ok_V0, ok_Vs, ok_K, ok_B, ok_U, ok_nil, ok_cons, ok_N, ok_aN, ok_call, ok_nl, ok_fl, ok_afl, ok_T, ok_qNot, ok_qAnd, ok_qOr, ok_and, ok_or, ok_not, ok_if, ok_Sl, ok_oNo, ok_oOf, ok_Ch, ok_it, ok_itA, ok_yes, v_addI, v_sub, v_neg, v_eqI, v_eqS, v_eqB, v_eq0, v_eqT0, v_neI, v_neS, v_neB, v_ne0, v_neT0, v_ltI, v_leI, v_gtI, v_geI, v_is, v_isNot, v_nn, v_ns, v_ni, v_nl, v_nt, v_tb, v_tl, v_tt, v_tn, v_ti, v_asB, v_asI, v_asL, v_asT, v_asS, v_lenL, v_lenT, v_tupL, v_tupT, v_listL, v_listT, v_intB, v_tup0, v_tup1, v_tup2, v_tup3, v_tup4, v_tup5, v_lst0, v_lst1, v_lst2, v_lst3, v_lst4, v_lst5, v_ok0, v_ok1, v_ok2, v_ix0L, v_ix0, v_ix1, v_ix2, v_ix3, v_fs, v_fi, v_fb, v_fn, v_ft, v_f0, v_fc, startR, List.map_cons, List.map_nil, List.length_cons, List.length_nil, List.replicate, List.cons_append, List.nil_append, List.set_cons_zero, List.set_cons_succ, Option.some.injEq, exists_eq_left', Nat.reduceAdd, Nat.reduceSub, Nat.sub_zero, Nat.sub_self, Nat.zero_add, Nat.reduceEqDiff, Bool.not_true, Bool.not_false, if_true, if_false, Bool.and_self, Bool.true_and, Bool.and_true, Bool.false_eq_true, ↓reduceIte, true_and, and_true, decide_true, decide_false, wipeR, ep]
      refine ih p L _ _ (by omega) hL (by omega) fun f s2 hf hd => ?_
      refine k_seq (k_set ?_)
      simp only [ok_V0, ok_Vs, ok_K, ok_B, ok_U, ok_nil, ok_cons, ok_N, ok_aN, ok_call, ok_nl, ok_fl, ok_afl, ok_T, ok_qNot, ok_qAnd, ok_qOr, ok_and, ok_or, ok_not, ok_if, ok_Sl, ok_oNo, ok_oOf, ok_Ch, ok_it, ok_itA, ok_yes, v_addI, v_sub, v_neg, v_eqI, v_eqS, v_eqB, v_eq0, v_eqT0, v_neI, v_neS, v_neB, v_ne0, v_neT0, v_ltI, v_leI, v_gtI, v_geI, v_is, v_isNot, v_nn, v_ns, v_ni, v_nl, v_nt, v_tb, v_tl, v_tt, v_tn, v_ti, v_asB, v_asI, v_asL, v_asT, v_asS, v_lenL, v_lenT, v_tupL, v_tupT, v_listL, v_listT, v_intB, v_tup0, v_tup1, v_tup2, v_tup3, v_tup4, v_tup5, v_lst0, v_lst1, v_lst2, v_lst3, v_lst4, v_lst5, v_ok0, v_ok1, v_ok2, v_ix0L, v_ix0, v_ix1, v_ix2, v_ix3, v_fs, v_fi, v_fb, v_fn, v_ft, v_f0, v_fc, startR, List.map_cons, List.map_nil, List.length_cons, List.length_nil, List.replicate, List.cons_append, List.nil_append, List.set_cons_zero, List.set_cons_succ, Option.some.injEq, exists_eq_left', Nat.reduceAdd, Nat.reduceSub, Nat.sub_zero, Nat.sub_self, Nat.zero_add, Nat.reduceEqDiff, Bool.not_true, Bool.not_false, if_true, if_false, Bool.and_self, Bool.true_and, Bool.and_true, Bool.false_eq_true, ↓reduceIte, true_and, and_true, decide_true, decide_false, wipeR, ep]
      refine ih p L _ _ (by omega) hL (by omega) fun g s3 hg hd2 => ?_
      refine k_ret ?_
      simp only [ok_V0, ok_Vs, ok_K, ok_B, ok_U, ok_nil, ok_cons, ok_N, ok_aN, ok_call, ok_nl, ok_fl, ok_afl, ok_T, ok_qNot, ok_qAnd, ok_qOr, ok_and, ok_or, ok_not, ok_if, ok_Sl, ok_oNo, ok_oOf, ok_Ch, ok_it, ok_itA, ok_yes, v_addI, v_sub, v_neg, v_eqI, v_eqS, v_eqB, v_eq0, v_eqT0, v_neI, v_neS, v_neB, v_ne0, v_neT0, v_ltI, v_leI, v_gtI, v_geI, v_is, v_isNot, v_nn, v_ns, v_ni, v_nl, v_nt, v_tb, v_tl, v_tt, v_tn, v_ti, v_asB, v_asI, v_asL, v_asT, v_asS, v_lenL, v_lenT, v_tupL, v_tupT, v_listL, v_listT, v_intB, v_tup0, v_tup1, v_tup2, v_tup3, v_tup4, v_tup5, v_lst0, v_lst1, v_lst2, v_lst3, v_lst4, v_lst5, v_ok0, v_ok1, v_ok2, v_ix0L, v_ix0, v_ix1, v_ix2, v_ix3, v_fs, v_fi, v_fb, v_fn, v_ft, v_f0, v_fc, startR, List.map_cons, List.map_nil, List.length_cons, List.length_nil, List.replicate, List.cons_append, List.nil_append, List.set_cons_zero, List.set_cons_succ, Option.some.injEq, exists_eq_left', Nat.reduceAdd, Nat.reduceSub, Nat.sub_zero, Nat.sub_self, Nat.zero_add, Nat.reduceEqDiff, Bool.not_true, Bool.not_false, if_true, if_false, Bool.and_self, Bool.true_and, Bool.and_true, Bool.false_eq_true, ↓reduceIte, true_and, and_true, decide_true, decide_false, wipeR]
      obtain ⟨w, ew⟩ := pick_j (r := y - 3) (by omega) (by omega)
      refine ⟨_, ew, ?_⟩
      exact q (.jn w f g) _ ⟨hf, hg⟩ (by show max f.dep g.dep + 1 ≤ p + 1; omega)
end Lw30
set_option Elab.async false
set_option linter.all false
set_option maxRecDepth 100000
set_option maxHeartbeats 1000000
/-! which rule is asked -/
namespace Lw30
open PySem PySem.Spec L2 Dl Mx Ds Lw01 Lw41
section
variable {S : Type} {s : S} {ρ : Rho} {f : Ev S} {Q : Rs → S → Prop}
theorem k_hasNot {ks : List Str} {Q : Bool → S → Prop} (h : Ok (f ρ s) fun d s => ∃ z, d = .str z ∧ Q (!decide (z ∈ ks)) s) : Ok (qHasNot ks f ρ s) Q := by
  obtain ⟨d, s1, e, z, rfl, q⟩ := h
  refine ⟨_, s1, ?_, q⟩
  unfold qHasNot
  rw [e]
  rfl
theorem k_disp {i n : Nat} {tb : List (Str × Fn S)} {fa : Ea S} {z : Str} {F : Fn S} (h1 : f ρ s = some (.str z, s)) (h2 : fAt tb z = some F) (hi : i < ρ.length) (h : Ok (fa (ρ.set i none) s) fun ds s => ds.length = n ∧ Ok (F ds s) fun d s => Q (.rt d) s) : Ok (sDisp i n tb f fa ρ s) Q := by
  obtain ⟨ds, s1, e, hl, d, s2, e2, q⟩ := h
  refine ⟨_, s2, ?_, q⟩
  unfold sDisp
  rw [h1]
  show (match fAt tb z with | some F => _ | none => none) = _
  rw [h2]
  show (if i < ρ.length then _ else none) = _
  rw [if_pos hi, e]
  show (if ds.length = n then _ else none) = _
  rw [if_pos hl, e2]
  rfl
def wNs : List Str := [Str.ofString "again", Str.ofString "itself", Str.ofString "both", Str.ofString "left", Str.ofString "right", Str.ofString "orleft", Str.ofString "orright", Str.ofString "then", Str.ofString "absurd", Str.ofString "nothing", Str.ofString "at", Str.ofString "such", Str.ofString "put"]
theorem fol_ok {F1 F2 F3 F4 F5 F6 F7 F8 F9 F10 F11 F12 F13 F : Fn S} {w v : Str} {x nm : D} {ds : List D} {Q : D → S → Prop} {n : Nat} (hw : decide (w ∈ wNs) = true) (hv : pDt t_REASONS (.str w) = some (.str v)) (hn : pCount (.str v) (.str (Str.ofString "k")) = some (.int (n : Nat)))
    (hF : fAt [(("again" : Str), F1), (("itself" : Str), F2), (("both" : Str), F3), (("left" : Str), F4), (("right" : Str), F5), (("orleft" : Str), F6), (("orright" : Str), F7), (("then" : Str), F8), (("absurd" : Str), F9), (("nothing" : Str), F10), (("at" : Str), F11), (("such" : Str), F12), (("put" : Str), F13)] w = some F) (hl : ds.length = n) (h : Ok (F [x, .tuple ds, nm] s) Q) : Ok (Lw30.K_follows F1 F2 F3 F4 F5 F6 F7 F8 F9 F10 F11 F12 F13 [.str w, x, .tuple ds, nm] s) Q := by
  unfold Lw30.K_follows Lw30.B_follows
  refine k_fn (k_seq (k_sIf (k_qOr (k_hasNot ?_))))
  simp only [ok_V0, ok_Vs, ok_K, ok_B, ok_U, ok_nil, ok_cons, ok_N, ok_aN, ok_call, ok_nl, ok_fl, ok_afl, ok_T, ok_qNot, ok_qAnd, ok_qOr, ok_and, ok_or, ok_not, ok_if, ok_Sl, ok_oNo, ok_oOf, ok_Ch, ok_it, ok_itA, ok_yes, v_addI, v_sub, v_neg, v_eqI, v_eqS, v_eqB, v_eq0, v_eqT0, v_neI, v_neS, v_neB, v_ne0, v_neT0, v_ltI, v_leI, v_gtI, v_geI, v_is, v_isNot, v_nn, v_ns, v_ni, v_nl, v_nt, v_tb, v_tl, v_tt, v_tn, v_ti, v_asB, v_asI, v_asL, v_asT, v_asS, v_lenL, v_lenT, v_tupL, v_tupT, v_listL, v_listT, v_intB, v_tup0, v_tup1, v_tup2, v_tup3, v_tup4, v_tup5, v_lst0, v_lst1, v_lst2, v_lst3, v_lst4, v_lst5, v_ok0, v_ok1, v_ok2, v_ix0L, v_ix0, v_ix1, v_ix2, v_ix3, v_fs, v_fi, v_fb, v_fn, v_ft, v_f0, v_fc, startR, List.map_cons, List.map_nil, List.length_cons, List.length_nil, List.replicate, List.cons_append, List.nil_append, List.set_cons_zero, List.set_cons_succ, Option.some.injEq, exists_eq_left', Nat.reduceAdd, Nat.reduceSub, Nat.sub_zero, Nat.sub_self, Nat.zero_add, Nat.reduceEqDiff, Bool.not_true, Bool.not_false, if_true, if_false, Bool.and_self, Bool.true_and, Bool.and_true, Bool.false_eq_true, ↓reduceIte, true_and, and_true, decide_true, decide_false, wipeR]
  refine ⟨w, rfl, ?_⟩
  rw [show decide (w ∈ [Str.ofString "again", Str.ofString "itself", Str.ofString "both", Str.ofString "left", Str.ofString "right", Str.ofString "orleft", Str.ofString "orright", Str.ofString "then", Str.ofString "absurd", Str.ofString "nothing", Str.ofString "at", Str.ofString "such", Str.ofString "put"]) = true from hw]
  simp only [ok_V0, ok_Vs, ok_K, ok_B, ok_U, ok_nil, ok_cons, ok_N, ok_aN, ok_call, ok_nl, ok_fl, ok_afl, ok_T, ok_qNot, ok_qAnd, ok_qOr, ok_and, ok_or, ok_not, ok_if, ok_Sl, ok_oNo, ok_oOf, ok_Ch, ok_it, ok_itA, ok_yes, v_addI, v_sub, v_neg, v_eqI, v_eqS, v_eqB, v_eq0, v_eqT0, v_neI, v_neS, v_neB, v_ne0, v_neT0, v_ltI, v_leI, v_gtI, v_geI, v_is, v_isNot, v_nn, v_ns, v_ni, v_nl, v_nt, v_tb, v_tl, v_tt, v_tn, v_ti, v_asB, v_asI, v_asL, v_asT, v_asS, v_lenL, v_lenT, v_tupL, v_tupT, v_listL, v_listT, v_intB, v_tup0, v_tup1, v_tup2, v_tup3, v_tup4, v_tup5, v_lst0, v_lst1, v_lst2, v_lst3, v_lst4, v_lst5, v_ok0, v_ok1, v_ok2, v_ix0L, v_ix0, v_ix1, v_ix2, v_ix3, v_fs, v_fi, v_fb, v_fn, v_ft, v_f0, v_fc, startR, List.map_cons, List.map_nil, List.length_cons, List.length_nil, List.replicate, List.cons_append, List.nil_append, List.set_cons_zero, List.set_cons_succ, Option.some.injEq, exists_eq_left', Nat.reduceAdd, Nat.reduceSub, Nat.sub_zero, Nat.sub_self, Nat.zero_add, Nat.reduceEqDiff, Bool.not_true, Bool.not_false, if_true, if_false, Bool.and_self, Bool.true_and, Bool.and_true, Bool.false_eq_true, ↓reduceIte, true_and, and_true, decide_true, decide_false, wipeR]
  refine ⟨_, hv, _, hn, ?_⟩
  rw [hl]
  simp only [ok_V0, ok_Vs, ok_K, ok_B, ok_U, ok_nil, ok_cons, ok_N, ok_aN, ok_call, ok_nl, ok_fl, ok_afl, ok_T, ok_qNot, ok_qAnd, ok_qOr, ok_and, ok_or, ok_not, ok_if, ok_Sl, ok_oNo, ok_oOf, ok_Ch, ok_it, ok_itA, ok_yes, v_addI, v_sub, v_neg, v_eqI, v_eqS, v_eqB, v_eq0, v_eqT0, v_neI, v_neS, v_neB, v_ne0, v_neT0, v_ltI, v_leI, v_gtI, v_geI, v_is, v_isNot, v_nn, v_ns, v_ni, v_nl, v_nt, v_tb, v_tl, v_tt, v_tn, v_ti, v_asB, v_asI, v_asL, v_asT, v_asS, v_lenL, v_lenT, v_tupL, v_tupT, v_listL, v_listT, v_intB, v_tup0, v_tup1, v_tup2, v_tup3, v_tup4, v_tup5, v_lst0, v_lst1, v_lst2, v_lst3, v_lst4, v_lst5, v_ok0, v_ok1, v_ok2, v_ix0L, v_ix0, v_ix1, v_ix2, v_ix3, v_fs, v_fi, v_fb, v_fn, v_ft, v_f0, v_fc, startR, List.map_cons, List.map_nil, List.length_cons, List.length_nil, List.replicate, List.cons_append, List.nil_append, List.set_cons_zero, List.set_cons_succ, Option.some.injEq, exists_eq_left', Nat.reduceAdd, Nat.reduceSub, Nat.sub_zero, Nat.sub_self, Nat.zero_add, Nat.reduceEqDiff, Bool.not_true, Bool.not_false, if_true, if_false, Bool.and_self, Bool.true_and, Bool.and_true, Bool.false_eq_true, ↓reduceIte, true_and, and_true, decide_true, decide_false, wipeR]
  refine k_nx (k_disp (z := w) rfl hF (show 4 < 5 by decide) ?_)
  simp only [ok_V0, ok_Vs, ok_K, ok_B, ok_U, ok_nil, ok_cons, ok_N, ok_aN, ok_call, ok_nl, ok_fl, ok_afl, ok_T, ok_qNot, ok_qAnd, ok_qOr, ok_and, ok_or, ok_not, ok_if, ok_Sl, ok_oNo, ok_oOf, ok_Ch, ok_it, ok_itA, ok_yes, v_addI, v_sub, v_neg, v_eqI, v_eqS, v_eqB, v_eq0, v_eqT0, v_neI, v_neS, v_neB, v_ne0, v_neT0, v_ltI, v_leI, v_gtI, v_geI, v_is, v_isNot, v_nn, v_ns, v_ni, v_nl, v_nt, v_tb, v_tl, v_tt, v_tn, v_ti, v_asB, v_asI, v_asL, v_asT, v_asS, v_lenL, v_lenT, v_tupL, v_tupT, v_listL, v_listT, v_intB, v_tup0, v_tup1, v_tup2, v_tup3, v_tup4, v_tup5, v_lst0, v_lst1, v_lst2, v_lst3, v_lst4, v_lst5, v_ok0, v_ok1, v_ok2, v_ix0L, v_ix0, v_ix1, v_ix2, v_ix3, v_fs, v_fi, v_fb, v_fn, v_ft, v_f0, v_fc, startR, List.map_cons, List.map_nil, List.length_cons, List.length_nil, List.replicate, List.cons_append, List.nil_append, List.set_cons_zero, List.set_cons_succ, Option.some.injEq, exists_eq_left', Nat.reduceAdd, Nat.reduceSub, Nat.sub_zero, Nat.sub_self, Nat.zero_add, Nat.reduceEqDiff, Bool.not_true, Bool.not_false, if_true, if_false, Bool.and_self, Bool.true_and, Bool.and_true, Bool.false_eq_true, ↓reduceIte, true_and, and_true, decide_true, decide_false, wipeR]
  exact h
theorem fAt_hit {α : Type} {k : Str} {v : α} {r : List (Str × α)} : fAt ((k, v) :: r) k = some v := by rw [fAt_cons, if_pos rfl]
theorem fAt_miss {α : Type} {k z : Str} {v w : α} {r : List (Str × α)} (h : decide (k = z) = false) (h2 : fAt r z = some w) : fAt ((k, v) :: r) z = some w := by rw [fAt_cons, if_neg (of_decide_eq_false h), h2]
theorem cn_kk : pCount (.str (Str.ofString "kk")) (.str (Str.ofString "k")) = some (.int (2 : Nat)) := by
  show some (PyData.int (Txt.count (Str.ofString "kk") (Str.ofString "k"))) = _
  rw [show Txt.count (Str.ofString "kk") (Str.ofString "k") = 2 from by decide +kernel]
  rfl
section
variable {F1 F2 F3 F4 F5 F6 F7 F8 F9 F10 F11 F12 F13 : Fn S} {x y z nm : D} {Q : D → S → Prop}
theorem fol_put (h : Ok (F13 [x, .tuple [y, z], nm] s) Q) : Ok (Lw30.K_follows F1 F2 F3 F4 F5 F6 F7 F8 F9 F10 F11 F12 F13 [.str (Str.ofString "put"), x, .tuple [y, z], nm] s) Q :=
  fol_ok (n := 2) (v := Str.ofString "kk") (by decide +kernel) rfl cn_kk (fAt_miss (by decide +kernel) (fAt_miss (by decide +kernel) (fAt_miss (by decide +kernel) (fAt_miss (by decide +kernel) (fAt_miss (by decide +kernel) (fAt_miss (by decide +kernel) (fAt_miss (by decide +kernel) (fAt_miss (by decide +kernel) (fAt_miss (by decide +kernel) (fAt_miss (by decide +kernel) (fAt_miss (by decide +kernel) (fAt_miss (by decide +kernel) fAt_hit)))))))))))) rfl h
end
end
end Lw30
set_option Elab.async false
set_option linter.all false
set_option maxRecDepth 100000
set_option maxHeartbeats 1000000
/-! forms looked at and held against one another -/
namespace Lw30
open PySem PySem.Spec L2 Dl Mx Ds Lw01 Lw41
def Fo.head : Fo → Str
  | .is _ _ => Str.ofString "is"
  | .does _ _ _ => Str.ofString "does"
  | .same _ _ => Str.ofString "same"
  | .least _ _ => Str.ofString "least"
  | .fals => Str.ofString "false"
  | .no _ => Str.ofString "not"
  | .jn w _ _ => w.s
  | .qu w _ _ => w.s
def Fo.row : Fo → List D
  | .is t k => [.str t, .str k]
  | .does e t u => [.str e, .str t, .str u]
  | .same t u => [.str t, .str u]
  | .least a b => [totD a, totD b]
  | .fals => []
  | .no f => [f.d]
  | .jn w f g => [f.d, g.d]
  | .qu w x f => [.str x, f.d]
theorem d_row (f : Fo) : f.d = .tuple (.str f.head :: f.row) := by cases f <;> rfl
theorem head9 (f : Fo) : pIx f.d (.int 0) = some (.str f.head) := by rw [d_row]; exact v_ix0
abbrev e0 : Str := ⟨#[]⟩
theorem v_ix1L {c d : D} {ds : List D} : pIx (.list (c :: d :: ds)) (.int 1) = some d := by simp only [pIx]; exact atI_nat (j := 1) rfl
/-- forms at any time: well made, not deep -/
structure Gf (n : Nat) (f : Fo) : Prop where
  ok : f.ok
  dp : f.dep ≤ n
theorem Gf.mono {n m : Nat} {f : Fo} (h : Gf n f) (k : n ≤ m) : Gf m f := ⟨h.ok, Nat.le_trans h.dp k⟩
theorem Gf.no {n : Nat} {f : Fo} (h : Gf n f) : Gf (n + 1) (.no f) := ⟨h.ok, Nat.succ_le_succ h.dp⟩
theorem Gf.jn {n : Nat} {w : Jw} {f g : Fo} (h : Gf n f) (k : Gf n g) : Gf (n + 1) (.jn w f g) := ⟨⟨h.ok, k.ok⟩, by have := h.dp; have := k.dp; show max f.dep g.dep + 1 ≤ n + 1; omega⟩
theorem Gf.fals {n : Nat} : Gf n .fals := ⟨trivial, Nat.zero_le _⟩
end Lw30
set_option Elab.async false
set_option linter.all false
set_option maxRecDepth 100000
set_option maxHeartbeats 1000000
/-! a name put for a letter: the program's way and the law's -/
namespace Lw30
open PySem PySem.Spec L2 Dl Mx Ds Lw01 Lw41
def Fo.put (x n : Str) : Fo → Fo
  | .is t k => .is (if t = x then n else t) k
  | .does e t u => .does e (if t = x then n else t) (if u = x then n else u)
  | .same t u => .same (if t = x then n else t) (if u = x then n else u)
  | .least a b => .least a b
  | .fals => .fals
  | .no f => .no (f.put x n)
  | .jn w f g => .jn w (f.put x n) (g.put x n)
  | .qu w y f => if y = x then .qu w y f else .qu w y (f.put x n)
section
variable {S : Type} {s : S}
def Fo.bound : Fo → List Str
  | .qu _ y _ => [y]
  | _ => []
theorem pieces_x (f : Fo) : Lw30.K_pieces [f.d, .str (Str.ofString "x")] s = some (.list (f.bound.map .str), s) := by
  cases f with
  | jn w f g => cases w <;> rfl
  | qu w x f => cases w <;> rfl
  | _ => rfl
/-! put_at, place by place -/
section
variable {F : Fn S} {p : D} {x n : Str}
theorem at_F {d : D} (h : F [p, .str x, .str n] s = some (d, s)) : Lw30.K_put_at F [.str (Str.ofString "F"), p, .str x, .str n] s = some (d, s) := by
  refine ok_eq ?_
  unfold Lw30.K_put_at Lw30.B_put_at
  refine k_fn (k_seq (k_sIf ?_))
  simp only [ok_V0, ok_Vs, ok_K, ok_B, ok_U, ok_nil, ok_cons, ok_N, ok_aN, ok_call, ok_nl, ok_fl, ok_afl, ok_T, ok_qNot, ok_qAnd, ok_qOr, ok_and, ok_or, ok_not, ok_if, ok_Sl, ok_oNo, ok_oOf, ok_Ch, ok_it, ok_itA, ok_yes, v_addI, v_sub, v_neg, v_eqI, v_eqS, v_eqB, v_eq0, v_eqT0, v_neI, v_neS, v_neB, v_ne0, v_neT0, v_ltI, v_leI, v_gtI, v_geI, v_is, v_isNot, v_nn, v_ns, v_ni, v_nl, v_nt, v_tb, v_tl, v_tt, v_tn, v_ti, v_asB, v_asI, v_asL, v_asT, v_asS, v_lenL, v_lenT, v_tupL, v_tupT, v_listL, v_listT, v_intB, v_tup0, v_tup1, v_tup2, v_tup3, v_tup4, v_tup5, v_lst0, v_lst1, v_lst2, v_lst3, v_lst4, v_lst5, v_ok0, v_ok1, v_ok2, v_ix0L, v_ix0, v_ix1, v_ix2, v_ix3, v_fs, v_fi, v_fb, v_fn, v_ft, v_f0, v_fc, startR, List.map_cons, List.map_nil, List.length_cons, List.length_nil, List.replicate, List.cons_append, List.nil_append, List.set_cons_zero, List.set_cons_succ, Option.some.injEq, exists_eq_left', Nat.reduceAdd, Nat.reduceSub, Nat.sub_zero, Nat.sub_self, Nat.zero_add, Nat.reduceEqDiff, Bool.not_true, Bool.not_false, if_true, if_false, Bool.and_self, Bool.true_and, Bool.and_true, Bool.false_eq_true, ↓reduceIte, true_and, and_true, decide_true, decide_false, wipeR]
  refine k_ret ?_
  simp only [ok_V0, ok_Vs, ok_K, ok_B, ok_U, ok_nil, ok_cons, ok_N, ok_aN, ok_call, ok_nl, ok_fl, ok_afl, ok_T, ok_qNot, ok_qAnd, ok_qOr, ok_and, ok_or, ok_not, ok_if, ok_Sl, ok_oNo, ok_oOf, ok_Ch, ok_it, ok_itA, ok_yes, v_addI, v_sub, v_neg, v_eqI, v_eqS, v_eqB, v_eq0, v_eqT0, v_neI, v_neS, v_neB, v_ne0, v_neT0, v_ltI, v_leI, v_gtI, v_geI, v_is, v_isNot, v_nn, v_ns, v_ni, v_nl, v_nt, v_tb, v_tl, v_tt, v_tn, v_ti, v_asB, v_asI, v_asL, v_asT, v_asS, v_lenL, v_lenT, v_tupL, v_tupT, v_listL, v_listT, v_intB, v_tup0, v_tup1, v_tup2, v_tup3, v_tup4, v_tup5, v_lst0, v_lst1, v_lst2, v_lst3, v_lst4, v_lst5, v_ok0, v_ok1, v_ok2, v_ix0L, v_ix0, v_ix1, v_ix2, v_ix3, v_fs, v_fi, v_fb, v_fn, v_ft, v_f0, v_fc, startR, List.map_cons, List.map_nil, List.length_cons, List.length_nil, List.replicate, List.cons_append, List.nil_append, List.set_cons_zero, List.set_cons_succ, Option.some.injEq, exists_eq_left', Nat.reduceAdd, Nat.reduceSub, Nat.sub_zero, Nat.sub_self, Nat.zero_add, Nat.reduceEqDiff, Bool.not_true, Bool.not_false, if_true, if_false, Bool.and_self, Bool.true_and, Bool.and_true, Bool.false_eq_true, ↓reduceIte, true_and, and_true, decide_true, decide_false, wipeR]
  exact ⟨_, _, h, rfl, rfl⟩
theorem at_t {t : Str} : Lw30.K_put_at F [.str (Str.ofString "t"), .str t, .str x, .str n] s = some (.str (if t = x then n else t), s) := by
  refine ok_eq ?_
  unfold Lw30.K_put_at Lw30.B_put_at
  refine k_fn (k_seq (k_sIf ?_))
  simp only [ok_V0, ok_Vs, ok_K, ok_B, ok_U, ok_nil, ok_cons, ok_N, ok_aN, ok_call, ok_nl, ok_fl, ok_afl, ok_T, ok_qNot, ok_qAnd, ok_qOr, ok_and, ok_or, ok_not, ok_if, ok_Sl, ok_oNo, ok_oOf, ok_Ch, ok_it, ok_itA, ok_yes, v_addI, v_sub, v_neg, v_eqI, v_eqS, v_eqB, v_eq0, v_eqT0, v_neI, v_neS, v_neB, v_ne0, v_neT0, v_ltI, v_leI, v_gtI, v_geI, v_is, v_isNot, v_nn, v_ns, v_ni, v_nl, v_nt, v_tb, v_tl, v_tt, v_tn, v_ti, v_asB, v_asI, v_asL, v_asT, v_asS, v_lenL, v_lenT, v_tupL, v_tupT, v_listL, v_listT, v_intB, v_tup0, v_tup1, v_tup2, v_tup3, v_tup4, v_tup5, v_lst0, v_lst1, v_lst2, v_lst3, v_lst4, v_lst5, v_ok0, v_ok1, v_ok2, v_ix0L, v_ix0, v_ix1, v_ix2, v_ix3, v_fs, v_fi, v_fb, v_fn, v_ft, v_f0, v_fc, startR, List.map_cons, List.map_nil, List.length_cons, List.length_nil, List.replicate, List.cons_append, List.nil_append, List.set_cons_zero, List.set_cons_succ, Option.some.injEq, exists_eq_left', Nat.reduceAdd, Nat.reduceSub, Nat.sub_zero, Nat.sub_self, Nat.zero_add, Nat.reduceEqDiff, Bool.not_true, Bool.not_false, if_true, if_false, Bool.and_self, Bool.true_and, Bool.and_true, Bool.false_eq_true, ↓reduceIte, true_and, and_true, decide_true, decide_false, wipeR]
  rw [show decide (Str.ofString "t" = Str.ofString "F") = false from by decide +kernel]
  simp only [ok_V0, ok_Vs, ok_K, ok_B, ok_U, ok_nil, ok_cons, ok_N, ok_aN, ok_call, ok_nl, ok_fl, ok_afl, ok_T, ok_qNot, ok_qAnd, ok_qOr, ok_and, ok_or, ok_not, ok_if, ok_Sl, ok_oNo, ok_oOf, ok_Ch, ok_it, ok_itA, ok_yes, v_addI, v_sub, v_neg, v_eqI, v_eqS, v_eqB, v_eq0, v_eqT0, v_neI, v_neS, v_neB, v_ne0, v_neT0, v_ltI, v_leI, v_gtI, v_geI, v_is, v_isNot, v_nn, v_ns, v_ni, v_nl, v_nt, v_tb, v_tl, v_tt, v_tn, v_ti, v_asB, v_asI, v_asL, v_asT, v_asS, v_lenL, v_lenT, v_tupL, v_tupT, v_listL, v_listT, v_intB, v_tup0, v_tup1, v_tup2, v_tup3, v_tup4, v_tup5, v_lst0, v_lst1, v_lst2, v_lst3, v_lst4, v_lst5, v_ok0, v_ok1, v_ok2, v_ix0L, v_ix0, v_ix1, v_ix2, v_ix3, v_fs, v_fi, v_fb, v_fn, v_ft, v_f0, v_fc, startR, List.map_cons, List.map_nil, List.length_cons, List.length_nil, List.replicate, List.cons_append, List.nil_append, List.set_cons_zero, List.set_cons_succ, Option.some.injEq, exists_eq_left', Nat.reduceAdd, Nat.reduceSub, Nat.sub_zero, Nat.sub_self, Nat.zero_add, Nat.reduceEqDiff, Bool.not_true, Bool.not_false, if_true, if_false, Bool.and_self, Bool.true_and, Bool.and_true, Bool.false_eq_true, ↓reduceIte, true_and, and_true, decide_true, decide_false, wipeR]
  refine k_nx (k_seq (k_sIf ?_))
  simp only [ok_V0, ok_Vs, ok_K, ok_B, ok_U, ok_nil, ok_cons, ok_N, ok_aN, ok_call, ok_nl, ok_fl, ok_afl, ok_T, ok_qNot, ok_qAnd, ok_qOr, ok_and, ok_or, ok_not, ok_if, ok_Sl, ok_oNo, ok_oOf, ok_Ch, ok_it, ok_itA, ok_yes, v_addI, v_sub, v_neg, v_eqI, v_eqS, v_eqB, v_eq0, v_eqT0, v_neI, v_neS, v_neB, v_ne0, v_neT0, v_ltI, v_leI, v_gtI, v_geI, v_is, v_isNot, v_nn, v_ns, v_ni, v_nl, v_nt, v_tb, v_tl, v_tt, v_tn, v_ti, v_asB, v_asI, v_asL, v_asT, v_asS, v_lenL, v_lenT, v_tupL, v_tupT, v_listL, v_listT, v_intB, v_tup0, v_tup1, v_tup2, v_tup3, v_tup4, v_tup5, v_lst0, v_lst1, v_lst2, v_lst3, v_lst4, v_lst5, v_ok0, v_ok1, v_ok2, v_ix0L, v_ix0, v_ix1, v_ix2, v_ix3, v_fs, v_fi, v_fb, v_fn, v_ft, v_f0, v_fc, startR, List.map_cons, List.map_nil, List.length_cons, List.length_nil, List.replicate, List.cons_append, List.nil_append, List.set_cons_zero, List.set_cons_succ, Option.some.injEq, exists_eq_left', Nat.reduceAdd, Nat.reduceSub, Nat.sub_zero, Nat.sub_self, Nat.zero_add, Nat.reduceEqDiff, Bool.not_true, Bool.not_false, if_true, if_false, Bool.and_self, Bool.true_and, Bool.and_true, Bool.false_eq_true, ↓reduceIte, true_and, and_true, decide_true, decide_false, wipeR]
  by_cases e : t = x
  · simp only [e, ok_V0, ok_Vs, ok_K, ok_B, ok_U, ok_nil, ok_cons, ok_N, ok_aN, ok_call, ok_nl, ok_fl, ok_afl, ok_T, ok_qNot, ok_qAnd, ok_qOr, ok_and, ok_or, ok_not, ok_if, ok_Sl, ok_oNo, ok_oOf, ok_Ch, ok_it, ok_itA, ok_yes, v_addI, v_sub, v_neg, v_eqI, v_eqS, v_eqB, v_eq0, v_eqT0, v_neI, v_neS, v_neB, v_ne0, v_neT0, v_ltI, v_leI, v_gtI, v_geI, v_is, v_isNot, v_nn, v_ns, v_ni, v_nl, v_nt, v_tb, v_tl, v_tt, v_tn, v_ti, v_asB, v_asI, v_asL, v_asT, v_asS, v_lenL, v_lenT, v_tupL, v_tupT, v_listL, v_listT, v_intB, v_tup0, v_tup1, v_tup2, v_tup3, v_tup4, v_tup5, v_lst0, v_lst1, v_lst2, v_lst3, v_lst4, v_lst5, v_ok0, v_ok1, v_ok2, v_ix0L, v_ix0, v_ix1, v_ix2, v_ix3, v_fs, v_fi, v_fb, v_fn, v_ft, v_f0, v_fc, startR, List.map_cons, List.map_nil, List.length_cons, List.length_nil, List.replicate, List.cons_append, List.nil_append, List.set_cons_zero, List.set_cons_succ, Option.some.injEq, exists_eq_left', Nat.reduceAdd, Nat.reduceSub, Nat.sub_zero, Nat.sub_self, Nat.zero_add, Nat.reduceEqDiff, Bool.not_true, Bool.not_false, if_true, if_false, Bool.and_self, Bool.true_and, Bool.and_true, Bool.false_eq_true, ↓reduceIte, true_and, and_true, decide_true, decide_false, wipeR]
    refine k_ret ?_
    simp only [ok_V0, ok_Vs, ok_K, ok_B, ok_U, ok_nil, ok_cons, ok_N, ok_aN, ok_call, ok_nl, ok_fl, ok_afl, ok_T, ok_qNot, ok_qAnd, ok_qOr, ok_and, ok_or, ok_not, ok_if, ok_Sl, ok_oNo, ok_oOf, ok_Ch, ok_it, ok_itA, ok_yes, v_addI, v_sub, v_neg, v_eqI, v_eqS, v_eqB, v_eq0, v_eqT0, v_neI, v_neS, v_neB, v_ne0, v_neT0, v_ltI, v_leI, v_gtI, v_geI, v_is, v_isNot, v_nn, v_ns, v_ni, v_nl, v_nt, v_tb, v_tl, v_tt, v_tn, v_ti, v_asB, v_asI, v_asL, v_asT, v_asS, v_lenL, v_lenT, v_tupL, v_tupT, v_listL, v_listT, v_intB, v_tup0, v_tup1, v_tup2, v_tup3, v_tup4, v_tup5, v_lst0, v_lst1, v_lst2, v_lst3, v_lst4, v_lst5, v_ok0, v_ok1, v_ok2, v_ix0L, v_ix0, v_ix1, v_ix2, v_ix3, v_fs, v_fi, v_fb, v_fn, v_ft, v_f0, v_fc, startR, List.map_cons, List.map_nil, List.length_cons, List.length_nil, List.replicate, List.cons_append, List.nil_append, List.set_cons_zero, List.set_cons_succ, Option.some.injEq, exists_eq_left', Nat.reduceAdd, Nat.reduceSub, Nat.sub_zero, Nat.sub_self, Nat.zero_add, Nat.reduceEqDiff, Bool.not_true, Bool.not_false, if_true, if_false, Bool.and_self, Bool.true_and, Bool.and_true, Bool.false_eq_true, ↓reduceIte, true_and, and_true, decide_true, decide_false, wipeR]
  · simp only [e, ok_V0, ok_Vs, ok_K, ok_B, ok_U, ok_nil, ok_cons, ok_N, ok_aN, ok_call, ok_nl, ok_fl, ok_afl, ok_T, ok_qNot, ok_qAnd, ok_qOr, ok_and, ok_or, ok_not, ok_if, ok_Sl, ok_oNo, ok_oOf, ok_Ch, ok_it, ok_itA, ok_yes, v_addI, v_sub, v_neg, v_eqI, v_eqS, v_eqB, v_eq0, v_eqT0, v_neI, v_neS, v_neB, v_ne0, v_neT0, v_ltI, v_leI, v_gtI, v_geI, v_is, v_isNot, v_nn, v_ns, v_ni, v_nl, v_nt, v_tb, v_tl, v_tt, v_tn, v_ti, v_asB, v_asI, v_asL, v_asT, v_asS, v_lenL, v_lenT, v_tupL, v_tupT, v_listL, v_listT, v_intB, v_tup0, v_tup1, v_tup2, v_tup3, v_tup4, v_tup5, v_lst0, v_lst1, v_lst2, v_lst3, v_lst4, v_lst5, v_ok0, v_ok1, v_ok2, v_ix0L, v_ix0, v_ix1, v_ix2, v_ix3, v_fs, v_fi, v_fb, v_fn, v_ft, v_f0, v_fc, startR, List.map_cons, List.map_nil, List.length_cons, List.length_nil, List.replicate, List.cons_append, List.nil_append, List.set_cons_zero, List.set_cons_succ, Option.some.injEq, exists_eq_left', Nat.reduceAdd, Nat.reduceSub, Nat.sub_zero, Nat.sub_self, Nat.zero_add, Nat.reduceEqDiff, Bool.not_true, Bool.not_false, if_true, if_false, Bool.and_self, Bool.true_and, Bool.and_true, Bool.false_eq_true, ↓reduceIte, true_and, and_true, decide_true, decide_false, wipeR]
    refine k_nx (k_ret ?_)
    simp only [ok_V0, ok_Vs, ok_K, ok_B, ok_U, ok_nil, ok_cons, ok_N, ok_aN, ok_call, ok_nl, ok_fl, ok_afl, ok_T, ok_qNot, ok_qAnd, ok_qOr, ok_and, ok_or, ok_not, ok_if, ok_Sl, ok_oNo, ok_oOf, ok_Ch, ok_it, ok_itA, ok_yes, v_addI, v_sub, v_neg, v_eqI, v_eqS, v_eqB, v_eq0, v_eqT0, v_neI, v_neS, v_neB, v_ne0, v_neT0, v_ltI, v_leI, v_gtI, v_geI, v_is, v_isNot, v_nn, v_ns, v_ni, v_nl, v_nt, v_tb, v_tl, v_tt, v_tn, v_ti, v_asB, v_asI, v_asL, v_asT, v_asS, v_lenL, v_lenT, v_tupL, v_tupT, v_listL, v_listT, v_intB, v_tup0, v_tup1, v_tup2, v_tup3, v_tup4, v_tup5, v_lst0, v_lst1, v_lst2, v_lst3, v_lst4, v_lst5, v_ok0, v_ok1, v_ok2, v_ix0L, v_ix0, v_ix1, v_ix2, v_ix3, v_fs, v_fi, v_fb, v_fn, v_ft, v_f0, v_fc, startR, List.map_cons, List.map_nil, List.length_cons, List.length_nil, List.replicate, List.cons_append, List.nil_append, List.set_cons_zero, List.set_cons_succ, Option.some.injEq, exists_eq_left', Nat.reduceAdd, Nat.reduceSub, Nat.sub_zero, Nat.sub_self, Nat.zero_add, Nat.reduceEqDiff, Bool.not_true, Bool.not_false, if_true, if_false, Bool.and_self, Bool.true_and, Bool.and_true, Bool.false_eq_true, ↓reduceIte, true_and, and_true, decide_true, decide_false, wipeR]
theorem at_o {pl : Str} (h1 : decide (pl = Str.ofString "F") = false) (h2 : decide (pl = Str.ofString "t") = false) : Lw30.K_put_at F [.str pl, p, .str x, .str n] s = some (p, s) := by
  refine ok_eq ?_
  unfold Lw30.K_put_at Lw30.B_put_at
  refine k_fn (k_seq (k_sIf ?_))
  simp only [ok_V0, ok_Vs, ok_K, ok_B, ok_U, ok_nil, ok_cons, ok_N, ok_aN, ok_call, ok_nl, ok_fl, ok_afl, ok_T, ok_qNot, ok_qAnd, ok_qOr, ok_and, ok_or, ok_not, ok_if, ok_Sl, ok_oNo, ok_oOf, ok_Ch, ok_it, ok_itA, ok_yes, v_addI, v_sub, v_neg, v_eqI, v_eqS, v_eqB, v_eq0, v_eqT0, v_neI, v_neS, v_neB, v_ne0, v_neT0, v_ltI, v_leI, v_gtI, v_geI, v_is, v_isNot, v_nn, v_ns, v_ni, v_nl, v_nt, v_tb, v_tl, v_tt, v_tn, v_ti, v_asB, v_asI, v_asL, v_asT, v_asS, v_lenL, v_lenT, v_tupL, v_tupT, v_listL, v_listT, v_intB, v_tup0, v_tup1, v_tup2, v_tup3, v_tup4, v_tup5, v_lst0, v_lst1, v_lst2, v_lst3, v_lst4, v_lst5, v_ok0, v_ok1, v_ok2, v_ix0L, v_ix0, v_ix1, v_ix2, v_ix3, v_fs, v_fi, v_fb, v_fn, v_ft, v_f0, v_fc, startR, List.map_cons, List.map_nil, List.length_cons, List.length_nil, List.replicate, List.cons_append, List.nil_append, List.set_cons_zero, List.set_cons_succ, Option.some.injEq, exists_eq_left', Nat.reduceAdd, Nat.reduceSub, Nat.sub_zero, Nat.sub_self, Nat.zero_add, Nat.reduceEqDiff, Bool.not_true, Bool.not_false, if_true, if_false, Bool.and_self, Bool.true_and, Bool.and_true, Bool.false_eq_true, ↓reduceIte, true_and, and_true, decide_true, decide_false, wipeR, h1]
  refine k_nx (k_seq (k_sIf ?_))
  simp only [ok_V0, ok_Vs, ok_K, ok_B, ok_U, ok_nil, ok_cons, ok_N, ok_aN, ok_call, ok_nl, ok_fl, ok_afl, ok_T, ok_qNot, ok_qAnd, ok_qOr, ok_and, ok_or, ok_not, ok_if, ok_Sl, ok_oNo, ok_oOf, ok_Ch, ok_it, ok_itA, ok_yes, v_addI, v_sub, v_neg, v_eqI, v_eqS, v_eqB, v_eq0, v_eqT0, v_neI, v_neS, v_neB, v_ne0, v_neT0, v_ltI, v_leI, v_gtI, v_geI, v_is, v_isNot, v_nn, v_ns, v_ni, v_nl, v_nt, v_tb, v_tl, v_tt, v_tn, v_ti, v_asB, v_asI, v_asL, v_asT, v_asS, v_lenL, v_lenT, v_tupL, v_tupT, v_listL, v_listT, v_intB, v_tup0, v_tup1, v_tup2, v_tup3, v_tup4, v_tup5, v_lst0, v_lst1, v_lst2, v_lst3, v_lst4, v_lst5, v_ok0, v_ok1, v_ok2, v_ix0L, v_ix0, v_ix1, v_ix2, v_ix3, v_fs, v_fi, v_fb, v_fn, v_ft, v_f0, v_fc, startR, List.map_cons, List.map_nil, List.length_cons, List.length_nil, List.replicate, List.cons_append, List.nil_append, List.set_cons_zero, List.set_cons_succ, Option.some.injEq, exists_eq_left', Nat.reduceAdd, Nat.reduceSub, Nat.sub_zero, Nat.sub_self, Nat.zero_add, Nat.reduceEqDiff, Bool.not_true, Bool.not_false, if_true, if_false, Bool.and_self, Bool.true_and, Bool.and_true, Bool.false_eq_true, ↓reduceIte, true_and, and_true, decide_true, decide_false, wipeR, h2]
  refine k_nx (k_ret ?_)
  simp only [ok_V0, ok_Vs, ok_K, ok_B, ok_U, ok_nil, ok_cons, ok_N, ok_aN, ok_call, ok_nl, ok_fl, ok_afl, ok_T, ok_qNot, ok_qAnd, ok_qOr, ok_and, ok_or, ok_not, ok_if, ok_Sl, ok_oNo, ok_oOf, ok_Ch, ok_it, ok_itA, ok_yes, v_addI, v_sub, v_neg, v_eqI, v_eqS, v_eqB, v_eq0, v_eqT0, v_neI, v_neS, v_neB, v_ne0, v_neT0, v_ltI, v_leI, v_gtI, v_geI, v_is, v_isNot, v_nn, v_ns, v_ni, v_nl, v_nt, v_tb, v_tl, v_tt, v_tn, v_ti, v_asB, v_asI, v_asL, v_asT, v_asS, v_lenL, v_lenT, v_tupL, v_tupT, v_listL, v_listT, v_intB, v_tup0, v_tup1, v_tup2, v_tup3, v_tup4, v_tup5, v_lst0, v_lst1, v_lst2, v_lst3, v_lst4, v_lst5, v_ok0, v_ok1, v_ok2, v_ix0L, v_ix0, v_ix1, v_ix2, v_ix3, v_fs, v_fi, v_fb, v_fn, v_ft, v_f0, v_fc, startR, List.map_cons, List.map_nil, List.length_cons, List.length_nil, List.replicate, List.cons_append, List.nil_append, List.set_cons_zero, List.set_cons_succ, Option.some.injEq, exists_eq_left', Nat.reduceAdd, Nat.reduceSub, Nat.sub_zero, Nat.sub_self, Nat.zero_add, Nat.reduceEqDiff, Bool.not_true, Bool.not_false, if_true, if_false, Bool.and_self, Bool.true_and, Bool.and_true, Bool.false_eq_true, ↓reduceIte, true_and, and_true, decide_true, decide_false, wipeR]
end
theorem at_k {F : Fn S} {p : D} {x n : Str} : Lw30.K_put_at F [.str (Str.ofString "k"), p, .str x, .str n] s = some (p, s) := at_o (by decide +kernel) (by decide +kernel)
theorem at_d {F : Fn S} {p : D} {x n : Str} : Lw30.K_put_at F [.str (Str.ofString "d"), p, .str x, .str n] s = some (p, s) := at_o (by decide +kernel) (by decide +kernel)
theorem at_s {F : Fn S} {p : D} {x n : Str} : Lw30.K_put_at F [.str (Str.ofString "s"), p, .str x, .str n] s = some (p, s) := at_o (by decide +kernel) (by decide +kernel)
theorem at_x {F : Fn S} {p : D} {x n : Str} : Lw30.K_put_at F [.str (Str.ofString "x"), p, .str x, .str n] s = some (p, s) := at_o (by decide +kernel) (by decide +kernel)
end
end Lw30
set_option Elab.async false
set_option linter.all false
set_option maxRecDepth 100000
set_option maxHeartbeats 1000000
namespace Lw30
open PySem PySem.Spec L2 Dl Mx Ds Lw01 Lw41
section
variable {S : Type} {s : S}
/-! the law's way -/
def Fo.isFL : Fo → Bool
  | .fals => true
  | .least _ _ => true
  | _ => false
def Fo.isT : Fo → Bool
  | .is _ _ => true
  | .does _ _ _ => true
  | .same _ _ => true
  | _ => false
def Fo.isQ : Fo → Bool
  | .qu _ _ _ => true
  | _ => false
abbrev flS : List Str := [Str.ofString "false", Str.ofString "least"]
abbrev tS : List Str := [Str.ofString "is", Str.ofString "does", Str.ofString "same"]
abbrev qS : List Str := [Str.ofString "every", Str.ofString "some"]
theorem h_fl (f : Fo) : pIn (.str f.head) (.tuple [.str (Str.ofString "false"), .str (Str.ofString "least")]) = some (.bool f.isFL) := by
  refine (in_strs f.head flS).trans ?_
  congr 2
  cases f with
  | is t k => show decide (Str.ofString "is" ∈ flS) = false; decide +kernel
  | does e t k => show decide (Str.ofString "does" ∈ flS) = false; decide +kernel
  | same t k => show decide (Str.ofString "same" ∈ flS) = false; decide +kernel
  | least a b => show decide (Str.ofString "least" ∈ flS) = true; decide +kernel
  | fals => show decide (Str.ofString "false" ∈ flS) = true; decide +kernel
  | no f => show decide (Str.ofString "not" ∈ flS) = false; decide +kernel
  | jn w f g => show decide (w.s ∈ flS) = false; cases w <;> decide +kernel
  | qu w x f => show decide (w.s ∈ flS) = false; cases w <;> decide +kernel
theorem h_t (f : Fo) : pIn (.str f.head) (.tuple [.str (Str.ofString "is"), .str (Str.ofString "does"), .str (Str.ofString "same")]) = some (.bool f.isT) := by
  refine (in_strs f.head tS).trans ?_
  congr 2
  cases f with
  | is t k => show decide (Str.ofString "is" ∈ tS) = true; decide +kernel
  | does e t k => show decide (Str.ofString "does" ∈ tS) = true; decide +kernel
  | same t k => show decide (Str.ofString "same" ∈ tS) = true; decide +kernel
  | least a b => show decide (Str.ofString "least" ∈ tS) = false; decide +kernel
  | fals => show decide (Str.ofString "false" ∈ tS) = false; decide +kernel
  | no f => show decide (Str.ofString "not" ∈ tS) = false; decide +kernel
  | jn w f g => show decide (w.s ∈ tS) = false; cases w <;> decide +kernel
  | qu w x f => show decide (w.s ∈ tS) = false; cases w <;> decide +kernel
theorem h_q (f : Fo) : pIn (.str f.head) (.tuple [.str (Str.ofString "every"), .str (Str.ofString "some")]) = some (.bool f.isQ) := by
  refine (in_strs f.head qS).trans ?_
  congr 2
  cases f with
  | is t k => show decide (Str.ofString "is" ∈ qS) = false; decide +kernel
  | does e t k => show decide (Str.ofString "does" ∈ qS) = false; decide +kernel
  | same t k => show decide (Str.ofString "same" ∈ qS) = false; decide +kernel
  | least a b => show decide (Str.ofString "least" ∈ qS) = false; decide +kernel
  | fals => show decide (Str.ofString "false" ∈ qS) = false; decide +kernel
  | no f => show decide (Str.ofString "not" ∈ qS) = false; decide +kernel
  | jn w f g => show decide (w.s ∈ qS) = false; cases w <;> decide +kernel
  | qu w x f => show decide (w.s ∈ qS) = true; cases w <;> decide +kernel
theorem ix_pick {a b : D} (c : Bool) : pIx (.list [a, b]) (.int (if c = true then 1 else 0)) = some (if c = true then b else a) := by
  cases c with
  | true => exact v_ix1L
  | false => exact v_ix0L
end
end Lw30
set_option Elab.async false
set_option linter.all false
set_option maxRecDepth 100000
set_option maxHeartbeats 1000000
/-! k32: forms put otherwise, as lists; whether one form is another put otherwise, as an equation -/
namespace Lw32
open PySem PySem.Spec L2 Dl Mx Ds Lw01 Lw41
open Lw30 (Fo Fo.d Fo.dep Fo.ok Fo.head Fo.row Fo.bound d_row head9 sok lets lit_ok jw_sok qw_sok smp_tot dep_fo t_SHAPES Jw Qw)
/-- well made: no name is bound -/
def Wk : Fo → Prop
  | .is t k => sok t ∧ sok k
  | .does e t u => sok e ∧ sok t ∧ sok u
  | .same t u => sok t ∧ sok u
  | .least a b => (∀ p ∈ a.1, sok p.1) ∧ ∀ p ∈ b.1, sok p.1
  | .fals => True
  | .no f => Wk f
  | .jn _ f g => Wk f ∧ Wk g
  | .qu _ x f => sok x ∧ nameB (.str x) = false ∧ Wk f
theorem lets_no {x : Str} (h : x ∈ lets) : nameB (.str x) = false := by
  have k : (lets.all fun x => !nameB (.str x)) = true := by decide +kernel
  have := List.all_eq_true.mp k x h
  simpa using this
theorem wk_of : ∀ f : Fo, f.ok → Wk f
  | .is t k, h => ⟨h.1, h.2.1⟩
  | .does e t u, h => ⟨h.1, h.2.1, h.2.2.1⟩
  | .same t u, h => h
  | .least a b, h => h
  | .fals, _ => trivial
  | .no f, h => wk_of f h
  | .jn _ f g, h => ⟨wk_of f h.1, wk_of g h.2⟩
  | .qu _ x f, h => ⟨h.1, lets_no h.2.2, wk_of f h.2.1⟩
theorem smp_wk : ∀ f : Fo, Wk f → Lw38.smp f.d = true
  | .is t k, h => by simp [Fo.d, Lw38.smp, Lw38.smpAll, h.1, h.2, lit_ok]
  | .does e t u, h => by simp [Fo.d, Lw38.smp, Lw38.smpAll, h.1, h.2.1, h.2.2, lit_ok]
  | .same t u, h => by simp [Fo.d, Lw38.smp, Lw38.smpAll, h.1, h.2, lit_ok]
  | .least a b, h => by
    have h1 := smp_tot h.1
    have h2 := smp_tot h.2
    simp [Fo.d, Lw38.smp, Lw38.smpAll, h1, h2, lit_ok]
  | .fals, h => by simp [Fo.d, Lw38.smp, Lw38.smpAll, lit_ok]
  | .no f, h => by
    have h1 := smp_wk f h
    simp [Fo.d, Lw38.smp, Lw38.smpAll, h1, lit_ok]
  | .jn w f g, h => by
    have h1 := smp_wk f h.1
    have h2 := smp_wk g h.2
    have h3 := jw_sok w
    simp [Fo.d, Lw38.smp, Lw38.smpAll, h1, h2, h3]
  | .qu w x f, h => by
    have h1 := smp_wk f h.2.2
    have h2 := h.1
    have h3 := qw_sok w
    simp [Fo.d, Lw38.smp, Lw38.smpAll, h1, h2, h3]
def idx (x : Str) : Nat :=
  if x = Str.ofString "is" then 0 else if x = Str.ofString "does" then 1 else if x = Str.ofString "same" then 2 else if x = Str.ofString "least" then 3 else if x = Str.ofString "false" then 4 else if x = Str.ofString "not" then 5 else if x = Str.ofString "every" then 7 else if x = Str.ofString "some" then 7 else 6
def tag : Fo → Nat
  | .is _ _ => 0
  | .does _ _ _ => 1
  | .same _ _ => 2
  | .least _ _ => 3
  | .fals => 4
  | .no _ => 5
  | .jn _ _ _ => 6
  | .qu _ _ _ => 7
theorem idx_head (f : Fo) : idx f.head = tag f := by
  cases f with
  | is t k => show idx (Str.ofString "is") = 0; decide +kernel
  | does e t k => show idx (Str.ofString "does") = 1; decide +kernel
  | same t k => show idx (Str.ofString "same") = 2; decide +kernel
  | least a b => show idx (Str.ofString "least") = 3; decide +kernel
  | fals => show idx (Str.ofString "false") = 4; decide +kernel
  | no f => show idx (Str.ofString "not") = 5; decide +kernel
  | jn w f g => show idx w.s = 6; cases w <;> decide +kernel
  | qu w x f => show idx w.s = 7; cases w <;> decide +kernel
theorem tag_eq {f g : Fo} (h : f.head = g.head) : tag f = tag g := by rw [← idx_head, ← idx_head, h]
theorem head_eq {f g : Fo} (h : f.d = g.d) : f.head = g.head ∧ f.row = g.row := by
  rw [d_row f, d_row g, PyData.tuple.injEq, List.cons.injEq, PyData.str.injEq] at h
  exact h
theorem d_inj : ∀ f g : Fo, f.d = g.d → f = g := by
  intro f
  induction f with
  | is t k => intro g h; have h2 := head_eq h; have h3 := tag_eq h2.1; cases g <;> simp [tag, Fo.row] at h3 h2; rw [h2.2.1, h2.2.2]
  | does e t k => intro g h; have h2 := head_eq h; have h3 := tag_eq h2.1; cases g <;> simp [tag, Fo.row] at h3 h2; rw [h2.2.1, h2.2.2.1, h2.2.2.2]
  | same t k => intro g h; have h2 := head_eq h; have h3 := tag_eq h2.1; cases g <;> simp [tag, Fo.row] at h3 h2; rw [h2.2.1, h2.2.2]
  | least t k => intro g h; have h2 := head_eq h; have h3 := tag_eq h2.1; cases g <;> simp [tag, Fo.row] at h3 h2; rw [Lw38.tot_inj h2.2.1, Lw38.tot_inj h2.2.2]
  | fals => intro g h; have h2 := head_eq h; have h3 := tag_eq h2.1; cases g <;> simp [tag] at h3 ⊢
  | no f ih => intro g h; have h2 := head_eq h; have h3 := tag_eq h2.1; cases g <;> simp [tag, Fo.row] at h3 h2; rw [ih _ h2.2]
  | jn w f f' ih ih' =>
    intro g h; have h2 := head_eq h; have h3 := tag_eq h2.1; cases g <;> simp [tag, Fo.row] at h3 h2
    rw [Lw38.jw_inj (show w.s = _ from h2.1), ih _ h2.2.1, ih' _ h2.2.2]
  | qu w x f ih =>
    intro g h; have h2 := head_eq h; have h3 := tag_eq h2.1; cases g <;> simp [tag, Fo.row] at h3 h2
    rw [Lw38.qw_inj (show w.s = _ from h2.1), h2.2.1, ih _ h2.2.2]
/-! whether a form is another with b in the place of a -/
def ptm (a b t t' : Str) : Bool := decide (t = t') || (decide (t = a) && decide (t' = b))
def pu (a b : Str) : Fo → Fo → Bool
  | .is t k, .is t' k' => ptm a b t t' && decide (k = k')
  | .does e t u, .does e' t' u' => decide (e = e') && (ptm a b t t' && ptm a b u u')
  | .same t u, .same t' u' => ptm a b t t' && ptm a b u u'
  | .least p q, .least p' q' => decide (p = p') && decide (q = q')
  | .fals, .fals => true
  | .no f, .no g => pu a b f g
  | .jn w f f2, .jn w' g g2 => decide (w.s = w'.s) && (pu a b f g && pu a b f2 g2)
  | .qu w x f, .qu w' y g => decide (w.s = w'.s) && (decide (x = y) && pu a b f g)
  | _, _ => false
/-- neither is bound there -/
def nb (a b : Str) : Fo → Prop
  | .no f => nb a b f
  | .jn _ f g => nb a b f ∧ nb a b g
  | .qu _ x f => a ≠ x ∧ b ≠ x ∧ nb a b f
  | _ => True
theorem nb_of {a b : Str} (ha : nameB (.str a) = true) (hb : nameB (.str b) = true) : ∀ f : Fo, Wk f → nb a b f
  | .is _ _, _ => trivial
  | .does _ _ _, _ => trivial
  | .same _ _, _ => trivial
  | .least _ _, _ => trivial
  | .fals, _ => trivial
  | .no f, h => nb_of ha hb f h
  | .jn _ f g, h => ⟨nb_of ha hb f h.1, nb_of ha hb g h.2⟩
  | .qu _ x f, h => ⟨fun e => (by have k := h.2.1; rw [← e, ha] at k; exact Bool.noConfusion k), fun e => (by have k := h.2.1; rw [← e, hb] at k; exact Bool.noConfusion k), nb_of ha hb f h.2.2⟩
section
variable {S : Type} {s : S} {F : Fn S} {a b : Str}
theorem at_F {x y : D} {c : Bool} (h : F [.str a, .str b, x, y] s = some (.bool c, s)) : K_puts_at F [.str (Str.ofString "F"), .str a, .str b, x, y] s = some (.bool c, s) := by
  refine ok_eq ?_
  unfold K_puts_at B_puts_at
  refine k_fn (k_seq (k_sIf ?_))
  simp only [ok_V0, ok_Vs, ok_K, ok_B, ok_U, ok_nil, ok_cons, ok_N, ok_aN, ok_call, ok_nl, ok_fl, ok_afl, ok_T, ok_qNot, ok_qAnd, ok_qOr, ok_and, ok_or, ok_not, ok_if, ok_Sl, ok_oNo, ok_oOf, ok_Ch, ok_it, ok_itA, ok_yes, v_addI, v_sub, v_neg, v_eqI, v_eqS, v_eqB, v_eq0, v_eqT0, v_neI, v_neS, v_neB, v_ne0, v_neT0, v_ltI, v_leI, v_gtI, v_geI, v_is, v_isNot, v_nn, v_ns, v_ni, v_nl, v_nt, v_tb, v_tl, v_tt, v_tn, v_ti, v_asB, v_asI, v_asL, v_asT, v_asS, v_lenL, v_lenT, v_tupL, v_tupT, v_listL, v_listT, v_intB, v_tup0, v_tup1, v_tup2, v_tup3, v_tup4, v_tup5, v_lst0, v_lst1, v_lst2, v_lst3, v_lst4, v_lst5, v_ok0, v_ok1, v_ok2, v_ix0L, v_ix0, v_ix1, v_ix2, v_ix3, v_fs, v_fi, v_fb, v_fn, v_ft, v_f0, v_fc, startR, List.map_cons, List.map_nil, List.length_cons, List.length_nil, List.replicate, List.cons_append, List.nil_append, List.set_cons_zero, List.set_cons_succ, Option.some.injEq, exists_eq_left', Nat.reduceAdd, Nat.reduceSub, Nat.sub_zero, Nat.sub_self, Nat.zero_add, Nat.reduceEqDiff, Bool.not_true, Bool.not_false, if_true, if_false, Bool.and_self, Bool.true_and, Bool.and_true, Bool.false_eq_true, ↓reduceIte, true_and, and_true, decide_true, decide_false, wipeR]
  refine k_ret ?_
  simp only [ok_V0, ok_Vs, ok_K, ok_B, ok_U, ok_nil, ok_cons, ok_N, ok_aN, ok_call, ok_nl, ok_fl, ok_afl, ok_T, ok_qNot, ok_qAnd, ok_qOr, ok_and, ok_or, ok_not, ok_if, ok_Sl, ok_oNo, ok_oOf, ok_Ch, ok_it, ok_itA, ok_yes, v_addI, v_sub, v_neg, v_eqI, v_eqS, v_eqB, v_eq0, v_eqT0, v_neI, v_neS, v_neB, v_ne0, v_neT0, v_ltI, v_leI, v_gtI, v_geI, v_is, v_isNot, v_nn, v_ns, v_ni, v_nl, v_nt, v_tb, v_tl, v_tt, v_tn, v_ti, v_asB, v_asI, v_asL, v_asT, v_asS, v_lenL, v_lenT, v_tupL, v_tupT, v_listL, v_listT, v_intB, v_tup0, v_tup1, v_tup2, v_tup3, v_tup4, v_tup5, v_lst0, v_lst1, v_lst2, v_lst3, v_lst4, v_lst5, v_ok0, v_ok1, v_ok2, v_ix0L, v_ix0, v_ix1, v_ix2, v_ix3, v_fs, v_fi, v_fb, v_fn, v_ft, v_f0, v_fc, startR, List.map_cons, List.map_nil, List.length_cons, List.length_nil, List.replicate, List.cons_append, List.nil_append, List.set_cons_zero, List.set_cons_succ, Option.some.injEq, exists_eq_left', Nat.reduceAdd, Nat.reduceSub, Nat.sub_zero, Nat.sub_self, Nat.zero_add, Nat.reduceEqDiff, Bool.not_true, Bool.not_false, if_true, if_false, Bool.and_self, Bool.true_and, Bool.and_true, Bool.false_eq_true, ↓reduceIte, true_and, and_true, decide_true, decide_false, wipeR]
  exact ⟨_, _, h, rfl, rfl⟩
theorem at_t {t t' : Str} : K_puts_at F [.str (Str.ofString "t"), .str a, .str b, .str t, .str t'] s = some (.bool (ptm a b t t'), s) := by
  refine ok_eq ?_
  unfold K_puts_at B_puts_at
  refine k_fn (k_seq (k_sIf ?_))
  simp only [ok_V0, ok_Vs, ok_K, ok_B, ok_U, ok_nil, ok_cons, ok_N, ok_aN, ok_call, ok_nl, ok_fl, ok_afl, ok_T, ok_qNot, ok_qAnd, ok_qOr, ok_and, ok_or, ok_not, ok_if, ok_Sl, ok_oNo, ok_oOf, ok_Ch, ok_it, ok_itA, ok_yes, v_addI, v_sub, v_neg, v_eqI, v_eqS, v_eqB, v_eq0, v_eqT0, v_neI, v_neS, v_neB, v_ne0, v_neT0, v_ltI, v_leI, v_gtI, v_geI, v_is, v_isNot, v_nn, v_ns, v_ni, v_nl, v_nt, v_tb, v_tl, v_tt, v_tn, v_ti, v_asB, v_asI, v_asL, v_asT, v_asS, v_lenL, v_lenT, v_tupL, v_tupT, v_listL, v_listT, v_intB, v_tup0, v_tup1, v_tup2, v_tup3, v_tup4, v_tup5, v_lst0, v_lst1, v_lst2, v_lst3, v_lst4, v_lst5, v_ok0, v_ok1, v_ok2, v_ix0L, v_ix0, v_ix1, v_ix2, v_ix3, v_fs, v_fi, v_fb, v_fn, v_ft, v_f0, v_fc, startR, List.map_cons, List.map_nil, List.length_cons, List.length_nil, List.replicate, List.cons_append, List.nil_append, List.set_cons_zero, List.set_cons_succ, Option.some.injEq, exists_eq_left', Nat.reduceAdd, Nat.reduceSub, Nat.sub_zero, Nat.sub_self, Nat.zero_add, Nat.reduceEqDiff, Bool.not_true, Bool.not_false, if_true, if_false, Bool.and_self, Bool.true_and, Bool.and_true, Bool.false_eq_true, ↓reduceIte, true_and, and_true, decide_true, decide_false, wipeR, show decide (Str.ofString "t" = Str.ofString "F") = false from by decide +kernel]
  refine k_nx (k_ret ?_)
  simp only [ok_V0, ok_Vs, ok_K, ok_B, ok_U, ok_nil, ok_cons, ok_N, ok_aN, ok_call, ok_nl, ok_fl, ok_afl, ok_T, ok_qNot, ok_qAnd, ok_qOr, ok_and, ok_or, ok_not, ok_if, ok_Sl, ok_oNo, ok_oOf, ok_Ch, ok_it, ok_itA, ok_yes, v_addI, v_sub, v_neg, v_eqI, v_eqS, v_eqB, v_eq0, v_eqT0, v_neI, v_neS, v_neB, v_ne0, v_neT0, v_ltI, v_leI, v_gtI, v_geI, v_is, v_isNot, v_nn, v_ns, v_ni, v_nl, v_nt, v_tb, v_tl, v_tt, v_tn, v_ti, v_asB, v_asI, v_asL, v_asT, v_asS, v_lenL, v_lenT, v_tupL, v_tupT, v_listL, v_listT, v_intB, v_tup0, v_tup1, v_tup2, v_tup3, v_tup4, v_tup5, v_lst0, v_lst1, v_lst2, v_lst3, v_lst4, v_lst5, v_ok0, v_ok1, v_ok2, v_ix0L, v_ix0, v_ix1, v_ix2, v_ix3, v_fs, v_fi, v_fb, v_fn, v_ft, v_f0, v_fc, startR, List.map_cons, List.map_nil, List.length_cons, List.length_nil, List.replicate, List.cons_append, List.nil_append, List.set_cons_zero, List.set_cons_succ, Option.some.injEq, exists_eq_left', Nat.reduceAdd, Nat.reduceSub, Nat.sub_zero, Nat.sub_self, Nat.zero_add, Nat.reduceEqDiff, Bool.not_true, Bool.not_false, if_true, if_false, Bool.and_self, Bool.true_and, Bool.and_true, Bool.false_eq_true, ↓reduceIte, true_and, and_true, decide_true, decide_false, wipeR]
  unfold ptm
  by_cases h1 : t = t'
  · simp only [h1, ok_V0, ok_Vs, ok_K, ok_B, ok_U, ok_nil, ok_cons, ok_N, ok_aN, ok_call, ok_nl, ok_fl, ok_afl, ok_T, ok_qNot, ok_qAnd, ok_qOr, ok_and, ok_or, ok_not, ok_if, ok_Sl, ok_oNo, ok_oOf, ok_Ch, ok_it, ok_itA, ok_yes, v_addI, v_sub, v_neg, v_eqI, v_eqS, v_eqB, v_eq0, v_eqT0, v_neI, v_neS, v_neB, v_ne0, v_neT0, v_ltI, v_leI, v_gtI, v_geI, v_is, v_isNot, v_nn, v_ns, v_ni, v_nl, v_nt, v_tb, v_tl, v_tt, v_tn, v_ti, v_asB, v_asI, v_asL, v_asT, v_asS, v_lenL, v_lenT, v_tupL, v_tupT, v_listL, v_listT, v_intB, v_tup0, v_tup1, v_tup2, v_tup3, v_tup4, v_tup5, v_lst0, v_lst1, v_lst2, v_lst3, v_lst4, v_lst5, v_ok0, v_ok1, v_ok2, v_ix0L, v_ix0, v_ix1, v_ix2, v_ix3, v_fs, v_fi, v_fb, v_fn, v_ft, v_f0, v_fc, startR, List.map_cons, List.map_nil, List.length_cons, List.length_nil, List.replicate, List.cons_append, List.nil_append, List.set_cons_zero, List.set_cons_succ, Option.some.injEq, exists_eq_left', Nat.reduceAdd, Nat.reduceSub, Nat.sub_zero, Nat.sub_self, Nat.zero_add, Nat.reduceEqDiff, Bool.not_true, Bool.not_false, if_true, if_false, Bool.and_self, Bool.true_and, Bool.and_true, Bool.false_eq_true, ↓reduceIte, true_and, and_true, decide_true, decide_false, wipeR, Bool.true_or]
  · rw [decide_eq_false h1]
    simp only [ok_V0, ok_Vs, ok_K, ok_B, ok_U, ok_nil, ok_cons, ok_N, ok_aN, ok_call, ok_nl, ok_fl, ok_afl, ok_T, ok_qNot, ok_qAnd, ok_qOr, ok_and, ok_or, ok_not, ok_if, ok_Sl, ok_oNo, ok_oOf, ok_Ch, ok_it, ok_itA, ok_yes, v_addI, v_sub, v_neg, v_eqI, v_eqS, v_eqB, v_eq0, v_eqT0, v_neI, v_neS, v_neB, v_ne0, v_neT0, v_ltI, v_leI, v_gtI, v_geI, v_is, v_isNot, v_nn, v_ns, v_ni, v_nl, v_nt, v_tb, v_tl, v_tt, v_tn, v_ti, v_asB, v_asI, v_asL, v_asT, v_asS, v_lenL, v_lenT, v_tupL, v_tupT, v_listL, v_listT, v_intB, v_tup0, v_tup1, v_tup2, v_tup3, v_tup4, v_tup5, v_lst0, v_lst1, v_lst2, v_lst3, v_lst4, v_lst5, v_ok0, v_ok1, v_ok2, v_ix0L, v_ix0, v_ix1, v_ix2, v_ix3, v_fs, v_fi, v_fb, v_fn, v_ft, v_f0, v_fc, startR, List.map_cons, List.map_nil, List.length_cons, List.length_nil, List.replicate, List.cons_append, List.nil_append, List.set_cons_zero, List.set_cons_succ, Option.some.injEq, exists_eq_left', Nat.reduceAdd, Nat.reduceSub, Nat.sub_zero, Nat.sub_self, Nat.zero_add, Nat.reduceEqDiff, Bool.not_true, Bool.not_false, if_true, if_false, Bool.and_self, Bool.true_and, Bool.and_true, Bool.false_eq_true, ↓reduceIte, true_and, and_true, decide_true, decide_false, wipeR, Bool.false_or]
    by_cases h2 : t = a
    · simp only [h2, ok_V0, ok_Vs, ok_K, ok_B, ok_U, ok_nil, ok_cons, ok_N, ok_aN, ok_call, ok_nl, ok_fl, ok_afl, ok_T, ok_qNot, ok_qAnd, ok_qOr, ok_and, ok_or, ok_not, ok_if, ok_Sl, ok_oNo, ok_oOf, ok_Ch, ok_it, ok_itA, ok_yes, v_addI, v_sub, v_neg, v_eqI, v_eqS, v_eqB, v_eq0, v_eqT0, v_neI, v_neS, v_neB, v_ne0, v_neT0, v_ltI, v_leI, v_gtI, v_geI, v_is, v_isNot, v_nn, v_ns, v_ni, v_nl, v_nt, v_tb, v_tl, v_tt, v_tn, v_ti, v_asB, v_asI, v_asL, v_asT, v_asS, v_lenL, v_lenT, v_tupL, v_tupT, v_listL, v_listT, v_intB, v_tup0, v_tup1, v_tup2, v_tup3, v_tup4, v_tup5, v_lst0, v_lst1, v_lst2, v_lst3, v_lst4, v_lst5, v_ok0, v_ok1, v_ok2, v_ix0L, v_ix0, v_ix1, v_ix2, v_ix3, v_fs, v_fi, v_fb, v_fn, v_ft, v_f0, v_fc, startR, List.map_cons, List.map_nil, List.length_cons, List.length_nil, List.replicate, List.cons_append, List.nil_append, List.set_cons_zero, List.set_cons_succ, Option.some.injEq, exists_eq_left', Nat.reduceAdd, Nat.reduceSub, Nat.sub_zero, Nat.sub_self, Nat.zero_add, Nat.reduceEqDiff, Bool.not_true, Bool.not_false, if_true, if_false, Bool.and_self, Bool.true_and, Bool.and_true, Bool.false_eq_true, ↓reduceIte, true_and, and_true, decide_true, decide_false, wipeR]
    · rw [decide_eq_false h2]
      simp only [ok_V0, ok_Vs, ok_K, ok_B, ok_U, ok_nil, ok_cons, ok_N, ok_aN, ok_call, ok_nl, ok_fl, ok_afl, ok_T, ok_qNot, ok_qAnd, ok_qOr, ok_and, ok_or, ok_not, ok_if, ok_Sl, ok_oNo, ok_oOf, ok_Ch, ok_it, ok_itA, ok_yes, v_addI, v_sub, v_neg, v_eqI, v_eqS, v_eqB, v_eq0, v_eqT0, v_neI, v_neS, v_neB, v_ne0, v_neT0, v_ltI, v_leI, v_gtI, v_geI, v_is, v_isNot, v_nn, v_ns, v_ni, v_nl, v_nt, v_tb, v_tl, v_tt, v_tn, v_ti, v_asB, v_asI, v_asL, v_asT, v_asS, v_lenL, v_lenT, v_tupL, v_tupT, v_listL, v_listT, v_intB, v_tup0, v_tup1, v_tup2, v_tup3, v_tup4, v_tup5, v_lst0, v_lst1, v_lst2, v_lst3, v_lst4, v_lst5, v_ok0, v_ok1, v_ok2, v_ix0L, v_ix0, v_ix1, v_ix2, v_ix3, v_fs, v_fi, v_fb, v_fn, v_ft, v_f0, v_fc, startR, List.map_cons, List.map_nil, List.length_cons, List.length_nil, List.replicate, List.cons_append, List.nil_append, List.set_cons_zero, List.set_cons_succ, Option.some.injEq, exists_eq_left', Nat.reduceAdd, Nat.reduceSub, Nat.sub_zero, Nat.sub_self, Nat.zero_add, Nat.reduceEqDiff, Bool.not_true, Bool.not_false, if_true, if_false, Bool.and_self, Bool.true_and, Bool.and_true, Bool.false_eq_true, ↓reduceIte, true_and, and_true, decide_true, decide_false, wipeR, Bool.false_and]
theorem at_o {pl : Str} {x y : D} {c : Bool} (h1 : decide (pl = Str.ofString "F") = false) (h2 : decide (pl = Str.ofString "t") = false) (h : pEq x y = some (.bool c)) : K_puts_at F [.str pl, .str a, .str b, x, y] s = some (.bool c, s) := by
  refine ok_eq ?_
  unfold K_puts_at B_puts_at
  refine k_fn (k_seq (k_sIf ?_))
  simp only [ok_V0, ok_Vs, ok_K, ok_B, ok_U, ok_nil, ok_cons, ok_N, ok_aN, ok_call, ok_nl, ok_fl, ok_afl, ok_T, ok_qNot, ok_qAnd, ok_qOr, ok_and, ok_or, ok_not, ok_if, ok_Sl, ok_oNo, ok_oOf, ok_Ch, ok_it, ok_itA, ok_yes, v_addI, v_sub, v_neg, v_eqI, v_eqS, v_eqB, v_eq0, v_eqT0, v_neI, v_neS, v_neB, v_ne0, v_neT0, v_ltI, v_leI, v_gtI, v_geI, v_is, v_isNot, v_nn, v_ns, v_ni, v_nl, v_nt, v_tb, v_tl, v_tt, v_tn, v_ti, v_asB, v_asI, v_asL, v_asT, v_asS, v_lenL, v_lenT, v_tupL, v_tupT, v_listL, v_listT, v_intB, v_tup0, v_tup1, v_tup2, v_tup3, v_tup4, v_tup5, v_lst0, v_lst1, v_lst2, v_lst3, v_lst4, v_lst5, v_ok0, v_ok1, v_ok2, v_ix0L, v_ix0, v_ix1, v_ix2, v_ix3, v_fs, v_fi, v_fb, v_fn, v_ft, v_f0, v_fc, startR, List.map_cons, List.map_nil, List.length_cons, List.length_nil, List.replicate, List.cons_append, List.nil_append, List.set_cons_zero, List.set_cons_succ, Option.some.injEq, exists_eq_left', Nat.reduceAdd, Nat.reduceSub, Nat.sub_zero, Nat.sub_self, Nat.zero_add, Nat.reduceEqDiff, Bool.not_true, Bool.not_false, if_true, if_false, Bool.and_self, Bool.true_and, Bool.and_true, Bool.false_eq_true, ↓reduceIte, true_and, and_true, decide_true, decide_false, wipeR, h1]
  refine k_nx (k_ret ?_)
  simp only [ok_V0, ok_Vs, ok_K, ok_B, ok_U, ok_nil, ok_cons, ok_N, ok_aN, ok_call, ok_nl, ok_fl, ok_afl, ok_T, ok_qNot, ok_qAnd, ok_qOr, ok_and, ok_or, ok_not, ok_if, ok_Sl, ok_oNo, ok_oOf, ok_Ch, ok_it, ok_itA, ok_yes, v_addI, v_sub, v_neg, v_eqI, v_eqS, v_eqB, v_eq0, v_eqT0, v_neI, v_neS, v_neB, v_ne0, v_neT0, v_ltI, v_leI, v_gtI, v_geI, v_is, v_isNot, v_nn, v_ns, v_ni, v_nl, v_nt, v_tb, v_tl, v_tt, v_tn, v_ti, v_asB, v_asI, v_asL, v_asT, v_asS, v_lenL, v_lenT, v_tupL, v_tupT, v_listL, v_listT, v_intB, v_tup0, v_tup1, v_tup2, v_tup3, v_tup4, v_tup5, v_lst0, v_lst1, v_lst2, v_lst3, v_lst4, v_lst5, v_ok0, v_ok1, v_ok2, v_ix0L, v_ix0, v_ix1, v_ix2, v_ix3, v_fs, v_fi, v_fb, v_fn, v_ft, v_f0, v_fc, startR, List.map_cons, List.map_nil, List.length_cons, List.length_nil, List.replicate, List.cons_append, List.nil_append, List.set_cons_zero, List.set_cons_succ, Option.some.injEq, exists_eq_left', Nat.reduceAdd, Nat.reduceSub, Nat.sub_zero, Nat.sub_self, Nat.zero_add, Nat.reduceEqDiff, Bool.not_true, Bool.not_false, if_true, if_false, Bool.and_self, Bool.true_and, Bool.and_true, Bool.false_eq_true, ↓reduceIte, true_and, and_true, decide_true, decide_false, wipeR]
  refine ⟨_, h, ?_⟩
  cases c with
  | true => simp only [ok_V0, ok_Vs, ok_K, ok_B, ok_U, ok_nil, ok_cons, ok_N, ok_aN, ok_call, ok_nl, ok_fl, ok_afl, ok_T, ok_qNot, ok_qAnd, ok_qOr, ok_and, ok_or, ok_not, ok_if, ok_Sl, ok_oNo, ok_oOf, ok_Ch, ok_it, ok_itA, ok_yes, v_addI, v_sub, v_neg, v_eqI, v_eqS, v_eqB, v_eq0, v_eqT0, v_neI, v_neS, v_neB, v_ne0, v_neT0, v_ltI, v_leI, v_gtI, v_geI, v_is, v_isNot, v_nn, v_ns, v_ni, v_nl, v_nt, v_tb, v_tl, v_tt, v_tn, v_ti, v_asB, v_asI, v_asL, v_asT, v_asS, v_lenL, v_lenT, v_tupL, v_tupT, v_listL, v_listT, v_intB, v_tup0, v_tup1, v_tup2, v_tup3, v_tup4, v_tup5, v_lst0, v_lst1, v_lst2, v_lst3, v_lst4, v_lst5, v_ok0, v_ok1, v_ok2, v_ix0L, v_ix0, v_ix1, v_ix2, v_ix3, v_fs, v_fi, v_fb, v_fn, v_ft, v_f0, v_fc, startR, List.map_cons, List.map_nil, List.length_cons, List.length_nil, List.replicate, List.cons_append, List.nil_append, List.set_cons_zero, List.set_cons_succ, Option.some.injEq, exists_eq_left', Nat.reduceAdd, Nat.reduceSub, Nat.sub_zero, Nat.sub_self, Nat.zero_add, Nat.reduceEqDiff, Bool.not_true, Bool.not_false, if_true, if_false, Bool.and_self, Bool.true_and, Bool.and_true, Bool.false_eq_true, ↓reduceIte, true_and, and_true, decide_true, decide_false, wipeR]
  | false => simp only [ok_V0, ok_Vs, ok_K, ok_B, ok_U, ok_nil, ok_cons, ok_N, ok_aN, ok_call, ok_nl, ok_fl, ok_afl, ok_T, ok_qNot, ok_qAnd, ok_qOr, ok_and, ok_or, ok_not, ok_if, ok_Sl, ok_oNo, ok_oOf, ok_Ch, ok_it, ok_itA, ok_yes, v_addI, v_sub, v_neg, v_eqI, v_eqS, v_eqB, v_eq0, v_eqT0, v_neI, v_neS, v_neB, v_ne0, v_neT0, v_ltI, v_leI, v_gtI, v_geI, v_is, v_isNot, v_nn, v_ns, v_ni, v_nl, v_nt, v_tb, v_tl, v_tt, v_tn, v_ti, v_asB, v_asI, v_asL, v_asT, v_asS, v_lenL, v_lenT, v_tupL, v_tupT, v_listL, v_listT, v_intB, v_tup0, v_tup1, v_tup2, v_tup3, v_tup4, v_tup5, v_lst0, v_lst1, v_lst2, v_lst3, v_lst4, v_lst5, v_ok0, v_ok1, v_ok2, v_ix0L, v_ix0, v_ix1, v_ix2, v_ix3, v_fs, v_fi, v_fb, v_fn, v_ft, v_f0, v_fc, startR, List.map_cons, List.map_nil, List.length_cons, List.length_nil, List.replicate, List.cons_append, List.nil_append, List.set_cons_zero, List.set_cons_succ, Option.some.injEq, exists_eq_left', Nat.reduceAdd, Nat.reduceSub, Nat.sub_zero, Nat.sub_self, Nat.zero_add, Nat.reduceEqDiff, Bool.not_true, Bool.not_false, if_true, if_false, Bool.and_self, Bool.true_and, Bool.and_true, Bool.false_eq_true, ↓reduceIte, true_and, and_true, decide_true, decide_false, wipeR, h2]
theorem at_str {pl x y : Str} (h1 : decide (pl = Str.ofString "F") = false) (h2 : decide (pl = Str.ofString "t") = false) : K_puts_at F [.str pl, .str a, .str b, .str x, .str y] s = some (.bool (decide (x = y)), s) := at_o h1 h2 v_eqS
theorem at_k {x y : Str} : K_puts_at F [.str (Str.ofString "k"), .str a, .str b, .str x, .str y] s = some (.bool (decide (x = y)), s) := at_str (by decide +kernel) (by decide +kernel)
theorem at_d {x y : Str} : K_puts_at F [.str (Str.ofString "d"), .str a, .str b, .str x, .str y] s = some (.bool (decide (x = y)), s) := at_str (by decide +kernel) (by decide +kernel)
theorem at_x {x y : Str} : K_puts_at F [.str (Str.ofString "x"), .str a, .str b, .str x, .str y] s = some (.bool (decide (x = y)), s) := at_str (by decide +kernel) (by decide +kernel)
theorem sp_tot {t : Tot} (h : ∀ p ∈ t.1, sok p.1) : Lw38.Sp (totD t) := ⟨smp_tot h, by have := Lw30.dep_tot t; omega⟩
theorem at_s {p q : Tot} (hp : ∀ x ∈ p.1, sok x.1) (hq : ∀ x ∈ q.1, sok x.1) : K_puts_at F [.str (Str.ofString "s"), .str a, .str b, totD p, totD q] s = some (.bool (decide (p = q)), s) := by
  obtain ⟨c, e, i⟩ := Lw38.eq_sp (sp_tot hp) (sp_tot hq)
  have : c = decide (p = q) := by
    rw [Bool.eq_iff_iff, decide_eq_true_eq]
    exact i.trans ⟨fun h => Lw38.tot_inj h, fun h => congrArg totD h⟩
  rw [← this]
  exact at_o (by decide +kernel) (by decide +kernel) e
def pAt (F : Fn S) (a b : Str) (s : S) : D → Bool
  | .tuple [pl, x, y] => match K_puts_at F [pl, .str a, .str b, x, y] s with
    | some (.bool c, _) => c
    | _ => false
  | _ => false
abbrev puT : Tg := gTp (gC (gNm 5) (gC (gNm 6) (gC (gNm 7) gN0)))
abbrev puE (F : Fn S) : Ev S := cCall 5 (K_puts_at F) (aCons (cVar 5) (aCons (cVar 0) (aCons (cVar 1) (aCons (cVar 6) (aCons (cVar 7) aNil)))))
abbrev puI : Ea S := iOfA pZip3 (aCons (cU (pDt t_SHAPES) (cB pIx (cVar 2) (cK (.int 0)))) (aCons (cSl pSl (cVar 2) (oOf (cK (.int 1))) oNo) (aCons (cSl pSl (cVar 3) (oOf (cK (.int 1))) oNo) aNil)))
theorem row_sl (f : Fo) : pSl f.d (some 1) none = some (.tuple f.row) := by
  rw [d_row, v_slT, show (1 : Int) = ((1 : Nat) : Int) from rfl, cutD_from]
  rfl
theorem puts_row {f g : Fo} {pls : Str} {zs : List D} {r : Bool} (hh : f.head = g.head) (hb : a ∉ f.bound ∧ b ∉ f.bound) (hs : pDt t_SHAPES (.str f.head) = some (.str pls)) (hz : pZip3 [.str pls, .tuple f.row, .tuple g.row] = some zs)
    (h : ∀ d ∈ zs, ∃ pl x y c, d = .tuple [.str pl, x, y] ∧ K_puts_at F [.str pl, .str a, .str b, x, y] s = some (.bool c, s)) (hr : zs.all (pAt F a b s) = r) : K_puts Lw30.K_pieces (K_puts_at F) [.str a, .str b, f.d, g.d] s = some (.bool r, s) := by
  refine ok_eq ?_
  unfold K_puts B_puts
  refine k_fn (k_seq (k_sIf ?_))
  simp only [ok_V0, ok_Vs, ok_K, ok_B, ok_U, ok_nil, ok_cons, ok_N, ok_aN, ok_call, ok_nl, ok_fl, ok_afl, ok_T, ok_qNot, ok_qAnd, ok_qOr, ok_and, ok_or, ok_not, ok_if, ok_Sl, ok_oNo, ok_oOf, ok_Ch, ok_it, ok_itA, ok_yes, v_addI, v_sub, v_neg, v_eqI, v_eqS, v_eqB, v_eq0, v_eqT0, v_neI, v_neS, v_neB, v_ne0, v_neT0, v_ltI, v_leI, v_gtI, v_geI, v_is, v_isNot, v_nn, v_ns, v_ni, v_nl, v_nt, v_tb, v_tl, v_tt, v_tn, v_ti, v_asB, v_asI, v_asL, v_asT, v_asS, v_lenL, v_lenT, v_tupL, v_tupT, v_listL, v_listT, v_intB, v_tup0, v_tup1, v_tup2, v_tup3, v_tup4, v_tup5, v_lst0, v_lst1, v_lst2, v_lst3, v_lst4, v_lst5, v_ok0, v_ok1, v_ok2, v_ix0L, v_ix0, v_ix1, v_ix2, v_ix3, v_fs, v_fi, v_fb, v_fn, v_ft, v_f0, v_fc, startR, List.map_cons, List.map_nil, List.length_cons, List.length_nil, List.replicate, List.cons_append, List.nil_append, List.set_cons_zero, List.set_cons_succ, Option.some.injEq, exists_eq_left', Nat.reduceAdd, Nat.reduceSub, Nat.sub_zero, Nat.sub_self, Nat.zero_add, Nat.reduceEqDiff, Bool.not_true, Bool.not_false, if_true, if_false, Bool.and_self, Bool.true_and, Bool.and_true, Bool.false_eq_true, ↓reduceIte, true_and, and_true, decide_true, decide_false, wipeR, head9, hh]
  refine k_nx (k_seq (k_set ?_))
  simp only [ok_V0, ok_Vs, ok_K, ok_B, ok_U, ok_nil, ok_cons, ok_N, ok_aN, ok_call, ok_nl, ok_fl, ok_afl, ok_T, ok_qNot, ok_qAnd, ok_qOr, ok_and, ok_or, ok_not, ok_if, ok_Sl, ok_oNo, ok_oOf, ok_Ch, ok_it, ok_itA, ok_yes, v_addI, v_sub, v_neg, v_eqI, v_eqS, v_eqB, v_eq0, v_eqT0, v_neI, v_neS, v_neB, v_ne0, v_neT0, v_ltI, v_leI, v_gtI, v_geI, v_is, v_isNot, v_nn, v_ns, v_ni, v_nl, v_nt, v_tb, v_tl, v_tt, v_tn, v_ti, v_asB, v_asI, v_asL, v_asT, v_asS, v_lenL, v_lenT, v_tupL, v_tupT, v_listL, v_listT, v_intB, v_tup0, v_tup1, v_tup2, v_tup3, v_tup4, v_tup5, v_lst0, v_lst1, v_lst2, v_lst3, v_lst4, v_lst5, v_ok0, v_ok1, v_ok2, v_ix0L, v_ix0, v_ix1, v_ix2, v_ix3, v_fs, v_fi, v_fb, v_fn, v_ft, v_f0, v_fc, startR, List.map_cons, List.map_nil, List.length_cons, List.length_nil, List.replicate, List.cons_append, List.nil_append, List.set_cons_zero, List.set_cons_succ, Option.some.injEq, exists_eq_left', Nat.reduceAdd, Nat.reduceSub, Nat.sub_zero, Nat.sub_self, Nat.zero_add, Nat.reduceEqDiff, Bool.not_true, Bool.not_false, if_true, if_false, Bool.and_self, Bool.true_and, Bool.and_true, Bool.false_eq_true, ↓reduceIte, true_and, and_true, decide_true, decide_false, wipeR]
  refine ⟨_, _, Lw30.pieces_x f, ?_⟩
  refine k_seq (k_sIf ?_)
  simp only [ok_V0, ok_Vs, ok_K, ok_B, ok_U, ok_nil, ok_cons, ok_N, ok_aN, ok_call, ok_nl, ok_fl, ok_afl, ok_T, ok_qNot, ok_qAnd, ok_qOr, ok_and, ok_or, ok_not, ok_if, ok_Sl, ok_oNo, ok_oOf, ok_Ch, ok_it, ok_itA, ok_yes, v_addI, v_sub, v_neg, v_eqI, v_eqS, v_eqB, v_eq0, v_eqT0, v_neI, v_neS, v_neB, v_ne0, v_neT0, v_ltI, v_leI, v_gtI, v_geI, v_is, v_isNot, v_nn, v_ns, v_ni, v_nl, v_nt, v_tb, v_tl, v_tt, v_tn, v_ti, v_asB, v_asI, v_asL, v_asT, v_asS, v_lenL, v_lenT, v_tupL, v_tupT, v_listL, v_listT, v_intB, v_tup0, v_tup1, v_tup2, v_tup3, v_tup4, v_tup5, v_lst0, v_lst1, v_lst2, v_lst3, v_lst4, v_lst5, v_ok0, v_ok1, v_ok2, v_ix0L, v_ix0, v_ix1, v_ix2, v_ix3, v_fs, v_fi, v_fb, v_fn, v_ft, v_f0, v_fc, startR, List.map_cons, List.map_nil, List.length_cons, List.length_nil, List.replicate, List.cons_append, List.nil_append, List.set_cons_zero, List.set_cons_succ, Option.some.injEq, exists_eq_left', Nat.reduceAdd, Nat.reduceSub, Nat.sub_zero, Nat.sub_self, Nat.zero_add, Nat.reduceEqDiff, Bool.not_true, Bool.not_false, if_true, if_false, Bool.and_self, Bool.true_and, Bool.and_true, Bool.false_eq_true, ↓reduceIte, true_and, and_true, decide_true, decide_false, wipeR, in_strsL, decide_eq_false hb.1, decide_eq_false hb.2]
  refine k_nx (k_ret ?_)
  have hi : puI (S := S) [some (.str a), some (.str b), some f.d, some g.d, some (.list (f.bound.map .str)), none, none, none] s = some (zs, s) := by
    refine ok_eqL ?_
    simp only [ok_V0, ok_Vs, ok_K, ok_B, ok_U, ok_nil, ok_cons, ok_N, ok_aN, ok_call, ok_nl, ok_fl, ok_afl, ok_T, ok_qNot, ok_qAnd, ok_qOr, ok_and, ok_or, ok_not, ok_if, ok_Sl, ok_oNo, ok_oOf, ok_Ch, ok_it, ok_itA, ok_yes, v_addI, v_sub, v_neg, v_eqI, v_eqS, v_eqB, v_eq0, v_eqT0, v_neI, v_neS, v_neB, v_ne0, v_neT0, v_ltI, v_leI, v_gtI, v_geI, v_is, v_isNot, v_nn, v_ns, v_ni, v_nl, v_nt, v_tb, v_tl, v_tt, v_tn, v_ti, v_asB, v_asI, v_asL, v_asT, v_asS, v_lenL, v_lenT, v_tupL, v_tupT, v_listL, v_listT, v_intB, v_tup0, v_tup1, v_tup2, v_tup3, v_tup4, v_tup5, v_lst0, v_lst1, v_lst2, v_lst3, v_lst4, v_lst5, v_ok0, v_ok1, v_ok2, v_ix0L, v_ix0, v_ix1, v_ix2, v_ix3, v_fs, v_fi, v_fb, v_fn, v_ft, v_f0, v_fc, startR, List.map_cons, List.map_nil, List.length_cons, List.length_nil, List.replicate, List.cons_append, List.nil_append, List.set_cons_zero, List.set_cons_succ, Option.some.injEq, exists_eq_left', Nat.reduceAdd, Nat.reduceSub, Nat.sub_zero, Nat.sub_self, Nat.zero_add, Nat.reduceEqDiff, Bool.not_true, Bool.not_false, if_true, if_false, Bool.and_self, Bool.true_and, Bool.and_true, Bool.false_eq_true, ↓reduceIte, true_and, and_true, decide_true, decide_false, wipeR, head9, hs, row_sl]
    first | exact hz | exact ⟨_, hz, rfl⟩ | exact ⟨_, rfl, _, rfl, _, hz, rfl⟩
  have hq : cQu false puI puT qYes (puE F) [5, 6, 7] [some (.str a), some (.str b), some f.d, some g.d, some (.list (f.bound.map .str)), none, none, none] s = some (.bool r, s) := by
    refine Eq.trans (k_all (S := S) (fun _ => true) (pAt F a b s) hi fun d hd => ?_) ?_
    · obtain ⟨pl, x, y, c, rfl, e⟩ := h d hd
      refine ⟨_, rfl, rfl, fun _ => ?_⟩
      refine ok_eq ?_
      simp only [ok_V0, ok_Vs, ok_K, ok_B, ok_U, ok_nil, ok_cons, ok_N, ok_aN, ok_call, ok_nl, ok_fl, ok_afl, ok_T, ok_qNot, ok_qAnd, ok_qOr, ok_and, ok_or, ok_not, ok_if, ok_Sl, ok_oNo, ok_oOf, ok_Ch, ok_it, ok_itA, ok_yes, v_addI, v_sub, v_neg, v_eqI, v_eqS, v_eqB, v_eq0, v_eqT0, v_neI, v_neS, v_neB, v_ne0, v_neT0, v_ltI, v_leI, v_gtI, v_geI, v_is, v_isNot, v_nn, v_ns, v_ni, v_nl, v_nt, v_tb, v_tl, v_tt, v_tn, v_ti, v_asB, v_asI, v_asL, v_asT, v_asS, v_lenL, v_lenT, v_tupL, v_tupT, v_listL, v_listT, v_intB, v_tup0, v_tup1, v_tup2, v_tup3, v_tup4, v_tup5, v_lst0, v_lst1, v_lst2, v_lst3, v_lst4, v_lst5, v_ok0, v_ok1, v_ok2, v_ix0L, v_ix0, v_ix1, v_ix2, v_ix3, v_fs, v_fi, v_fb, v_fn, v_ft, v_f0, v_fc, startR, List.map_cons, List.map_nil, List.length_cons, List.length_nil, List.replicate, List.cons_append, List.nil_append, List.set_cons_zero, List.set_cons_succ, Option.some.injEq, exists_eq_left', Nat.reduceAdd, Nat.reduceSub, Nat.sub_zero, Nat.sub_self, Nat.zero_add, Nat.reduceEqDiff, Bool.not_true, Bool.not_false, if_true, if_false, Bool.and_self, Bool.true_and, Bool.and_true, Bool.false_eq_true, ↓reduceIte, true_and, and_true, decide_true, decide_false, wipeR]
      refine ⟨_, _, e, ?_⟩
      simp only [pAt, e]
      all_goals first | exact ⟨rfl, rfl⟩ | exact ⟨trivial, rfl⟩ | trivial
    · rw [List.filter_eq_self.mpr (fun _ _ => rfl), hr]
  refine Ok.of hq ⟨rfl, rfl⟩
theorem puts_head {f g : Fo} (hh : f.head ≠ g.head) : K_puts Lw30.K_pieces (K_puts_at F) [.str a, .str b, f.d, g.d] s = some (.bool false, s) := by
  refine ok_eq ?_
  unfold K_puts B_puts
  refine k_fn (k_seq (k_sIf ?_))
  simp only [ok_V0, ok_Vs, ok_K, ok_B, ok_U, ok_nil, ok_cons, ok_N, ok_aN, ok_call, ok_nl, ok_fl, ok_afl, ok_T, ok_qNot, ok_qAnd, ok_qOr, ok_and, ok_or, ok_not, ok_if, ok_Sl, ok_oNo, ok_oOf, ok_Ch, ok_it, ok_itA, ok_yes, v_addI, v_sub, v_neg, v_eqI, v_eqS, v_eqB, v_eq0, v_eqT0, v_neI, v_neS, v_neB, v_ne0, v_neT0, v_ltI, v_leI, v_gtI, v_geI, v_is, v_isNot, v_nn, v_ns, v_ni, v_nl, v_nt, v_tb, v_tl, v_tt, v_tn, v_ti, v_asB, v_asI, v_asL, v_asT, v_asS, v_lenL, v_lenT, v_tupL, v_tupT, v_listL, v_listT, v_intB, v_tup0, v_tup1, v_tup2, v_tup3, v_tup4, v_tup5, v_lst0, v_lst1, v_lst2, v_lst3, v_lst4, v_lst5, v_ok0, v_ok1, v_ok2, v_ix0L, v_ix0, v_ix1, v_ix2, v_ix3, v_fs, v_fi, v_fb, v_fn, v_ft, v_f0, v_fc, startR, List.map_cons, List.map_nil, List.length_cons, List.length_nil, List.replicate, List.cons_append, List.nil_append, List.set_cons_zero, List.set_cons_succ, Option.some.injEq, exists_eq_left', Nat.reduceAdd, Nat.reduceSub, Nat.sub_zero, Nat.sub_self, Nat.zero_add, Nat.reduceEqDiff, Bool.not_true, Bool.not_false, if_true, if_false, Bool.and_self, Bool.true_and, Bool.and_true, Bool.false_eq_true, ↓reduceIte, true_and, and_true, decide_true, decide_false, wipeR, head9, decide_eq_false hh]
  refine k_ret ?_
  simp only [ok_V0, ok_Vs, ok_K, ok_B, ok_U, ok_nil, ok_cons, ok_N, ok_aN, ok_call, ok_nl, ok_fl, ok_afl, ok_T, ok_qNot, ok_qAnd, ok_qOr, ok_and, ok_or, ok_not, ok_if, ok_Sl, ok_oNo, ok_oOf, ok_Ch, ok_it, ok_itA, ok_yes, v_addI, v_sub, v_neg, v_eqI, v_eqS, v_eqB, v_eq0, v_eqT0, v_neI, v_neS, v_neB, v_ne0, v_neT0, v_ltI, v_leI, v_gtI, v_geI, v_is, v_isNot, v_nn, v_ns, v_ni, v_nl, v_nt, v_tb, v_tl, v_tt, v_tn, v_ti, v_asB, v_asI, v_asL, v_asT, v_asS, v_lenL, v_lenT, v_tupL, v_tupT, v_listL, v_listT, v_intB, v_tup0, v_tup1, v_tup2, v_tup3, v_tup4, v_tup5, v_lst0, v_lst1, v_lst2, v_lst3, v_lst4, v_lst5, v_ok0, v_ok1, v_ok2, v_ix0L, v_ix0, v_ix1, v_ix2, v_ix3, v_fs, v_fi, v_fb, v_fn, v_ft, v_f0, v_fc, startR, List.map_cons, List.map_nil, List.length_cons, List.length_nil, List.replicate, List.cons_append, List.nil_append, List.set_cons_zero, List.set_cons_succ, Option.some.injEq, exists_eq_left', Nat.reduceAdd, Nat.reduceSub, Nat.sub_zero, Nat.sub_self, Nat.zero_add, Nat.reduceEqDiff, Bool.not_true, Bool.not_false, if_true, if_false, Bool.and_self, Bool.true_and, Bool.and_true, Bool.false_eq_true, ↓reduceIte, true_and, and_true, decide_true, decide_false, wipeR]
def Fpu : Nat → Fn S
  | 0 => fun _ _ => none
  | m + 1 => K_puts Lw30.K_pieces (K_puts_at (Fpu m))
theorem pu_head {f g : Fo} (h : f.head ≠ g.head) : pu a b f g = false := by
  cases f <;> cases g <;> first | rfl | exact absurd rfl h | skip
  · rename_i w f f2 w' g g2
    have : w.s ≠ w'.s := h
    simp [pu, this]
  · rename_i w x f w' y g
    have : w.s ≠ w'.s := h
    simp [pu, this]
theorem puts_eq : ∀ (m : Nat) (f g : Fo) (s : S), f.dep < m → Wk f → Wk g → nb a b f → Fpu m [.str a, .str b, f.d, g.d] s = some (.bool (pu a b f g), s)
  | 0, f, g, s, h, _, _, _ => absurd h (Nat.not_lt_zero _)
  | m + 1, f, g, s, h, hf, hg, hn => by
    by_cases hh : f.head = g.head
    · have ht := tag_eq hh
      cases f with
      | is t k =>
        cases g <;> simp [tag] at ht
        rename_i t' k'
        refine puts_row (pls := Str.ofString "tk") (zs := [.tuple [.str (Str.ofString "t"), .str t, .str t'], .tuple [.str (Str.ofString "k"), .str k, .str k']]) hh ⟨by simp [Fo.bound], by simp [Fo.bound]⟩ (by rfl) (by rfl) ?_ ?_
        · intro d hd
          rcases List.mem_cons.mp hd with rfl | hd
          · exact ⟨_, _, _, _, rfl, at_t⟩
          · rw [List.mem_singleton.mp hd]; exact ⟨_, _, _, _, rfl, at_k⟩
        · simp only [List.all_cons, List.all_nil, pAt, at_t, at_k, Bool.and_true, pu]
      | does e t u =>
        cases g <;> simp [tag] at ht
        rename_i e' t' u'
        refine puts_row (pls := Str.ofString "dtt") (zs := [.tuple [.str (Str.ofString "d"), .str e, .str e'], .tuple [.str (Str.ofString "t"), .str t, .str t'], .tuple [.str (Str.ofString "t"), .str u, .str u']]) hh ⟨by simp [Fo.bound], by simp [Fo.bound]⟩ (by rfl) (by rfl) ?_ ?_
        · intro d hd
          rcases List.mem_cons.mp hd with rfl | hd
          · exact ⟨_, _, _, _, rfl, at_d⟩
          rcases List.mem_cons.mp hd with rfl | hd
          · exact ⟨_, _, _, _, rfl, at_t⟩
          · rw [List.mem_singleton.mp hd]; exact ⟨_, _, _, _, rfl, at_t⟩
        · simp only [List.all_cons, List.all_nil, pAt, at_t, at_d, Bool.and_true, pu]
      | same t u =>
        cases g <;> simp [tag] at ht
        rename_i t' u'
        refine puts_row (pls := Str.ofString "tt") (zs := [.tuple [.str (Str.ofString "t"), .str t, .str t'], .tuple [.str (Str.ofString "t"), .str u, .str u']]) hh ⟨by simp [Fo.bound], by simp [Fo.bound]⟩ (by rfl) (by rfl) ?_ ?_
        · intro d hd
          rcases List.mem_cons.mp hd with rfl | hd
          · exact ⟨_, _, _, _, rfl, at_t⟩
          · rw [List.mem_singleton.mp hd]; exact ⟨_, _, _, _, rfl, at_t⟩
        · simp only [List.all_cons, List.all_nil, pAt, at_t, Bool.and_true, pu]
      | least p q =>
        cases g <;> simp [tag] at ht
        rename_i p' q'
        refine puts_row (pls := Str.ofString "ss") (zs := [.tuple [.str (Str.ofString "s"), totD p, totD p'], .tuple [.str (Str.ofString "s"), totD q, totD q']]) hh ⟨by simp [Fo.bound], by simp [Fo.bound]⟩ (by rfl) (by rfl) ?_ ?_
        · intro d hd
          rcases List.mem_cons.mp hd with rfl | hd
          · exact ⟨_, _, _, _, rfl, at_s hf.1 hg.1⟩
          · rw [List.mem_singleton.mp hd]; exact ⟨_, _, _, _, rfl, at_s hf.2 hg.2⟩
        · simp only [List.all_cons, List.all_nil, pAt, at_s hf.1 hg.1, at_s hf.2 hg.2, Bool.and_true, pu]
      | fals =>
        cases g <;> simp [tag] at ht
        exact puts_row (pls := Str.ofString "") (zs := []) hh ⟨by simp [Fo.bound], by simp [Fo.bound]⟩ (by rfl) (by rfl) (fun d hd => by cases hd) rfl
      | no f =>
        cases g <;> simp [tag] at ht
        rename_i g
        have ih := puts_eq m f g s (Nat.lt_of_succ_lt_succ h) hf hg hn
        refine puts_row (pls := Str.ofString "F") (zs := [.tuple [.str (Str.ofString "F"), f.d, g.d]]) hh ⟨by simp [Fo.bound], by simp [Fo.bound]⟩ (by rfl) (by rfl) ?_ ?_
        · intro d hd
          rw [List.mem_singleton.mp hd]; exact ⟨_, _, _, _, rfl, at_F ih⟩
        · simp only [List.all_cons, List.all_nil, pAt, at_F ih, Bool.and_true, pu]
      | jn w f f2 =>
        cases g <;> simp [tag] at ht
        rename_i w' g g2
        have hd : max f.dep f2.dep + 1 < m + 1 := h
        have ih := puts_eq m f g s (by omega) hf.1 hg.1 hn.1
        have ih2 := puts_eq m f2 g2 s (by omega) hf.2 hg.2 hn.2
        have hw : w.s = w'.s := hh
        have es : pDt t_SHAPES (.str (Fo.jn w f f2).head) = some (.str (Str.ofString "FF")) := by cases w <;> rfl
        refine puts_row (pls := Str.ofString "FF") (zs := [.tuple [.str (Str.ofString "F"), f.d, g.d], .tuple [.str (Str.ofString "F"), f2.d, g2.d]]) hh ⟨by simp [Fo.bound], by simp [Fo.bound]⟩ es (by rfl) ?_ ?_
        · intro d hd
          rcases List.mem_cons.mp hd with rfl | hd
          · exact ⟨_, _, _, _, rfl, at_F ih⟩
          · rw [List.mem_singleton.mp hd]; exact ⟨_, _, _, _, rfl, at_F ih2⟩
        · simp only [List.all_cons, List.all_nil, pAt, at_F ih, at_F ih2, Bool.and_true, pu, decide_eq_true hw, Bool.true_and]
      | qu w x f =>
        cases g <;> simp [tag] at ht
        rename_i w' y g
        have ih := puts_eq m f g s (Nat.lt_of_succ_lt_succ h) hf.2.2 hg.2.2 hn.2.2
        have hw : w.s = w'.s := hh
        have es : pDt t_SHAPES (.str (Fo.qu w x f).head) = some (.str (Str.ofString "xF")) := by cases w <;> rfl
        refine puts_row (pls := Str.ofString "xF") (zs := [.tuple [.str (Str.ofString "x"), .str x, .str y], .tuple [.str (Str.ofString "F"), f.d, g.d]]) hh ⟨by simpa [Fo.bound] using hn.1, by simpa [Fo.bound] using hn.2.1⟩ es (by rfl) ?_ ?_
        · intro d hd
          rcases List.mem_cons.mp hd with rfl | hd
          · exact ⟨_, _, _, _, rfl, at_x⟩
          · rw [List.mem_singleton.mp hd]; exact ⟨_, _, _, _, rfl, at_F ih⟩
        · simp only [List.all_cons, List.all_nil, pAt, at_F ih, at_x, Bool.and_true, pu, decide_eq_true hw, Bool.true_and]
    · rw [pu_head hh]
      exact puts_head hh
end
end Lw32
set_option Elab.async false
set_option linter.all false
set_option maxRecDepth 100000
set_option maxHeartbeats 1000000
/-! k32: the row of all variants, as an equation -/
namespace Lw32
open PySem PySem.Spec L2 Dl Mx Ds Lw01
open Lw41 (Tot totD Pt ptD take_snoc)
open Lw30 (Fo Fo.d Fo.dep Fo.head Fo.row d_row head9 sok dep_fo Jw Qw h_fl h_t h_q Fo.isFL Fo.isT Fo.isQ)
def V (a b : Str) : Fo → List Fo
  | .is t k => [.is t k] ++ if t = a then [.is b k] else []
  | .does e t u => ([.does e t u] ++ if t = a then [.does e b u] else []) ++ if u = a then ([.does e t b] ++ if t = a then [.does e b b] else []) else []
  | .same t u => ([.same t u] ++ if t = a then [.same b u] else []) ++ if u = a then ([.same t b] ++ if t = a then [.same b b] else []) else []
  | .least p q => [.least p q]
  | .fals => [.fals]
  | .no f => (V a b f).map .no
  | .jn w f g => (V a b g).flatMap fun r => (V a b f).map fun q => .jn w q r
  | .qu w x f => (V a b f).map (.qu w x)
def tm : Fo → Nat
  | .is _ _ => 1
  | .does _ _ _ => 2
  | .same _ _ => 2
  | .least _ _ => 0
  | .fals => 0
  | .no f => tm f
  | .jn _ f g => tm f + tm g
  | .qu _ _ f => tm f
theorem fm_card {α β : Type} (g : α → List β) (n : Nat) : ∀ xs : List α, (∀ x, (g x).length = n) → (xs.flatMap g).length = xs.length * n
  | [], _ => by simp
  | x :: xs, h => by rw [List.flatMap_cons, List.length_append, h, fm_card g n xs h, List.length_cons, Nat.succ_mul]; omega
theorem V_len (a b : Str) : ∀ f : Fo, 1 ≤ (V a b f).length ∧ (V a b f).length ≤ 2 ^ tm f
  | .is t k => by unfold V tm; split <;> simp
  | .does e t u => by unfold V tm; split <;> split <;> simp
  | .same t u => by unfold V tm; split <;> split <;> simp
  | .least p q => by simp [V, tm]
  | .fals => by simp [V, tm]
  | .no f => by simpa [V, tm] using V_len a b f
  | .jn w f g => by
    have h1 := V_len a b f
    have h2 := V_len a b g
    have e : (V a b (.jn w f g)).length = (V a b g).length * (V a b f).length := by
      show ((V a b g).flatMap fun r => (V a b f).map fun q => Fo.jn w q r).length = _
      exact fm_card _ _ _ fun r => List.length_map _
    show 1 ≤ (V a b (.jn w f g)).length ∧ (V a b (.jn w f g)).length ≤ 2 ^ (tm f + tm g)
    rw [e, Nat.pow_add, Nat.mul_comm (2 ^ tm f)]
    exact ⟨Nat.mul_le_mul h2.1 h1.1, Nat.mul_le_mul h2.2 h1.2⟩
  | .qu w x f => by simpa [V, tm] using V_len a b f
theorem tm_le : ∀ f : Fo, tm f ≤ 2 * 2 ^ f.dep
  | .is _ _ => by show 1 ≤ 2 * 2 ^ 0; decide
  | .does _ _ _ => by show 2 ≤ 2 * 2 ^ 0; decide
  | .same _ _ => by show 2 ≤ 2 * 2 ^ 0; decide
  | .least _ _ => Nat.zero_le _
  | .fals => Nat.zero_le _
  | .no f => by
    have := tm_le f
    show tm f ≤ 2 * 2 ^ (f.dep + 1)
    rw [Nat.pow_succ]; omega
  | .jn w f g => by
    have h1 := tm_le f
    have h2 := tm_le g
    have k1 := Nat.pow_le_pow_right (show 0 < 2 by decide) (Nat.le_max_left f.dep g.dep)
    have k2 := Nat.pow_le_pow_right (show 0 < 2 by decide) (Nat.le_max_right f.dep g.dep)
    show tm f + tm g ≤ 2 * 2 ^ (max f.dep g.dep + 1)
    rw [Nat.pow_succ]; omega
  | .qu _ _ f => by
    have := tm_le f
    show tm f ≤ 2 * 2 ^ (f.dep + 1)
    rw [Nat.pow_succ]; omega
/-- what a form that is put otherwise keeps -/
theorem V_mem {a b : Str} (hb : sok b) : ∀ f : Fo, Wk f → ∀ g ∈ V a b f, Wk g ∧ g.dep = f.dep ∧ tm g = tm f
  | .is t k, h, g, hg => by
    rcases List.mem_append.mp hg with hg | hg
    · rw [List.mem_singleton.mp hg]; exact ⟨h, rfl, rfl⟩
    · split at hg
      · rw [List.mem_singleton.mp hg]; exact ⟨⟨hb, h.2⟩, rfl, rfl⟩
      · cases hg
  | .does e t u, h, g, hg => by
    rcases List.mem_append.mp hg with hg | hg
    · rcases List.mem_append.mp hg with hg | hg
      · rw [List.mem_singleton.mp hg]; exact ⟨h, rfl, rfl⟩
      · split at hg
        · rw [List.mem_singleton.mp hg]; exact ⟨⟨h.1, hb, h.2.2⟩, rfl, rfl⟩
        · cases hg
    · split at hg
      · rcases List.mem_append.mp hg with hg | hg
        · rw [List.mem_singleton.mp hg]; exact ⟨⟨h.1, h.2.1, hb⟩, rfl, rfl⟩
        · split at hg
          · rw [List.mem_singleton.mp hg]; exact ⟨⟨h.1, hb, hb⟩, rfl, rfl⟩
          · cases hg
      · cases hg
  | .same t u, h, g, hg => by
    rcases List.mem_append.mp hg with hg | hg
    · rcases List.mem_append.mp hg with hg | hg
      · rw [List.mem_singleton.mp hg]; exact ⟨h, rfl, rfl⟩
      · split at hg
        · rw [List.mem_singleton.mp hg]; exact ⟨⟨hb, h.2⟩, rfl, rfl⟩
        · cases hg
    · split at hg
      · rcases List.mem_append.mp hg with hg | hg
        · rw [List.mem_singleton.mp hg]; exact ⟨⟨h.1, hb⟩, rfl, rfl⟩
        · split at hg
          · rw [List.mem_singleton.mp hg]; exact ⟨⟨hb, hb⟩, rfl, rfl⟩
          · cases hg
      · cases hg
  | .least p q, h, g, hg => by rw [List.mem_singleton.mp hg]; exact ⟨h, rfl, rfl⟩
  | .fals, h, g, hg => by rw [List.mem_singleton.mp hg]; exact ⟨h, rfl, rfl⟩
  | .no f, h, g, hg => by
    obtain ⟨x, hx, rfl⟩ := List.mem_map.mp hg
    obtain ⟨h1, h2, h3⟩ := V_mem hb f h x hx
    exact ⟨h1, congrArg (· + 1) h2, h3⟩
  | .jn w f f2, h, g, hg => by
    obtain ⟨y, hy, hg⟩ := List.mem_flatMap.mp hg
    obtain ⟨x, hx, rfl⟩ := List.mem_map.mp hg
    obtain ⟨h1, h2, h3⟩ := V_mem hb f h.1 x hx
    obtain ⟨k1, k2, k3⟩ := V_mem hb f2 h.2 y hy
    refine ⟨⟨h1, k1⟩, ?_, ?_⟩
    · show max x.dep y.dep + 1 = max f.dep f2.dep + 1; rw [h2, k2]
    · show tm x + tm y = tm f + tm f2; rw [h3, k3]
  | .qu w x f, h, g, hg => by
    obtain ⟨y, hy, rfl⟩ := List.mem_map.mp hg
    obtain ⟨h1, h2, h3⟩ := V_mem hb f h.2.2 y hy
    exact ⟨⟨h.1, h.2.1, h1⟩, congrArg (· + 1) h2, h3⟩
theorem ptm_iff {a b t t' : Str} : ptm a b t t' = true ↔ t' = t ∨ (t = a ∧ t' = b) := by
  unfold ptm
  simp only [Bool.or_eq_true, Bool.and_eq_true, decide_eq_true_eq]
  constructor
  · rintro (h | h)
    · exact .inl h.symm
    · exact .inr h
  · rintro (h | h)
    · exact .inl h.symm
    · exact .inr h
/-- a form stands in the row just where it is one put otherwise -/
theorem pu_iff {a b : Str} : ∀ f g : Fo, pu a b f g = true ↔ g ∈ V a b f
  | .is t k, g => by
    have hm : g ∈ V a b (.is t k) ↔ g = .is t k ∨ (t = a ∧ g = .is b k) := by
      unfold V; rw [List.mem_append, List.mem_singleton]; split <;> simp_all
    rw [hm]
    cases g <;> simp [pu, ptm_iff]
    constructor
    · rintro ⟨rfl | ⟨rfl, rfl⟩, rfl⟩
      · exact .inl ⟨rfl, rfl⟩
      · exact .inr ⟨rfl, rfl, rfl⟩
    · rintro (⟨rfl, rfl⟩ | ⟨rfl, rfl, rfl⟩)
      · exact ⟨.inl rfl, rfl⟩
      · exact ⟨.inr ⟨rfl, rfl⟩, rfl⟩
  | .does e t u, g => by
    have hm : g ∈ V a b (.does e t u) ↔ g = .does e t u ∨ (t = a ∧ g = .does e b u) ∨ (u = a ∧ g = .does e t b) ∨ (u = a ∧ t = a ∧ g = .does e b b) := by
      unfold V; rw [List.mem_append, List.mem_append, List.mem_singleton]
      by_cases h1 : t = a <;> by_cases h2 : u = a <;> simp [h1, h2, or_assoc]
    rw [hm]
    cases g <;> simp [pu, ptm_iff]
    constructor
    · rintro ⟨rfl, rfl | ⟨rfl, rfl⟩, rfl | ⟨rfl, rfl⟩⟩
      · exact .inl ⟨rfl, rfl, rfl⟩
      · exact .inr (.inr (.inl ⟨rfl, rfl, rfl, rfl⟩))
      · exact .inr (.inl ⟨rfl, rfl, rfl, rfl⟩)
      · exact .inr (.inr (.inr ⟨rfl, rfl, rfl, rfl, rfl⟩))
    · rintro (⟨rfl, rfl, rfl⟩ | ⟨rfl, rfl, rfl, rfl⟩ | ⟨rfl, rfl, rfl, rfl⟩ | ⟨rfl, rfl, rfl, rfl, rfl⟩)
      · exact ⟨rfl, .inl rfl, .inl rfl⟩
      · exact ⟨rfl, .inr ⟨rfl, rfl⟩, .inl rfl⟩
      · exact ⟨rfl, .inl rfl, .inr ⟨rfl, rfl⟩⟩
      · exact ⟨rfl, .inr ⟨rfl, rfl⟩, .inr ⟨rfl, rfl⟩⟩
  | .same t u, g => by
    have hm : g ∈ V a b (.same t u) ↔ g = .same t u ∨ (t = a ∧ g = .same b u) ∨ (u = a ∧ g = .same t b) ∨ (u = a ∧ t = a ∧ g = .same b b) := by
      unfold V; rw [List.mem_append, List.mem_append, List.mem_singleton]
      by_cases h1 : t = a <;> by_cases h2 : u = a <;> simp [h1, h2, or_assoc]
    rw [hm]
    cases g <;> simp [pu, ptm_iff]
    constructor
    · rintro ⟨rfl | ⟨rfl, rfl⟩, rfl | ⟨rfl, rfl⟩⟩
      · exact .inl ⟨rfl, rfl⟩
      · exact .inr (.inr (.inl ⟨rfl, rfl, rfl⟩))
      · exact .inr (.inl ⟨rfl, rfl, rfl⟩)
      · exact .inr (.inr (.inr ⟨rfl, rfl, rfl, rfl⟩))
    · rintro (⟨rfl, rfl⟩ | ⟨rfl, rfl, rfl⟩ | ⟨rfl, rfl, rfl⟩ | ⟨rfl, rfl, rfl, rfl⟩)
      · exact ⟨.inl rfl, .inl rfl⟩
      · exact ⟨.inr ⟨rfl, rfl⟩, .inl rfl⟩
      · exact ⟨.inl rfl, .inr ⟨rfl, rfl⟩⟩
      · exact ⟨.inr ⟨rfl, rfl⟩, .inr ⟨rfl, rfl⟩⟩
  | .least p q, g => by
    have hm : g ∈ V a b (.least p q) ↔ g = .least p q := by unfold V; exact List.mem_singleton
    rw [hm]
    cases g <;> simp [pu]
    exact ⟨fun h => ⟨h.1.symm, h.2.symm⟩, fun h => ⟨h.1.symm, h.2.symm⟩⟩
  | .fals, g => by
    have hm : g ∈ V a b .fals ↔ g = .fals := by unfold V; exact List.mem_singleton
    rw [hm]
    cases g <;> simp [pu]
  | .no f, g => by
    have hm : g ∈ V a b (.no f) ↔ ∃ x ∈ V a b f, Fo.no x = g := by show g ∈ (V a b f).map Fo.no ↔ _; exact List.mem_map
    rw [hm]
    cases g with
    | no g =>
      have ih := pu_iff (a := a) (b := b) f g
      show pu a b f g = true ↔ _
      rw [ih]
      exact ⟨fun h => ⟨g, h, rfl⟩, fun ⟨x, hx, e⟩ => by cases e; exact hx⟩
    | _ => simp [pu]
  | .jn w f f2, g => by
    have hm : g ∈ V a b (.jn w f f2) ↔ ∃ r ∈ V a b f2, ∃ q ∈ V a b f, Fo.jn w q r = g := by show g ∈ ((V a b f2).flatMap fun r => (V a b f).map fun q => Fo.jn w q r) ↔ _; simp only [List.mem_flatMap, List.mem_map]
    rw [hm]
    cases g with
    | jn w' g g2 =>
      have ih := pu_iff (a := a) (b := b) f g
      have ih2 := pu_iff (a := a) (b := b) f2 g2
      show (decide (w.s = w'.s) && (pu a b f g && pu a b f2 g2)) = true ↔ _
      rw [Bool.and_eq_true, Bool.and_eq_true, decide_eq_true_eq, ih, ih2]
      constructor
      · rintro ⟨h1, h2, h3⟩
        exact ⟨g2, h3, g, h2, by rw [Lw38.jw_inj h1]⟩
      · rintro ⟨r, hr, q, hq, e⟩
        cases e
        exact ⟨rfl, hq, hr⟩
    | _ => simp [pu]
  | .qu w x f, g => by
    have hm : g ∈ V a b (.qu w x f) ↔ ∃ q ∈ V a b f, Fo.qu w x q = g := by show g ∈ (V a b f).map (Fo.qu w x) ↔ _; exact List.mem_map
    rw [hm]
    cases g with
    | qu w' y g =>
      have ih := pu_iff (a := a) (b := b) f g
      show (decide (w.s = w'.s) && (decide (x = y) && pu a b f g)) = true ↔ _
      rw [Bool.and_eq_true, Bool.and_eq_true, decide_eq_true_eq, decide_eq_true_eq, ih]
      constructor
      · rintro ⟨h1, rfl, h3⟩
        exact ⟨g, h3, by rw [Lw38.qw_inj h1]⟩
      · rintro ⟨q, hq, e⟩
        cases e
        exact ⟨rfl, rfl, hq⟩
    | _ => simp [pu]
theorem smp_row : ∀ fs : List Fo, (∀ g ∈ fs, Wk g ∧ g.dep ≤ 40) → Lw38.smpAll (fs.map Fo.d) = true ∧ PyData.depthAll (fs.map Fo.d) ≤ 44
  | [], _ => by simp [Lw38.smpAll, PyData.depthAll]
  | f :: fs, h => by
    obtain ⟨h1, h2⟩ := smp_row fs fun x hx => h x (List.mem_cons_of_mem _ hx)
    obtain ⟨w, hd⟩ := h f List.mem_cons_self
    have h3 := smp_wk f w
    have h4 := dep_fo f
    refine ⟨by simp [Lw38.smpAll, h1, h3], ?_⟩
    simp only [List.map_cons, PyData.depthAll]
    omega
/-- a form in a row of forms -/
theorem in_row {g : Fo} {fs : List Fo} (hg : Wk g) (dg : g.dep ≤ 40) (h : ∀ x ∈ fs, Wk x ∧ x.dep ≤ 40)  : ∃ c, pIn g.d (.list (fs.map Fo.d)) = some (.bool c) ∧ (c = true ↔ g ∈ fs) := by
  have hs := smp_row fs h
  have sl : SeqAt.shaped (.list (fs.map Fo.d)) = true := by
    have e : PyData.canLay0 (.list (fs.map Fo.d)) = true := by simp only [PyData.canLay0]; exact Lw38.smp_lays _ hs.1
    have d : PyData.depth (.list (fs.map Fo.d)) ≤ 64 := by simp only [PyData.depth]; have := hs.2; omega
    unfold SeqAt.shaped
    rw [e, decide_eq_true d]
    rfl
  have sg : Lw38.Sp g.d := ⟨smp_wk g hg, by have := dep_fo g; omega⟩
  have e1 : memD g.d (fs.map Fo.d) = none := by
    unfold memD
    rw [if_neg]
    rintro ⟨k, _⟩
    rw [d_row] at k
    cases k
  have e2 : deepIn g.d (fs.map Fo.d) = some ((fs.map Fo.d).any fun z => PyData.eqv z g.d) := by
    unfold deepIn
    rw [if_pos ⟨sg.shape, sl⟩]
  refine ⟨(fs.map Fo.d).any fun z => PyData.eqv z g.d, ?_, ?_⟩
  · show Option.map PyData.bool (match memD g.d (fs.map Fo.d) with | some b => some b | none => deepIn g.d (fs.map Fo.d)) = _
    rw [e1, e2]
    rfl
  · rw [List.any_eq_true]
    constructor
    · rintro ⟨z, hz, he⟩
      obtain ⟨x, hx, rfl⟩ := List.mem_map.mp hz
      have := (Lw38.smp_eq x.d g.d (smp_wk x (h x hx).1) sg.sm).mp he
      rw [← d_inj x g this]
      exact hx
    · intro hx
      exact ⟨g.d, List.mem_map.mpr ⟨g, hx, rfl⟩, (Lw38.smp_eq g.d g.d sg.sm sg.sm).mpr rfl⟩
end Lw32
set_option Elab.async false
set_option linter.all false
set_option maxRecDepth 100000
set_option maxHeartbeats 1000000
/-! all parts, all kinds of a form -/
namespace Lw38
open PySem PySem.Spec L2 Dl Mx Ds Lw01 Lw41
section
variable {S : Type} {s : S} {ρ : Rho} {f : Ev S} {Q : Rs → S → Prop}
def Fm.kinds (f : Fm) : List Str := f.parts.flatMap Fm.kd
end
end Lw38
set_option Elab.async false
set_option linter.all false
set_option maxRecDepth 100000
set_option maxHeartbeats 1000000
/-! k32: the law's variants, as an equation -/
namespace Lw32
open PySem PySem.Spec L2 Dl Mx Ds Lw01
open Lw41 (Tot totD Pt ptD take_snoc)
open Lw30 (Fo Fo.d Fo.dep Fo.head Fo.row d_row head9 sok dep_fo Jw Qw h_fl h_t h_q Fo.isFL Fo.isT Fo.isQ)
section
variable {S : Type} {s : S} {a b : Str}
abbrev swRow : Ev S := cB pAdd (cB pAdd (cSl pSl (cVar 7) oNo (oOf (cVar 4))) (cN pTup (aCons (cVar 2) aNil))) (cSl pSl (cVar 7) (oOf (cB pAdd (cVar 4) (cK (.int 1)))) oNo)
abbrev swBody : Sv S := sIf (qT (cB pEq (cB pIx (cVar 0) (cVar 4)) (cVar 1)))
        (sSet 3 (cB pAdd (cVar 3) (cNl (lcF (iOf asL (cVar 3)) (gNm 7) qYes swRow [7]))))
        sNx
theorem sw_comp {f : Fo} {k : Int} {o3 o5 o6 o7 o8 : Option D} (st : Fo → Fo) : ∀ gs : List Fo, (∀ g ∈ gs, swRow (S := S) [some f.d, some (.str a), some (.str b), o3, some (.int k), o5, o6, some g.d, o8] s = some ((st g).d, s)) →
    compF (gNm 7) qYes swRow [some f.d, some (.str a), some (.str b), o3, some (.int k), o5, o6, o7, o8] (gs.map Fo.d) s = some ((gs.map st).map Fo.d, s)
  | [], _ => rfl
  | g :: gs, h => by
    have ih := sw_comp (o7 := o7) st gs fun x hx => h x (List.mem_cons_of_mem _ hx)
    show bnd (swRow (S := S) [some f.d, some (.str a), some (.str b), o3, some (.int k), o5, o6, some g.d, o8] s) (fun y s => bnd (compF (gNm 7) qYes swRow [some f.d, some (.str a), some (.str b), o3, some (.int k), o5, o6, o7, o8] (gs.map Fo.d) s) fun ys s => some (y :: ys, s)) = _
    rw [h g List.mem_cons_self]
    show bnd (compF (gNm 7) qYes swRow [some f.d, some (.str a), some (.str b), o3, some (.int k), o5, o6, o7, o8] (gs.map Fo.d) s) _ = _
    rw [ih]
    rfl
theorem sw_step {f : Fo} {t : Str} {k : Int} {o5 o6 o7 o8 : Option D} {gs : List Fo} (st : Fo → Fo) (hk : pIx f.d (.int k) = some (.str t)) (hl : gs.length ≤ 100) (h : ∀ g ∈ gs, ∀ o3, swRow (S := S) [some f.d, some (.str a), some (.str b), o3, some (.int k), o5, o6, some g.d, o8] s = some ((st g).d, s)) :
    Ok (swBody (S := S) [some f.d, some (.str a), some (.str b), some (.list (gs.map Fo.d)), some (.int k), o5, o6, o7, o8] s) fun r s' => r = .nx [some f.d, some (.str a), some (.str b), some (.list ((gs ++ if t = a then gs.map st else []).map Fo.d)), some (.int k), o5, o6, o7, o8] ∧ s' = s := by
  refine k_sIf ?_
  simp only [ok_V0, ok_Vs, ok_K, ok_B, ok_U, ok_nil, ok_cons, ok_N, ok_aN, ok_call, ok_nl, ok_fl, ok_afl, ok_T, ok_qNot, ok_qAnd, ok_qOr, ok_and, ok_or, ok_not, ok_if, ok_Sl, ok_oNo, ok_oOf, ok_Ch, ok_it, ok_itA, ok_yes, v_addI, v_sub, v_neg, v_eqI, v_eqS, v_eqB, v_eq0, v_eqT0, v_neI, v_neS, v_neB, v_ne0, v_neT0, v_ltI, v_leI, v_gtI, v_geI, v_is, v_isNot, v_nn, v_ns, v_ni, v_nl, v_nt, v_tb, v_tl, v_tt, v_tn, v_ti, v_asB, v_asI, v_asL, v_asT, v_asS, v_lenL, v_lenT, v_tupL, v_tupT, v_listL, v_listT, v_intB, v_tup0, v_tup1, v_tup2, v_tup3, v_tup4, v_tup5, v_lst0, v_lst1, v_lst2, v_lst3, v_lst4, v_lst5, v_ok0, v_ok1, v_ok2, v_ix0L, v_ix0, v_ix1, v_ix2, v_ix3, v_fs, v_fi, v_fb, v_fn, v_ft, v_f0, v_fc, startR, List.map_cons, List.map_nil, List.length_cons, List.length_nil, List.replicate, List.cons_append, List.nil_append, List.set_cons_zero, List.set_cons_succ, Option.some.injEq, exists_eq_left', Nat.reduceAdd, Nat.reduceSub, Nat.sub_zero, Nat.sub_self, Nat.zero_add, Nat.reduceEqDiff, Bool.not_true, Bool.not_false, if_true, if_false, Bool.and_self, Bool.true_and, Bool.and_true, Bool.false_eq_true, ↓reduceIte, true_and, and_true, decide_true, decide_false, wipeR, hk]
  by_cases e : t = a
  · rw [decide_eq_true e, if_pos e]
    simp only [ok_V0, ok_Vs, ok_K, ok_B, ok_U, ok_nil, ok_cons, ok_N, ok_aN, ok_call, ok_nl, ok_fl, ok_afl, ok_T, ok_qNot, ok_qAnd, ok_qOr, ok_and, ok_or, ok_not, ok_if, ok_Sl, ok_oNo, ok_oOf, ok_Ch, ok_it, ok_itA, ok_yes, v_addI, v_sub, v_neg, v_eqI, v_eqS, v_eqB, v_eq0, v_eqT0, v_neI, v_neS, v_neB, v_ne0, v_neT0, v_ltI, v_leI, v_gtI, v_geI, v_is, v_isNot, v_nn, v_ns, v_ni, v_nl, v_nt, v_tb, v_tl, v_tt, v_tn, v_ti, v_asB, v_asI, v_asL, v_asT, v_asS, v_lenL, v_lenT, v_tupL, v_tupT, v_listL, v_listT, v_intB, v_tup0, v_tup1, v_tup2, v_tup3, v_tup4, v_tup5, v_lst0, v_lst1, v_lst2, v_lst3, v_lst4, v_lst5, v_ok0, v_ok1, v_ok2, v_ix0L, v_ix0, v_ix1, v_ix2, v_ix3, v_fs, v_fi, v_fb, v_fn, v_ft, v_f0, v_fc, startR, List.map_cons, List.map_nil, List.length_cons, List.length_nil, List.replicate, List.cons_append, List.nil_append, List.set_cons_zero, List.set_cons_succ, Option.some.injEq, exists_eq_left', Nat.reduceAdd, Nat.reduceSub, Nat.sub_zero, Nat.sub_self, Nat.zero_add, Nat.reduceEqDiff, Bool.not_true, Bool.not_false, if_true, if_false, Bool.and_self, Bool.true_and, Bool.and_true, Bool.false_eq_true, ↓reduceIte, true_and, and_true, decide_true, decide_false, wipeR]
    refine k_set ?_
    have hlc : lcF (iOf asL (cVar 3)) (gNm 7) qYes swRow [7] [some f.d, some (.str a), some (.str b), some (.list (gs.map Fo.d)), some (.int k), o5, o6, o7, o8] s = some ((gs.map st).map Fo.d, s) := by
      unfold lcF
      show (if (gs.map Fo.d).length ≤ sizeLine then compF (gNm 7) qYes swRow [some f.d, some (.str a), some (.str b), some (.list (gs.map Fo.d)), some (.int k), o5, o6, none, o8] (gs.map Fo.d) s else none) = _
      rw [if_pos (by rw [List.length_map]; exact szL (by omega))]
      exact sw_comp st gs fun g hg => h g hg _
    simp only [ok_V0, ok_Vs, ok_K, ok_B, ok_U, ok_nil, ok_cons, ok_N, ok_aN, ok_call, ok_nl, ok_fl, ok_afl, ok_T, ok_qNot, ok_qAnd, ok_qOr, ok_and, ok_or, ok_not, ok_if, ok_Sl, ok_oNo, ok_oOf, ok_Ch, ok_it, ok_itA, ok_yes, v_addI, v_sub, v_neg, v_eqI, v_eqS, v_eqB, v_eq0, v_eqT0, v_neI, v_neS, v_neB, v_ne0, v_neT0, v_ltI, v_leI, v_gtI, v_geI, v_is, v_isNot, v_nn, v_ns, v_ni, v_nl, v_nt, v_tb, v_tl, v_tt, v_tn, v_ti, v_asB, v_asI, v_asL, v_asT, v_asS, v_lenL, v_lenT, v_tupL, v_tupT, v_listL, v_listT, v_intB, v_tup0, v_tup1, v_tup2, v_tup3, v_tup4, v_tup5, v_lst0, v_lst1, v_lst2, v_lst3, v_lst4, v_lst5, v_ok0, v_ok1, v_ok2, v_ix0L, v_ix0, v_ix1, v_ix2, v_ix3, v_fs, v_fi, v_fb, v_fn, v_ft, v_f0, v_fc, startR, List.map_cons, List.map_nil, List.length_cons, List.length_nil, List.replicate, List.cons_append, List.nil_append, List.set_cons_zero, List.set_cons_succ, Option.some.injEq, exists_eq_left', Nat.reduceAdd, Nat.reduceSub, Nat.sub_zero, Nat.sub_self, Nat.zero_add, Nat.reduceEqDiff, Bool.not_true, Bool.not_false, if_true, if_false, Bool.and_self, Bool.true_and, Bool.and_true, Bool.false_eq_true, ↓reduceIte, true_and, and_true, decide_true, decide_false, wipeR]
    refine ⟨_, _, hlc, ?_⟩
    refine ⟨_, v_addL (by rw [List.length_map, List.length_map, List.length_map]; exact szL (by omega)), ?_⟩
    rw [List.map_append]
    exact ⟨rfl, rfl⟩
  · rw [decide_eq_false e, if_neg e]
    simp only [ok_V0, ok_Vs, ok_K, ok_B, ok_U, ok_nil, ok_cons, ok_N, ok_aN, ok_call, ok_nl, ok_fl, ok_afl, ok_T, ok_qNot, ok_qAnd, ok_qOr, ok_and, ok_or, ok_not, ok_if, ok_Sl, ok_oNo, ok_oOf, ok_Ch, ok_it, ok_itA, ok_yes, v_addI, v_sub, v_neg, v_eqI, v_eqS, v_eqB, v_eq0, v_eqT0, v_neI, v_neS, v_neB, v_ne0, v_neT0, v_ltI, v_leI, v_gtI, v_geI, v_is, v_isNot, v_nn, v_ns, v_ni, v_nl, v_nt, v_tb, v_tl, v_tt, v_tn, v_ti, v_asB, v_asI, v_asL, v_asT, v_asS, v_lenL, v_lenT, v_tupL, v_tupT, v_listL, v_listT, v_intB, v_tup0, v_tup1, v_tup2, v_tup3, v_tup4, v_tup5, v_lst0, v_lst1, v_lst2, v_lst3, v_lst4, v_lst5, v_ok0, v_ok1, v_ok2, v_ix0L, v_ix0, v_ix1, v_ix2, v_ix3, v_fs, v_fi, v_fb, v_fn, v_ft, v_f0, v_fc, startR, List.map_cons, List.map_nil, List.length_cons, List.length_nil, List.replicate, List.cons_append, List.nil_append, List.set_cons_zero, List.set_cons_succ, Option.some.injEq, exists_eq_left', Nat.reduceAdd, Nat.reduceSub, Nat.sub_zero, Nat.sub_self, Nat.zero_add, Nat.reduceEqDiff, Bool.not_true, Bool.not_false, if_true, if_false, Bool.and_self, Bool.true_and, Bool.and_true, Bool.false_eq_true, ↓reduceIte, true_and, and_true, decide_true, decide_false, wipeR]
    refine k_nx ⟨?_, rfl⟩
    rw [List.append_nil]
/-- the row's walk, over one place or two -/
theorem sw_walk {f : Fo} {ks : List Int} {L : Nat → List Fo} (hT : K_w_terms [f.d] s = some (.list (ks.map .int), s)) (h0 : L 0 = [f]) (hs : ∀ j k, ks[j]? = some k → ∀ o5 o6 o7 o8, Ok (swBody (S := S) [some f.d, some (.str a), some (.str b), some (.list ((L j).map Fo.d)), some (.int k), o5, o6, o7, o8] s) fun r s' => r = .nx [some f.d, some (.str a), some (.str b), some (.list ((L (j + 1)).map Fo.d)), some (.int k), o5, o6, o7, o8] ∧ s' = s)
    (hq : f.isT = true) {F : Fn S} : K_w_variants K_w_terms F [f.d, .str a, .str b] s = some (.list ((L ks.length).map Fo.d), s) := by
  refine ok_eq ?_
  unfold K_w_variants B_w_variants
  refine k_fn (k_seq (k_sIf ?_))
  simp only [ok_V0, ok_Vs, ok_K, ok_B, ok_U, ok_nil, ok_cons, ok_N, ok_aN, ok_call, ok_nl, ok_fl, ok_afl, ok_T, ok_qNot, ok_qAnd, ok_qOr, ok_and, ok_or, ok_not, ok_if, ok_Sl, ok_oNo, ok_oOf, ok_Ch, ok_it, ok_itA, ok_yes, v_addI, v_sub, v_neg, v_eqI, v_eqS, v_eqB, v_eq0, v_eqT0, v_neI, v_neS, v_neB, v_ne0, v_neT0, v_ltI, v_leI, v_gtI, v_geI, v_is, v_isNot, v_nn, v_ns, v_ni, v_nl, v_nt, v_tb, v_tl, v_tt, v_tn, v_ti, v_asB, v_asI, v_asL, v_asT, v_asS, v_lenL, v_lenT, v_tupL, v_tupT, v_listL, v_listT, v_intB, v_tup0, v_tup1, v_tup2, v_tup3, v_tup4, v_tup5, v_lst0, v_lst1, v_lst2, v_lst3, v_lst4, v_lst5, v_ok0, v_ok1, v_ok2, v_ix0L, v_ix0, v_ix1, v_ix2, v_ix3, v_fs, v_fi, v_fb, v_fn, v_ft, v_f0, v_fc, startR, List.map_cons, List.map_nil, List.length_cons, List.length_nil, List.replicate, List.cons_append, List.nil_append, List.set_cons_zero, List.set_cons_succ, Option.some.injEq, exists_eq_left', Nat.reduceAdd, Nat.reduceSub, Nat.sub_zero, Nat.sub_self, Nat.zero_add, Nat.reduceEqDiff, Bool.not_true, Bool.not_false, if_true, if_false, Bool.and_self, Bool.true_and, Bool.and_true, Bool.false_eq_true, ↓reduceIte, true_and, and_true, decide_true, decide_false, wipeR, head9, h_t, hq]
  refine k_seq (k_set ?_)
  simp only [ok_V0, ok_Vs, ok_K, ok_B, ok_U, ok_nil, ok_cons, ok_N, ok_aN, ok_call, ok_nl, ok_fl, ok_afl, ok_T, ok_qNot, ok_qAnd, ok_qOr, ok_and, ok_or, ok_not, ok_if, ok_Sl, ok_oNo, ok_oOf, ok_Ch, ok_it, ok_itA, ok_yes, v_addI, v_sub, v_neg, v_eqI, v_eqS, v_eqB, v_eq0, v_eqT0, v_neI, v_neS, v_neB, v_ne0, v_neT0, v_ltI, v_leI, v_gtI, v_geI, v_is, v_isNot, v_nn, v_ns, v_ni, v_nl, v_nt, v_tb, v_tl, v_tt, v_tn, v_ti, v_asB, v_asI, v_asL, v_asT, v_asS, v_lenL, v_lenT, v_tupL, v_tupT, v_listL, v_listT, v_intB, v_tup0, v_tup1, v_tup2, v_tup3, v_tup4, v_tup5, v_lst0, v_lst1, v_lst2, v_lst3, v_lst4, v_lst5, v_ok0, v_ok1, v_ok2, v_ix0L, v_ix0, v_ix1, v_ix2, v_ix3, v_fs, v_fi, v_fb, v_fn, v_ft, v_f0, v_fc, startR, List.map_cons, List.map_nil, List.length_cons, List.length_nil, List.replicate, List.cons_append, List.nil_append, List.set_cons_zero, List.set_cons_succ, Option.some.injEq, exists_eq_left', Nat.reduceAdd, Nat.reduceSub, Nat.sub_zero, Nat.sub_self, Nat.zero_add, Nat.reduceEqDiff, Bool.not_true, Bool.not_false, if_true, if_false, Bool.and_self, Bool.true_and, Bool.and_true, Bool.false_eq_true, ↓reduceIte, true_and, and_true, decide_true, decide_false, wipeR]
  refine k_seq (k_forP (fun ds s' => ds = ks.map .int ∧ s' = s) ?_ ?_)
  · simp only [ok_V0, ok_Vs, ok_K, ok_B, ok_U, ok_nil, ok_cons, ok_N, ok_aN, ok_call, ok_nl, ok_fl, ok_afl, ok_T, ok_qNot, ok_qAnd, ok_qOr, ok_and, ok_or, ok_not, ok_if, ok_Sl, ok_oNo, ok_oOf, ok_Ch, ok_it, ok_itA, ok_yes, v_addI, v_sub, v_neg, v_eqI, v_eqS, v_eqB, v_eq0, v_eqT0, v_neI, v_neS, v_neB, v_ne0, v_neT0, v_ltI, v_leI, v_gtI, v_geI, v_is, v_isNot, v_nn, v_ns, v_ni, v_nl, v_nt, v_tb, v_tl, v_tt, v_tn, v_ti, v_asB, v_asI, v_asL, v_asT, v_asS, v_lenL, v_lenT, v_tupL, v_tupT, v_listL, v_listT, v_intB, v_tup0, v_tup1, v_tup2, v_tup3, v_tup4, v_tup5, v_lst0, v_lst1, v_lst2, v_lst3, v_lst4, v_lst5, v_ok0, v_ok1, v_ok2, v_ix0L, v_ix0, v_ix1, v_ix2, v_ix3, v_fs, v_fi, v_fb, v_fn, v_ft, v_f0, v_fc, startR, List.map_cons, List.map_nil, List.length_cons, List.length_nil, List.replicate, List.cons_append, List.nil_append, List.set_cons_zero, List.set_cons_succ, Option.some.injEq, exists_eq_left', Nat.reduceAdd, Nat.reduceSub, Nat.sub_zero, Nat.sub_self, Nat.zero_add, Nat.reduceEqDiff, Bool.not_true, Bool.not_false, if_true, if_false, Bool.and_self, Bool.true_and, Bool.and_true, Bool.false_eq_true, ↓reduceIte, true_and, and_true, decide_true, decide_false, wipeR]
    exact ⟨_, _, hT, by simp only [ok_V0, ok_Vs, ok_K, ok_B, ok_U, ok_nil, ok_cons, ok_N, ok_aN, ok_call, ok_nl, ok_fl, ok_afl, ok_T, ok_qNot, ok_qAnd, ok_qOr, ok_and, ok_or, ok_not, ok_if, ok_Sl, ok_oNo, ok_oOf, ok_Ch, ok_it, ok_itA, ok_yes, v_addI, v_sub, v_neg, v_eqI, v_eqS, v_eqB, v_eq0, v_eqT0, v_neI, v_neS, v_neB, v_ne0, v_neT0, v_ltI, v_leI, v_gtI, v_geI, v_is, v_isNot, v_nn, v_ns, v_ni, v_nl, v_nt, v_tb, v_tl, v_tt, v_tn, v_ti, v_asB, v_asI, v_asL, v_asT, v_asS, v_lenL, v_lenT, v_tupL, v_tupT, v_listL, v_listT, v_intB, v_tup0, v_tup1, v_tup2, v_tup3, v_tup4, v_tup5, v_lst0, v_lst1, v_lst2, v_lst3, v_lst4, v_lst5, v_ok0, v_ok1, v_ok2, v_ix0L, v_ix0, v_ix1, v_ix2, v_ix3, v_fs, v_fi, v_fb, v_fn, v_ft, v_f0, v_fc, startR, List.map_cons, List.map_nil, List.length_cons, List.length_nil, List.replicate, List.cons_append, List.nil_append, List.set_cons_zero, List.set_cons_succ, Option.some.injEq, exists_eq_left', Nat.reduceAdd, Nat.reduceSub, Nat.sub_zero, Nat.sub_self, Nat.zero_add, Nat.reduceEqDiff, Bool.not_true, Bool.not_false, if_true, if_false, Bool.and_self, Bool.true_and, Bool.and_true, Bool.false_eq_true, ↓reduceIte, true_and, and_true, decide_true, decide_false, wipeR]⟩
  rintro ds s1 ⟨rfl, rfl⟩
  refine ⟨fun j ρ s' => s' = s1 ∧ ∃ o4, ρ = [some f.d, some (.str a), some (.str b), some (.list ((L j).map Fo.d)), o4, none, none, none, none], ⟨rfl, _, by rw [h0]; rfl⟩, ?_, ?_⟩
  · rintro j d ρ s2 hj ⟨rfl, o4, rfl⟩
    rw [List.getElem?_map, Option.map_eq_some_iff] at hj
    obtain ⟨k, hk, rfl⟩ := hj
    refine ⟨_, rfl, ?_⟩
    refine (hs j k hk none none none none).imp ?_
    rintro r s3 ⟨rfl, rfl⟩
    exact ⟨rfl, _, rfl⟩
  · rintro ρ s2 ⟨rfl, o4, rfl⟩
    rw [List.length_map]
    refine k_ret ?_
    simp only [ok_V0, ok_Vs, ok_K, ok_B, ok_U, ok_nil, ok_cons, ok_N, ok_aN, ok_call, ok_nl, ok_fl, ok_afl, ok_T, ok_qNot, ok_qAnd, ok_qOr, ok_and, ok_or, ok_not, ok_if, ok_Sl, ok_oNo, ok_oOf, ok_Ch, ok_it, ok_itA, ok_yes, v_addI, v_sub, v_neg, v_eqI, v_eqS, v_eqB, v_eq0, v_eqT0, v_neI, v_neS, v_neB, v_ne0, v_neT0, v_ltI, v_leI, v_gtI, v_geI, v_is, v_isNot, v_nn, v_ns, v_ni, v_nl, v_nt, v_tb, v_tl, v_tt, v_tn, v_ti, v_asB, v_asI, v_asL, v_asT, v_asS, v_lenL, v_lenT, v_tupL, v_tupT, v_listL, v_listT, v_intB, v_tup0, v_tup1, v_tup2, v_tup3, v_tup4, v_tup5, v_lst0, v_lst1, v_lst2, v_lst3, v_lst4, v_lst5, v_ok0, v_ok1, v_ok2, v_ix0L, v_ix0, v_ix1, v_ix2, v_ix3, v_fs, v_fi, v_fb, v_fn, v_ft, v_f0, v_fc, startR, List.map_cons, List.map_nil, List.length_cons, List.length_nil, List.replicate, List.cons_append, List.nil_append, List.set_cons_zero, List.set_cons_succ, Option.some.injEq, exists_eq_left', Nat.reduceAdd, Nat.reduceSub, Nat.sub_zero, Nat.sub_self, Nat.zero_add, Nat.reduceEqDiff, Bool.not_true, Bool.not_false, if_true, if_false, Bool.and_self, Bool.true_and, Bool.and_true, Bool.false_eq_true, ↓reduceIte, true_and, and_true, decide_true, decide_false, wipeR]
def Fva : Nat → Fn S
  | 0 => fun _ _ => none
  | m + 1 => K_w_variants K_w_terms (Fva m)
theorem var_leaf {f : Fo} {F : Fn S} (hq : f.isT = false) (hl : f.isFL = true) : K_w_variants K_w_terms F [f.d, .str a, .str b] s = some (.list [f.d], s) := by
  refine ok_eq ?_
  unfold K_w_variants B_w_variants
  refine k_fn (k_seq (k_sIf ?_))
  simp only [ok_V0, ok_Vs, ok_K, ok_B, ok_U, ok_nil, ok_cons, ok_N, ok_aN, ok_call, ok_nl, ok_fl, ok_afl, ok_T, ok_qNot, ok_qAnd, ok_qOr, ok_and, ok_or, ok_not, ok_if, ok_Sl, ok_oNo, ok_oOf, ok_Ch, ok_it, ok_itA, ok_yes, v_addI, v_sub, v_neg, v_eqI, v_eqS, v_eqB, v_eq0, v_eqT0, v_neI, v_neS, v_neB, v_ne0, v_neT0, v_ltI, v_leI, v_gtI, v_geI, v_is, v_isNot, v_nn, v_ns, v_ni, v_nl, v_nt, v_tb, v_tl, v_tt, v_tn, v_ti, v_asB, v_asI, v_asL, v_asT, v_asS, v_lenL, v_lenT, v_tupL, v_tupT, v_listL, v_listT, v_intB, v_tup0, v_tup1, v_tup2, v_tup3, v_tup4, v_tup5, v_lst0, v_lst1, v_lst2, v_lst3, v_lst4, v_lst5, v_ok0, v_ok1, v_ok2, v_ix0L, v_ix0, v_ix1, v_ix2, v_ix3, v_fs, v_fi, v_fb, v_fn, v_ft, v_f0, v_fc, startR, List.map_cons, List.map_nil, List.length_cons, List.length_nil, List.replicate, List.cons_append, List.nil_append, List.set_cons_zero, List.set_cons_succ, Option.some.injEq, exists_eq_left', Nat.reduceAdd, Nat.reduceSub, Nat.sub_zero, Nat.sub_self, Nat.zero_add, Nat.reduceEqDiff, Bool.not_true, Bool.not_false, if_true, if_false, Bool.and_self, Bool.true_and, Bool.and_true, Bool.false_eq_true, ↓reduceIte, true_and, and_true, decide_true, decide_false, wipeR, head9, h_t, hq]
  refine k_nx (k_seq (k_sIf ?_))
  simp only [ok_V0, ok_Vs, ok_K, ok_B, ok_U, ok_nil, ok_cons, ok_N, ok_aN, ok_call, ok_nl, ok_fl, ok_afl, ok_T, ok_qNot, ok_qAnd, ok_qOr, ok_and, ok_or, ok_not, ok_if, ok_Sl, ok_oNo, ok_oOf, ok_Ch, ok_it, ok_itA, ok_yes, v_addI, v_sub, v_neg, v_eqI, v_eqS, v_eqB, v_eq0, v_eqT0, v_neI, v_neS, v_neB, v_ne0, v_neT0, v_ltI, v_leI, v_gtI, v_geI, v_is, v_isNot, v_nn, v_ns, v_ni, v_nl, v_nt, v_tb, v_tl, v_tt, v_tn, v_ti, v_asB, v_asI, v_asL, v_asT, v_asS, v_lenL, v_lenT, v_tupL, v_tupT, v_listL, v_listT, v_intB, v_tup0, v_tup1, v_tup2, v_tup3, v_tup4, v_tup5, v_lst0, v_lst1, v_lst2, v_lst3, v_lst4, v_lst5, v_ok0, v_ok1, v_ok2, v_ix0L, v_ix0, v_ix1, v_ix2, v_ix3, v_fs, v_fi, v_fb, v_fn, v_ft, v_f0, v_fc, startR, List.map_cons, List.map_nil, List.length_cons, List.length_nil, List.replicate, List.cons_append, List.nil_append, List.set_cons_zero, List.set_cons_succ, Option.some.injEq, exists_eq_left', Nat.reduceAdd, Nat.reduceSub, Nat.sub_zero, Nat.sub_self, Nat.zero_add, Nat.reduceEqDiff, Bool.not_true, Bool.not_false, if_true, if_false, Bool.and_self, Bool.true_and, Bool.and_true, Bool.false_eq_true, ↓reduceIte, true_and, and_true, decide_true, decide_false, wipeR, head9, h_fl, hl]
  refine k_ret ?_
  simp only [ok_V0, ok_Vs, ok_K, ok_B, ok_U, ok_nil, ok_cons, ok_N, ok_aN, ok_call, ok_nl, ok_fl, ok_afl, ok_T, ok_qNot, ok_qAnd, ok_qOr, ok_and, ok_or, ok_not, ok_if, ok_Sl, ok_oNo, ok_oOf, ok_Ch, ok_it, ok_itA, ok_yes, v_addI, v_sub, v_neg, v_eqI, v_eqS, v_eqB, v_eq0, v_eqT0, v_neI, v_neS, v_neB, v_ne0, v_neT0, v_ltI, v_leI, v_gtI, v_geI, v_is, v_isNot, v_nn, v_ns, v_ni, v_nl, v_nt, v_tb, v_tl, v_tt, v_tn, v_ti, v_asB, v_asI, v_asL, v_asT, v_asS, v_lenL, v_lenT, v_tupL, v_tupT, v_listL, v_listT, v_intB, v_tup0, v_tup1, v_tup2, v_tup3, v_tup4, v_tup5, v_lst0, v_lst1, v_lst2, v_lst3, v_lst4, v_lst5, v_ok0, v_ok1, v_ok2, v_ix0L, v_ix0, v_ix1, v_ix2, v_ix3, v_fs, v_fi, v_fb, v_fn, v_ft, v_f0, v_fc, startR, List.map_cons, List.map_nil, List.length_cons, List.length_nil, List.replicate, List.cons_append, List.nil_append, List.set_cons_zero, List.set_cons_succ, Option.some.injEq, exists_eq_left', Nat.reduceAdd, Nat.reduceSub, Nat.sub_zero, Nat.sub_self, Nat.zero_add, Nat.reduceEqDiff, Bool.not_true, Bool.not_false, if_true, if_false, Bool.and_self, Bool.true_and, Bool.and_true, Bool.false_eq_true, ↓reduceIte, true_and, and_true, decide_true, decide_false, wipeR]
theorem qu_comp {w : Qw} {x : Str} {f : Fo} {o1 o2 o3 o4 o5 o6 o7 o8 : Option D} : ∀ gs : List Fo, compF (gNm 7) qYes (cN pTup (aCons (cB pIx (cVar 0) (cK (.int 0))) (aCons (cB pIx (cVar 0) (cK (.int 1))) (aCons (cVar 7) aNil)))) [some (Fo.qu w x f).d, o1, o2, o3, o4, o5, o6, o7, o8] (gs.map Fo.d) s = some ((gs.map (Fo.qu w x)).map Fo.d, s)
  | [] => rfl
  | g :: gs => by
    show bnd (compF (gNm 7) qYes (cN pTup (aCons (cB pIx (cVar 0) (cK (.int 0))) (aCons (cB pIx (cVar 0) (cK (.int 1))) (aCons (cVar 7) aNil)))) [some (Fo.qu w x f).d, o1, o2, o3, o4, o5, o6, o7, o8] (gs.map Fo.d) s) (fun ys s => some ((Fo.qu w x g).d :: ys, s)) = _
    rw [qu_comp gs]
    rfl
theorem ah_comp {a0 a1 a2 a3 a4 a5 a6 o8 : Option D} {x : D} : ∀ ts : List (List D), (∀ t ∈ ts, t.length ≤ 10) → compF (gNm 8) qYes (cB pAdd (cVar 8) (cN pTup (aCons (cVar 7) aNil))) [a0, a1, a2, a3, a4, a5, a6, some x, o8] (ts.map .tuple) s = some ((ts.map fun t => t ++ [x]).map .tuple, s)
  | [], _ => rfl
  | t :: ts, h => by
    have ht := h t List.mem_cons_self
    have ih := ah_comp (o8 := o8) (a0 := a0) (a1 := a1) (a2 := a2) (a3 := a3) (a4 := a4) (a5 := a5) (a6 := a6) (x := x) ts fun y hy => h y (List.mem_cons_of_mem _ hy)
    have e : cB pAdd (cVar 8) (cN pTup (aCons (cVar 7) aNil)) [a0, a1, a2, a3, a4, a5, a6, some x, some (.tuple t)] s = some (.tuple (t ++ [x]), s) := by
      refine ok_eq ?_
      simp only [ok_V0, ok_Vs, ok_K, ok_B, ok_U, ok_nil, ok_cons, ok_N, ok_aN, ok_call, ok_nl, ok_fl, ok_afl, ok_T, ok_qNot, ok_qAnd, ok_qOr, ok_and, ok_or, ok_not, ok_if, ok_Sl, ok_oNo, ok_oOf, ok_Ch, ok_it, ok_itA, ok_yes, v_addI, v_sub, v_neg, v_eqI, v_eqS, v_eqB, v_eq0, v_eqT0, v_neI, v_neS, v_neB, v_ne0, v_neT0, v_ltI, v_leI, v_gtI, v_geI, v_is, v_isNot, v_nn, v_ns, v_ni, v_nl, v_nt, v_tb, v_tl, v_tt, v_tn, v_ti, v_asB, v_asI, v_asL, v_asT, v_asS, v_lenL, v_lenT, v_tupL, v_tupT, v_listL, v_listT, v_intB, v_tup0, v_tup1, v_tup2, v_tup3, v_tup4, v_tup5, v_lst0, v_lst1, v_lst2, v_lst3, v_lst4, v_lst5, v_ok0, v_ok1, v_ok2, v_ix0L, v_ix0, v_ix1, v_ix2, v_ix3, v_fs, v_fi, v_fb, v_fn, v_ft, v_f0, v_fc, startR, List.map_cons, List.map_nil, List.length_cons, List.length_nil, List.replicate, List.cons_append, List.nil_append, List.set_cons_zero, List.set_cons_succ, Option.some.injEq, exists_eq_left', Nat.reduceAdd, Nat.reduceSub, Nat.sub_zero, Nat.sub_self, Nat.zero_add, Nat.reduceEqDiff, Bool.not_true, Bool.not_false, if_true, if_false, Bool.and_self, Bool.true_and, Bool.and_true, Bool.false_eq_true, ↓reduceIte, true_and, and_true, decide_true, decide_false, wipeR]
      exact ⟨_, v_addT (by exact szL (by simp; omega)), rfl⟩
    show bnd (cB pAdd (cVar 8) (cN pTup (aCons (cVar 7) aNil)) [a0, a1, a2, a3, a4, a5, a6, some x, some (.tuple t)] s) (fun y s => bnd (compF (gNm 8) qYes (cB pAdd (cVar 8) (cN pTup (aCons (cVar 7) aNil))) [a0, a1, a2, a3, a4, a5, a6, some x, o8] (ts.map .tuple) s) fun ys s => some (y :: ys, s)) = _
    rw [e]
    show bnd (compF (gNm 8) qYes (cB pAdd (cVar 8) (cN pTup (aCons (cVar 7) aNil))) [a0, a1, a2, a3, a4, a5, a6, some x, o8] (ts.map .tuple) s) _ = _
    rw [ih]
    rfl
/-- all rows with one form more behind -/
def grow (ts : List (List D)) (gs : List Fo) : List (List D) := gs.flatMap fun g => ts.map fun t => t ++ [g.d]
abbrev grBody (F : Fn S) : Sv S := (sSeq (sSet 6 (cN pLst aNil))
      (sSeq (sFor (iOf asL (cCall 3 F (aCons (cVar 5) (aCons (cVar 1) (aCons (cVar 2) aNil))))) (gNm 7)
      (sSet 6 (cB pAdd (cVar 6) (cNl (lcF (iOf asL (cVar 3)) (gNm 8) qYes (cB pAdd (cVar 8) (cN pTup (aCons (cVar 7) aNil))) [8])))))
      (sSet 3 (cVar 6))))
theorem gr_step {F : Fn S} {f x : Fo} {ts : List (List D)} {gs : List Fo} {o4 o6 o7 o8 : Option D} (hx : F [x.d, .str a, .str b] s = some (.list (gs.map Fo.d), s)) (ht : ∀ t ∈ ts, t.length ≤ 10) (hl : ts.length * gs.length ≤ 1000) (hl2 : ts.length ≤ 1000) :
    Ok (grBody F [some f.d, some (.str a), some (.str b), some (.list (ts.map .tuple)), o4, some x.d, o6, o7, o8] s) fun r s' => ∃ o6 o7, r = .nx [some f.d, some (.str a), some (.str b), some (.list ((grow ts gs).map .tuple)), o4, some x.d, o6, o7, o8] ∧ s' = s := by
  refine k_seq (k_set ?_)
  simp only [ok_V0, ok_Vs, ok_K, ok_B, ok_U, ok_nil, ok_cons, ok_N, ok_aN, ok_call, ok_nl, ok_fl, ok_afl, ok_T, ok_qNot, ok_qAnd, ok_qOr, ok_and, ok_or, ok_not, ok_if, ok_Sl, ok_oNo, ok_oOf, ok_Ch, ok_it, ok_itA, ok_yes, v_addI, v_sub, v_neg, v_eqI, v_eqS, v_eqB, v_eq0, v_eqT0, v_neI, v_neS, v_neB, v_ne0, v_neT0, v_ltI, v_leI, v_gtI, v_geI, v_is, v_isNot, v_nn, v_ns, v_ni, v_nl, v_nt, v_tb, v_tl, v_tt, v_tn, v_ti, v_asB, v_asI, v_asL, v_asT, v_asS, v_lenL, v_lenT, v_tupL, v_tupT, v_listL, v_listT, v_intB, v_tup0, v_tup1, v_tup2, v_tup3, v_tup4, v_tup5, v_lst0, v_lst1, v_lst2, v_lst3, v_lst4, v_lst5, v_ok0, v_ok1, v_ok2, v_ix0L, v_ix0, v_ix1, v_ix2, v_ix3, v_fs, v_fi, v_fb, v_fn, v_ft, v_f0, v_fc, startR, List.map_cons, List.map_nil, List.length_cons, List.length_nil, List.replicate, List.cons_append, List.nil_append, List.set_cons_zero, List.set_cons_succ, Option.some.injEq, exists_eq_left', Nat.reduceAdd, Nat.reduceSub, Nat.sub_zero, Nat.sub_self, Nat.zero_add, Nat.reduceEqDiff, Bool.not_true, Bool.not_false, if_true, if_false, Bool.and_self, Bool.true_and, Bool.and_true, Bool.false_eq_true, ↓reduceIte, true_and, and_true, decide_true, decide_false, wipeR]
  refine k_seq (k_forP (fun ds s' => ds = gs.map Fo.d ∧ s' = s) ?_ ?_)
  · simp only [ok_V0, ok_Vs, ok_K, ok_B, ok_U, ok_nil, ok_cons, ok_N, ok_aN, ok_call, ok_nl, ok_fl, ok_afl, ok_T, ok_qNot, ok_qAnd, ok_qOr, ok_and, ok_or, ok_not, ok_if, ok_Sl, ok_oNo, ok_oOf, ok_Ch, ok_it, ok_itA, ok_yes, v_addI, v_sub, v_neg, v_eqI, v_eqS, v_eqB, v_eq0, v_eqT0, v_neI, v_neS, v_neB, v_ne0, v_neT0, v_ltI, v_leI, v_gtI, v_geI, v_is, v_isNot, v_nn, v_ns, v_ni, v_nl, v_nt, v_tb, v_tl, v_tt, v_tn, v_ti, v_asB, v_asI, v_asL, v_asT, v_asS, v_lenL, v_lenT, v_tupL, v_tupT, v_listL, v_listT, v_intB, v_tup0, v_tup1, v_tup2, v_tup3, v_tup4, v_tup5, v_lst0, v_lst1, v_lst2, v_lst3, v_lst4, v_lst5, v_ok0, v_ok1, v_ok2, v_ix0L, v_ix0, v_ix1, v_ix2, v_ix3, v_fs, v_fi, v_fb, v_fn, v_ft, v_f0, v_fc, startR, List.map_cons, List.map_nil, List.length_cons, List.length_nil, List.replicate, List.cons_append, List.nil_append, List.set_cons_zero, List.set_cons_succ, Option.some.injEq, exists_eq_left', Nat.reduceAdd, Nat.reduceSub, Nat.sub_zero, Nat.sub_self, Nat.zero_add, Nat.reduceEqDiff, Bool.not_true, Bool.not_false, if_true, if_false, Bool.and_self, Bool.true_and, Bool.and_true, Bool.false_eq_true, ↓reduceIte, true_and, and_true, decide_true, decide_false, wipeR]
    exact ⟨_, _, hx, by simp only [ok_V0, ok_Vs, ok_K, ok_B, ok_U, ok_nil, ok_cons, ok_N, ok_aN, ok_call, ok_nl, ok_fl, ok_afl, ok_T, ok_qNot, ok_qAnd, ok_qOr, ok_and, ok_or, ok_not, ok_if, ok_Sl, ok_oNo, ok_oOf, ok_Ch, ok_it, ok_itA, ok_yes, v_addI, v_sub, v_neg, v_eqI, v_eqS, v_eqB, v_eq0, v_eqT0, v_neI, v_neS, v_neB, v_ne0, v_neT0, v_ltI, v_leI, v_gtI, v_geI, v_is, v_isNot, v_nn, v_ns, v_ni, v_nl, v_nt, v_tb, v_tl, v_tt, v_tn, v_ti, v_asB, v_asI, v_asL, v_asT, v_asS, v_lenL, v_lenT, v_tupL, v_tupT, v_listL, v_listT, v_intB, v_tup0, v_tup1, v_tup2, v_tup3, v_tup4, v_tup5, v_lst0, v_lst1, v_lst2, v_lst3, v_lst4, v_lst5, v_ok0, v_ok1, v_ok2, v_ix0L, v_ix0, v_ix1, v_ix2, v_ix3, v_fs, v_fi, v_fb, v_fn, v_ft, v_f0, v_fc, startR, List.map_cons, List.map_nil, List.length_cons, List.length_nil, List.replicate, List.cons_append, List.nil_append, List.set_cons_zero, List.set_cons_succ, Option.some.injEq, exists_eq_left', Nat.reduceAdd, Nat.reduceSub, Nat.sub_zero, Nat.sub_self, Nat.zero_add, Nat.reduceEqDiff, Bool.not_true, Bool.not_false, if_true, if_false, Bool.and_self, Bool.true_and, Bool.and_true, Bool.false_eq_true, ↓reduceIte, true_and, and_true, decide_true, decide_false, wipeR]⟩
  rintro ds s1 ⟨rfl, rfl⟩
  refine ⟨fun j ρ s' => s' = s1 ∧ ∃ o7, ρ = [some f.d, some (.str a), some (.str b), some (.list (ts.map .tuple)), o4, some x.d, some (.list ((grow ts (gs.take j)).map .tuple)), o7, o8], ⟨rfl, _, rfl⟩, ?_, ?_⟩
  · rintro j d ρ s2 hj ⟨rfl, o7, rfl⟩
    rw [List.getElem?_map, Option.map_eq_some_iff] at hj
    obtain ⟨g, hg, rfl⟩ := hj
    refine ⟨_, rfl, ?_⟩
    refine k_set ?_
    have hlc : lcF (iOf asL (cVar 3)) (gNm 8) qYes (cB pAdd (cVar 8) (cN pTup (aCons (cVar 7) aNil))) [8] [some f.d, some (.str a), some (.str b), some (.list (ts.map .tuple)), o4, some x.d, some (.list ((grow ts (gs.take j)).map .tuple)), some g.d, o8] s2 = some ((ts.map fun t => t ++ [g.d]).map .tuple, s2) := by
      unfold lcF
      show (if (ts.map PyData.tuple).length ≤ sizeLine then compF _ _ _ [some f.d, some (.str a), some (.str b), some (.list (ts.map .tuple)), o4, some x.d, some (.list ((grow ts (gs.take j)).map .tuple)), some g.d, none] (ts.map .tuple) s2 else none) = _
      rw [if_pos (by rw [List.length_map]; exact szL (by omega))]
      exact ah_comp ts ht
    simp only [ok_V0, ok_Vs, ok_K, ok_B, ok_U, ok_nil, ok_cons, ok_N, ok_aN, ok_call, ok_nl, ok_fl, ok_afl, ok_T, ok_qNot, ok_qAnd, ok_qOr, ok_and, ok_or, ok_not, ok_if, ok_Sl, ok_oNo, ok_oOf, ok_Ch, ok_it, ok_itA, ok_yes, v_addI, v_sub, v_neg, v_eqI, v_eqS, v_eqB, v_eq0, v_eqT0, v_neI, v_neS, v_neB, v_ne0, v_neT0, v_ltI, v_leI, v_gtI, v_geI, v_is, v_isNot, v_nn, v_ns, v_ni, v_nl, v_nt, v_tb, v_tl, v_tt, v_tn, v_ti, v_asB, v_asI, v_asL, v_asT, v_asS, v_lenL, v_lenT, v_tupL, v_tupT, v_listL, v_listT, v_intB, v_tup0, v_tup1, v_tup2, v_tup3, v_tup4, v_tup5, v_lst0, v_lst1, v_lst2, v_lst3, v_lst4, v_lst5, v_ok0, v_ok1, v_ok2, v_ix0L, v_ix0, v_ix1, v_ix2, v_ix3, v_fs, v_fi, v_fb, v_fn, v_ft, v_f0, v_fc, startR, List.map_cons, List.map_nil, List.length_cons, List.length_nil, List.replicate, List.cons_append, List.nil_append, List.set_cons_zero, List.set_cons_succ, Option.some.injEq, exists_eq_left', Nat.reduceAdd, Nat.reduceSub, Nat.sub_zero, Nat.sub_self, Nat.zero_add, Nat.reduceEqDiff, Bool.not_true, Bool.not_false, if_true, if_false, Bool.and_self, Bool.true_and, Bool.and_true, Bool.false_eq_true, ↓reduceIte, true_and, and_true, decide_true, decide_false, wipeR]
    refine ⟨_, _, hlc, ?_⟩
    have hgl : (grow ts (gs.take j)).length ≤ 1000 := by
      unfold grow
      rw [fm_card _ ts.length _ fun g => List.length_map _, List.length_take, Nat.mul_comm]
      exact Nat.le_trans (Nat.mul_le_mul (Nat.le_refl _) (Nat.min_le_right _ _)) hl
    refine ⟨_, v_addL (by rw [List.length_map, List.length_map, List.length_map]; exact szL (by omega)), rfl, some g.d, ?_⟩
    have : grow ts (gs.take (j + 1)) = grow ts (gs.take j) ++ ts.map fun t => t ++ [g.d] := by
      unfold grow
      rw [take_snoc hg, List.flatMap_append]
      simp
    rw [this, List.map_append]
  · rintro ρ s2 ⟨rfl, o7, rfl⟩
    rw [List.length_map, List.take_length]
    refine k_set ?_
    simp only [ok_V0, ok_Vs, ok_K, ok_B, ok_U, ok_nil, ok_cons, ok_N, ok_aN, ok_call, ok_nl, ok_fl, ok_afl, ok_T, ok_qNot, ok_qAnd, ok_qOr, ok_and, ok_or, ok_not, ok_if, ok_Sl, ok_oNo, ok_oOf, ok_Ch, ok_it, ok_itA, ok_yes, v_addI, v_sub, v_neg, v_eqI, v_eqS, v_eqB, v_eq0, v_eqT0, v_neI, v_neS, v_neB, v_ne0, v_neT0, v_ltI, v_leI, v_gtI, v_geI, v_is, v_isNot, v_nn, v_ns, v_ni, v_nl, v_nt, v_tb, v_tl, v_tt, v_tn, v_ti, v_asB, v_asI, v_asL, v_asT, v_asS, v_lenL, v_lenT, v_tupL, v_tupT, v_listL, v_listT, v_intB, v_tup0, v_tup1, v_tup2, v_tup3, v_tup4, v_tup5, v_lst0, v_lst1, v_lst2, v_lst3, v_lst4, v_lst5, v_ok0, v_ok1, v_ok2, v_ix0L, v_ix0, v_ix1, v_ix2, v_ix3, v_fs, v_fi, v_fb, v_fn, v_ft, v_f0, v_fc, startR, List.map_cons, List.map_nil, List.length_cons, List.length_nil, List.replicate, List.cons_append, List.nil_append, List.set_cons_zero, List.set_cons_succ, Option.some.injEq, exists_eq_left', Nat.reduceAdd, Nat.reduceSub, Nat.sub_zero, Nat.sub_self, Nat.zero_add, Nat.reduceEqDiff, Bool.not_true, Bool.not_false, if_true, if_false, Bool.and_self, Bool.true_and, Bool.and_true, Bool.false_eq_true, ↓reduceIte, true_and, and_true, decide_true, decide_false, wipeR]
    all_goals first | exact ⟨_, _, rfl, rfl⟩ | exact ⟨_, _, rfl⟩ | exact ⟨_, rfl⟩ | rfl
theorem map_no (gs : List Fo) : ((grow [[.str (Str.ofString "not")]] gs).map PyData.tuple) = (gs.map Fo.no).map Fo.d := by
  unfold grow
  induction gs with
  | nil => rfl
  | cons g gs ih => rw [List.flatMap_cons, List.map_append, ih]; rfl
theorem map_jn (w : Jw) (fs gs : List Fo) : ((grow (grow [[.str w.s]] fs) gs).map PyData.tuple) = (gs.flatMap fun r => fs.map fun q => Fo.jn w q r).map Fo.d := by
  have h : grow [[.str w.s]] fs = fs.map fun q => [.str w.s, q.d] := by
    unfold grow
    induction fs with
    | nil => rfl
    | cons f fs ih => rw [List.flatMap_cons, ih]; rfl
  rw [h]
  unfold grow
  induction gs with
  | nil => rfl
  | cons g gs ih =>
    rw [List.flatMap_cons, List.flatMap_cons, List.map_append, List.map_append, ih]
    congr 1
    rw [List.map_map, List.map_map, List.map_map]
    rfl
theorem var_in {f : Fo} {F : Fn S} {xs : List Fo} {L : Nat → List (List D)} (hq : f.isT = false) (hl : f.isFL = false) (hu : f.isQ = false) (hr : f.row = xs.map Fo.d) (h0 : L 0 = [[.str f.head]])
    (hs : ∀ j x, xs[j]? = some x → ∀ o6 o7, Ok (grBody F [some f.d, some (.str a), some (.str b), some (.list ((L j).map .tuple)), none, some x.d, o6, o7, none] s) fun r s' => ∃ o6 o7, r = .nx [some f.d, some (.str a), some (.str b), some (.list ((L (j + 1)).map .tuple)), none, some x.d, o6, o7, none] ∧ s' = s) :
    K_w_variants K_w_terms F [f.d, .str a, .str b] s = some (.list ((L xs.length).map .tuple), s) := by
  refine ok_eq ?_
  unfold K_w_variants B_w_variants
  refine k_fn (k_seq (k_sIf ?_))
  simp only [ok_V0, ok_Vs, ok_K, ok_B, ok_U, ok_nil, ok_cons, ok_N, ok_aN, ok_call, ok_nl, ok_fl, ok_afl, ok_T, ok_qNot, ok_qAnd, ok_qOr, ok_and, ok_or, ok_not, ok_if, ok_Sl, ok_oNo, ok_oOf, ok_Ch, ok_it, ok_itA, ok_yes, v_addI, v_sub, v_neg, v_eqI, v_eqS, v_eqB, v_eq0, v_eqT0, v_neI, v_neS, v_neB, v_ne0, v_neT0, v_ltI, v_leI, v_gtI, v_geI, v_is, v_isNot, v_nn, v_ns, v_ni, v_nl, v_nt, v_tb, v_tl, v_tt, v_tn, v_ti, v_asB, v_asI, v_asL, v_asT, v_asS, v_lenL, v_lenT, v_tupL, v_tupT, v_listL, v_listT, v_intB, v_tup0, v_tup1, v_tup2, v_tup3, v_tup4, v_tup5, v_lst0, v_lst1, v_lst2, v_lst3, v_lst4, v_lst5, v_ok0, v_ok1, v_ok2, v_ix0L, v_ix0, v_ix1, v_ix2, v_ix3, v_fs, v_fi, v_fb, v_fn, v_ft, v_f0, v_fc, startR, List.map_cons, List.map_nil, List.length_cons, List.length_nil, List.replicate, List.cons_append, List.nil_append, List.set_cons_zero, List.set_cons_succ, Option.some.injEq, exists_eq_left', Nat.reduceAdd, Nat.reduceSub, Nat.sub_zero, Nat.sub_self, Nat.zero_add, Nat.reduceEqDiff, Bool.not_true, Bool.not_false, if_true, if_false, Bool.and_self, Bool.true_and, Bool.and_true, Bool.false_eq_true, ↓reduceIte, true_and, and_true, decide_true, decide_false, wipeR, head9, h_t, hq]
  refine k_nx (k_seq (k_sIf ?_))
  simp only [ok_V0, ok_Vs, ok_K, ok_B, ok_U, ok_nil, ok_cons, ok_N, ok_aN, ok_call, ok_nl, ok_fl, ok_afl, ok_T, ok_qNot, ok_qAnd, ok_qOr, ok_and, ok_or, ok_not, ok_if, ok_Sl, ok_oNo, ok_oOf, ok_Ch, ok_it, ok_itA, ok_yes, v_addI, v_sub, v_neg, v_eqI, v_eqS, v_eqB, v_eq0, v_eqT0, v_neI, v_neS, v_neB, v_ne0, v_neT0, v_ltI, v_leI, v_gtI, v_geI, v_is, v_isNot, v_nn, v_ns, v_ni, v_nl, v_nt, v_tb, v_tl, v_tt, v_tn, v_ti, v_asB, v_asI, v_asL, v_asT, v_asS, v_lenL, v_lenT, v_tupL, v_tupT, v_listL, v_listT, v_intB, v_tup0, v_tup1, v_tup2, v_tup3, v_tup4, v_tup5, v_lst0, v_lst1, v_lst2, v_lst3, v_lst4, v_lst5, v_ok0, v_ok1, v_ok2, v_ix0L, v_ix0, v_ix1, v_ix2, v_ix3, v_fs, v_fi, v_fb, v_fn, v_ft, v_f0, v_fc, startR, List.map_cons, List.map_nil, List.length_cons, List.length_nil, List.replicate, List.cons_append, List.nil_append, List.set_cons_zero, List.set_cons_succ, Option.some.injEq, exists_eq_left', Nat.reduceAdd, Nat.reduceSub, Nat.sub_zero, Nat.sub_self, Nat.zero_add, Nat.reduceEqDiff, Bool.not_true, Bool.not_false, if_true, if_false, Bool.and_self, Bool.true_and, Bool.and_true, Bool.false_eq_true, ↓reduceIte, true_and, and_true, decide_true, decide_false, wipeR, head9, h_fl, hl]
  refine k_nx (k_seq (k_sIf ?_))
  simp only [ok_V0, ok_Vs, ok_K, ok_B, ok_U, ok_nil, ok_cons, ok_N, ok_aN, ok_call, ok_nl, ok_fl, ok_afl, ok_T, ok_qNot, ok_qAnd, ok_qOr, ok_and, ok_or, ok_not, ok_if, ok_Sl, ok_oNo, ok_oOf, ok_Ch, ok_it, ok_itA, ok_yes, v_addI, v_sub, v_neg, v_eqI, v_eqS, v_eqB, v_eq0, v_eqT0, v_neI, v_neS, v_neB, v_ne0, v_neT0, v_ltI, v_leI, v_gtI, v_geI, v_is, v_isNot, v_nn, v_ns, v_ni, v_nl, v_nt, v_tb, v_tl, v_tt, v_tn, v_ti, v_asB, v_asI, v_asL, v_asT, v_asS, v_lenL, v_lenT, v_tupL, v_tupT, v_listL, v_listT, v_intB, v_tup0, v_tup1, v_tup2, v_tup3, v_tup4, v_tup5, v_lst0, v_lst1, v_lst2, v_lst3, v_lst4, v_lst5, v_ok0, v_ok1, v_ok2, v_ix0L, v_ix0, v_ix1, v_ix2, v_ix3, v_fs, v_fi, v_fb, v_fn, v_ft, v_f0, v_fc, startR, List.map_cons, List.map_nil, List.length_cons, List.length_nil, List.replicate, List.cons_append, List.nil_append, List.set_cons_zero, List.set_cons_succ, Option.some.injEq, exists_eq_left', Nat.reduceAdd, Nat.reduceSub, Nat.sub_zero, Nat.sub_self, Nat.zero_add, Nat.reduceEqDiff, Bool.not_true, Bool.not_false, if_true, if_false, Bool.and_self, Bool.true_and, Bool.and_true, Bool.false_eq_true, ↓reduceIte, true_and, and_true, decide_true, decide_false, wipeR, head9, h_q, hu]
  refine k_nx (k_seq (k_set ?_))
  simp only [ok_V0, ok_Vs, ok_K, ok_B, ok_U, ok_nil, ok_cons, ok_N, ok_aN, ok_call, ok_nl, ok_fl, ok_afl, ok_T, ok_qNot, ok_qAnd, ok_qOr, ok_and, ok_or, ok_not, ok_if, ok_Sl, ok_oNo, ok_oOf, ok_Ch, ok_it, ok_itA, ok_yes, v_addI, v_sub, v_neg, v_eqI, v_eqS, v_eqB, v_eq0, v_eqT0, v_neI, v_neS, v_neB, v_ne0, v_neT0, v_ltI, v_leI, v_gtI, v_geI, v_is, v_isNot, v_nn, v_ns, v_ni, v_nl, v_nt, v_tb, v_tl, v_tt, v_tn, v_ti, v_asB, v_asI, v_asL, v_asT, v_asS, v_lenL, v_lenT, v_tupL, v_tupT, v_listL, v_listT, v_intB, v_tup0, v_tup1, v_tup2, v_tup3, v_tup4, v_tup5, v_lst0, v_lst1, v_lst2, v_lst3, v_lst4, v_lst5, v_ok0, v_ok1, v_ok2, v_ix0L, v_ix0, v_ix1, v_ix2, v_ix3, v_fs, v_fi, v_fb, v_fn, v_ft, v_f0, v_fc, startR, List.map_cons, List.map_nil, List.length_cons, List.length_nil, List.replicate, List.cons_append, List.nil_append, List.set_cons_zero, List.set_cons_succ, Option.some.injEq, exists_eq_left', Nat.reduceAdd, Nat.reduceSub, Nat.sub_zero, Nat.sub_self, Nat.zero_add, Nat.reduceEqDiff, Bool.not_true, Bool.not_false, if_true, if_false, Bool.and_self, Bool.true_and, Bool.and_true, Bool.false_eq_true, ↓reduceIte, true_and, and_true, decide_true, decide_false, wipeR, head9]
  refine k_seq (k_forP (fun ds s' => ds = xs.map Fo.d ∧ s' = s) ?_ ?_)
  · simp only [ok_V0, ok_Vs, ok_K, ok_B, ok_U, ok_nil, ok_cons, ok_N, ok_aN, ok_call, ok_nl, ok_fl, ok_afl, ok_T, ok_qNot, ok_qAnd, ok_qOr, ok_and, ok_or, ok_not, ok_if, ok_Sl, ok_oNo, ok_oOf, ok_Ch, ok_it, ok_itA, ok_yes, v_addI, v_sub, v_neg, v_eqI, v_eqS, v_eqB, v_eq0, v_eqT0, v_neI, v_neS, v_neB, v_ne0, v_neT0, v_ltI, v_leI, v_gtI, v_geI, v_is, v_isNot, v_nn, v_ns, v_ni, v_nl, v_nt, v_tb, v_tl, v_tt, v_tn, v_ti, v_asB, v_asI, v_asL, v_asT, v_asS, v_lenL, v_lenT, v_tupL, v_tupT, v_listL, v_listT, v_intB, v_tup0, v_tup1, v_tup2, v_tup3, v_tup4, v_tup5, v_lst0, v_lst1, v_lst2, v_lst3, v_lst4, v_lst5, v_ok0, v_ok1, v_ok2, v_ix0L, v_ix0, v_ix1, v_ix2, v_ix3, v_fs, v_fi, v_fb, v_fn, v_ft, v_f0, v_fc, startR, List.map_cons, List.map_nil, List.length_cons, List.length_nil, List.replicate, List.cons_append, List.nil_append, List.set_cons_zero, List.set_cons_succ, Option.some.injEq, exists_eq_left', Nat.reduceAdd, Nat.reduceSub, Nat.sub_zero, Nat.sub_self, Nat.zero_add, Nat.reduceEqDiff, Bool.not_true, Bool.not_false, if_true, if_false, Bool.and_self, Bool.true_and, Bool.and_true, Bool.false_eq_true, ↓reduceIte, true_and, and_true, decide_true, decide_false, wipeR, row_sl, hr]
    all_goals first | rfl | exact ⟨rfl, rfl⟩ | exact ⟨_, rfl, rfl, rfl⟩
  rintro ds s1 ⟨rfl, rfl⟩
  refine ⟨fun j ρ s' => s' = s1 ∧ ∃ o5 o6 o7, ρ = [some f.d, some (.str a), some (.str b), some (.list ((L j).map .tuple)), none, o5, o6, o7, none], ⟨rfl, _, _, _, by rw [h0]; rfl⟩, ?_, ?_⟩
  · rintro j d ρ s2 hj ⟨rfl, o5, o6, o7, rfl⟩
    rw [List.getElem?_map, Option.map_eq_some_iff] at hj
    obtain ⟨x, hx, rfl⟩ := hj
    refine ⟨_, rfl, ?_⟩
    refine (hs j x hx o6 o7).imp ?_
    rintro r s3 ⟨o6, o7, rfl, rfl⟩
    exact ⟨rfl, _, _, _, rfl⟩
  · rintro ρ s2 ⟨rfl, o5, o6, o7, rfl⟩
    rw [List.length_map]
    refine k_ret ?_
    simp only [ok_V0, ok_Vs, ok_K, ok_B, ok_U, ok_nil, ok_cons, ok_N, ok_aN, ok_call, ok_nl, ok_fl, ok_afl, ok_T, ok_qNot, ok_qAnd, ok_qOr, ok_and, ok_or, ok_not, ok_if, ok_Sl, ok_oNo, ok_oOf, ok_Ch, ok_it, ok_itA, ok_yes, v_addI, v_sub, v_neg, v_eqI, v_eqS, v_eqB, v_eq0, v_eqT0, v_neI, v_neS, v_neB, v_ne0, v_neT0, v_ltI, v_leI, v_gtI, v_geI, v_is, v_isNot, v_nn, v_ns, v_ni, v_nl, v_nt, v_tb, v_tl, v_tt, v_tn, v_ti, v_asB, v_asI, v_asL, v_asT, v_asS, v_lenL, v_lenT, v_tupL, v_tupT, v_listL, v_listT, v_intB, v_tup0, v_tup1, v_tup2, v_tup3, v_tup4, v_tup5, v_lst0, v_lst1, v_lst2, v_lst3, v_lst4, v_lst5, v_ok0, v_ok1, v_ok2, v_ix0L, v_ix0, v_ix1, v_ix2, v_ix3, v_fs, v_fi, v_fb, v_fn, v_ft, v_f0, v_fc, startR, List.map_cons, List.map_nil, List.length_cons, List.length_nil, List.replicate, List.cons_append, List.nil_append, List.set_cons_zero, List.set_cons_succ, Option.some.injEq, exists_eq_left', Nat.reduceAdd, Nat.reduceSub, Nat.sub_zero, Nat.sub_self, Nat.zero_add, Nat.reduceEqDiff, Bool.not_true, Bool.not_false, if_true, if_false, Bool.and_self, Bool.true_and, Bool.and_true, Bool.false_eq_true, ↓reduceIte, true_and, and_true, decide_true, decide_false, wipeR]
theorem var_eq (hb : sok b) : ∀ (m : Nat) (f : Fo) (s : S), f.dep < m → tm f ≤ 9 → Fva m [f.d, .str a, .str b] s = some (.list ((V a b f).map Fo.d), s)
  | 0, f, s, h, _ => absurd h (Nat.not_lt_zero _)
  | m + 1, .is t k, s, _, _ => by
    refine (sw_walk (ks := [1]) (L := fun j => match j with | 0 => [.is t k] | _ => V a b (.is t k)) rfl rfl (fun j x hj o5 o6 o7 o8 => ?_) rfl).trans rfl
    match j, hj with
    | 0, hj =>
      cases hj
      exact sw_step (gs := [.is t k]) (fun _ => .is b k) (t := t) v_ix1 (by simp) fun g hg o3 => by rw [List.mem_singleton.mp hg]; rfl
  | m + 1, .does e t u, s, _, _ => by
    refine (sw_walk (ks := [2, 3]) (L := fun j => match j with | 0 => [.does e t u] | 1 => [.does e t u] ++ (if t = a then [.does e b u] else []) | _ => V a b (.does e t u)) rfl rfl (fun j x hj o5 o6 o7 o8 => ?_) rfl).trans rfl
    match j, hj with
    | 0, hj =>
      cases hj
      exact sw_step (gs := [.does e t u]) (fun _ => .does e b u) (t := t) v_ix2 (by simp) fun g hg o3 => by rw [List.mem_singleton.mp hg]; rfl
    | 1, hj =>
      cases hj
      have := sw_step (S := S) (s := s) (a := a) (b := b) (f := .does e t u) (o5 := o5) (o6 := o6) (o7 := o7) (o8 := o8) (gs := [.does e t u] ++ (if t = a then [.does e b u] else [])) (fun g => match g with | .does e t _ => .does e t b | g => g) (t := u) (k := 3) v_ix3 (by split <;> simp) fun g hg o3 => by
        rcases List.mem_append.mp hg with hg | hg
        · rw [List.mem_singleton.mp hg]; rfl
        · split at hg
          · rw [List.mem_singleton.mp hg]; rfl
          · cases hg
      refine this.imp ?_
      rintro r s' ⟨rfl, rfl⟩
      refine ⟨?_, rfl⟩
      by_cases h1 : t = a <;> by_cases h2 : u = a <;> simp [h1, h2, V]
  | m + 1, .same t u, s, _, _ => by
    refine (sw_walk (ks := [1, 2]) (L := fun j => match j with | 0 => [.same t u] | 1 => [.same t u] ++ (if t = a then [.same b u] else []) | _ => V a b (.same t u)) rfl rfl (fun j x hj o5 o6 o7 o8 => ?_) rfl).trans rfl
    match j, hj with
    | 0, hj =>
      cases hj
      exact sw_step (gs := [.same t u]) (fun _ => .same b u) (t := t) v_ix1 (by simp) fun g hg o3 => by rw [List.mem_singleton.mp hg]; rfl
    | 1, hj =>
      cases hj
      have := sw_step (S := S) (s := s) (a := a) (b := b) (f := .same t u) (o5 := o5) (o6 := o6) (o7 := o7) (o8 := o8) (gs := [.same t u] ++ (if t = a then [.same b u] else [])) (fun g => match g with | .same t _ => .same t b | g => g) (t := u) (k := 2) v_ix2 (by split <;> simp) fun g hg o3 => by
        rcases List.mem_append.mp hg with hg | hg
        · rw [List.mem_singleton.mp hg]; rfl
        · split at hg
          · rw [List.mem_singleton.mp hg]; rfl
          · cases hg
      refine this.imp ?_
      rintro r s' ⟨rfl, rfl⟩
      refine ⟨?_, rfl⟩
      by_cases h1 : t = a <;> by_cases h2 : u = a <;> simp [h1, h2, V]
  | m + 1, .least p q, s, _, _ => var_leaf rfl rfl
  | m + 1, .fals, s, _, _ => var_leaf rfl rfl
  | m + 1, .no f, s, h, hm => by
    have ih := fun s => var_eq hb m f s (Nat.lt_of_succ_lt_succ h) hm
    have hl := (V_len a b f).2
    have hp := Nat.pow_le_pow_right (show 0 < 2 by decide) (show tm f ≤ 9 from hm)
    have e := var_in (S := S) (s := s) (a := a) (b := b) (f := .no f) (F := Fva m) (xs := [f]) (L := fun j => match j with | 0 => [[.str (Str.ofString "not")]] | _ => grow [[.str (Str.ofString "not")]] (V a b f)) rfl rfl rfl rfl rfl (fun j x hj o6 o7 => by
      match j, hj with
      | 0, hj =>
        cases hj
        exact gr_step (ih s) (fun t ht => by rw [List.mem_singleton.mp ht]; simp) (by simp; omega) (by simp))
    refine e.trans ?_
    show some (PyData.list ((grow [[.str (Str.ofString "not")]] (V a b f)).map .tuple), s) = _
    rw [map_no]
    rfl
  | m + 1, .jn w f g, s, h, hm => by
    have hd : max f.dep g.dep + 1 < m + 1 := h
    have hm : tm f + tm g ≤ 9 := hm
    have ih := fun s => var_eq hb m f s (by omega) (by omega)
    have ih2 := fun s => var_eq hb m g s (by omega) (by omega)
    have hl := (V_len a b f).2
    have hl2 := (V_len a b g).2
    have hp : 2 ^ tm f * 2 ^ tm g ≤ 512 := by rw [← Nat.pow_add]; exact Nat.pow_le_pow_right (show 0 < 2 by decide) hm
    have hq1 := Nat.pow_le_pow_right (show 0 < 2 by decide) (show tm f ≤ 9 by omega)
    have hg1 : (grow [[.str w.s]] (V a b f)).length = (V a b f).length := by unfold grow; rw [fm_card _ 1 _ fun _ => rfl, Nat.mul_one]
    have hmul : (V a b f).length * (V a b g).length ≤ 512 := Nat.le_trans (Nat.mul_le_mul hl hl2) hp
    have e := var_in (S := S) (s := s) (a := a) (b := b) (f := .jn w f g) (F := Fva m) (xs := [f, g]) (L := fun j => match j with | 0 => [[.str w.s]] | 1 => grow [[.str w.s]] (V a b f) | _ => grow (grow [[.str w.s]] (V a b f)) (V a b g)) (by cases w <;> rfl) (by cases w <;> rfl) (by cases w <;> rfl) rfl rfl (fun j x hj o6 o7 => by
      match j, hj with
      | 0, hj =>
        cases hj
        exact gr_step (ih s) (fun t ht => by rw [List.mem_singleton.mp ht]; simp) (by simp; omega) (by simp)
      | 1, hj =>
        cases hj
        exact gr_step (ih2 s) (fun t ht => by
          obtain ⟨q, _, hq⟩ := List.mem_flatMap.mp ht
          obtain ⟨t0, ht0, rfl⟩ := List.mem_map.mp hq
          rw [List.mem_singleton.mp ht0]
          simp) (by show (grow [[.str w.s]] (V a b f)).length * (V a b g).length ≤ 1000; rw [hg1]; omega) (by show (grow [[.str w.s]] (V a b f)).length ≤ 1000; rw [hg1]; omega))
    refine e.trans ?_
    show some (PyData.list ((grow (grow [[.str w.s]] (V a b f)) (V a b g)).map .tuple), s) = _
    rw [map_jn]
    rfl
  | m + 1, .qu w x f, s, h, hm => by
    have ih := var_eq hb m f s (Nat.lt_of_succ_lt_succ h) hm
    have hl := (V_len a b f).2
    have hp := Nat.pow_le_pow_right (show 0 < 2 by decide) (show tm f ≤ 9 from hm)
    have i2 : pIx (Fo.qu w x f).d (.int 2) = some f.d := v_ix2
    refine ok_eq ?_
    unfold Fva K_w_variants B_w_variants
    refine k_fn (k_seq (k_sIf ?_))
    simp only [ok_V0, ok_Vs, ok_K, ok_B, ok_U, ok_nil, ok_cons, ok_N, ok_aN, ok_call, ok_nl, ok_fl, ok_afl, ok_T, ok_qNot, ok_qAnd, ok_qOr, ok_and, ok_or, ok_not, ok_if, ok_Sl, ok_oNo, ok_oOf, ok_Ch, ok_it, ok_itA, ok_yes, v_addI, v_sub, v_neg, v_eqI, v_eqS, v_eqB, v_eq0, v_eqT0, v_neI, v_neS, v_neB, v_ne0, v_neT0, v_ltI, v_leI, v_gtI, v_geI, v_is, v_isNot, v_nn, v_ns, v_ni, v_nl, v_nt, v_tb, v_tl, v_tt, v_tn, v_ti, v_asB, v_asI, v_asL, v_asT, v_asS, v_lenL, v_lenT, v_tupL, v_tupT, v_listL, v_listT, v_intB, v_tup0, v_tup1, v_tup2, v_tup3, v_tup4, v_tup5, v_lst0, v_lst1, v_lst2, v_lst3, v_lst4, v_lst5, v_ok0, v_ok1, v_ok2, v_ix0L, v_ix0, v_ix1, v_ix2, v_ix3, v_fs, v_fi, v_fb, v_fn, v_ft, v_f0, v_fc, startR, List.map_cons, List.map_nil, List.length_cons, List.length_nil, List.replicate, List.cons_append, List.nil_append, List.set_cons_zero, List.set_cons_succ, Option.some.injEq, exists_eq_left', Nat.reduceAdd, Nat.reduceSub, Nat.sub_zero, Nat.sub_self, Nat.zero_add, Nat.reduceEqDiff, Bool.not_true, Bool.not_false, if_true, if_false, Bool.and_self, Bool.true_and, Bool.and_true, Bool.false_eq_true, ↓reduceIte, true_and, and_true, decide_true, decide_false, wipeR, head9, h_t, show (Fo.qu w x f).isT = false from rfl]
    refine k_nx (k_seq (k_sIf ?_))
    simp only [ok_V0, ok_Vs, ok_K, ok_B, ok_U, ok_nil, ok_cons, ok_N, ok_aN, ok_call, ok_nl, ok_fl, ok_afl, ok_T, ok_qNot, ok_qAnd, ok_qOr, ok_and, ok_or, ok_not, ok_if, ok_Sl, ok_oNo, ok_oOf, ok_Ch, ok_it, ok_itA, ok_yes, v_addI, v_sub, v_neg, v_eqI, v_eqS, v_eqB, v_eq0, v_eqT0, v_neI, v_neS, v_neB, v_ne0, v_neT0, v_ltI, v_leI, v_gtI, v_geI, v_is, v_isNot, v_nn, v_ns, v_ni, v_nl, v_nt, v_tb, v_tl, v_tt, v_tn, v_ti, v_asB, v_asI, v_asL, v_asT, v_asS, v_lenL, v_lenT, v_tupL, v_tupT, v_listL, v_listT, v_intB, v_tup0, v_tup1, v_tup2, v_tup3, v_tup4, v_tup5, v_lst0, v_lst1, v_lst2, v_lst3, v_lst4, v_lst5, v_ok0, v_ok1, v_ok2, v_ix0L, v_ix0, v_ix1, v_ix2, v_ix3, v_fs, v_fi, v_fb, v_fn, v_ft, v_f0, v_fc, startR, List.map_cons, List.map_nil, List.length_cons, List.length_nil, List.replicate, List.cons_append, List.nil_append, List.set_cons_zero, List.set_cons_succ, Option.some.injEq, exists_eq_left', Nat.reduceAdd, Nat.reduceSub, Nat.sub_zero, Nat.sub_self, Nat.zero_add, Nat.reduceEqDiff, Bool.not_true, Bool.not_false, if_true, if_false, Bool.and_self, Bool.true_and, Bool.and_true, Bool.false_eq_true, ↓reduceIte, true_and, and_true, decide_true, decide_false, wipeR, head9, h_fl, show (Fo.qu w x f).isFL = false from rfl]
    refine k_nx (k_seq (k_sIf ?_))
    simp only [ok_V0, ok_Vs, ok_K, ok_B, ok_U, ok_nil, ok_cons, ok_N, ok_aN, ok_call, ok_nl, ok_fl, ok_afl, ok_T, ok_qNot, ok_qAnd, ok_qOr, ok_and, ok_or, ok_not, ok_if, ok_Sl, ok_oNo, ok_oOf, ok_Ch, ok_it, ok_itA, ok_yes, v_addI, v_sub, v_neg, v_eqI, v_eqS, v_eqB, v_eq0, v_eqT0, v_neI, v_neS, v_neB, v_ne0, v_neT0, v_ltI, v_leI, v_gtI, v_geI, v_is, v_isNot, v_nn, v_ns, v_ni, v_nl, v_nt, v_tb, v_tl, v_tt, v_tn, v_ti, v_asB, v_asI, v_asL, v_asT, v_asS, v_lenL, v_lenT, v_tupL, v_tupT, v_listL, v_listT, v_intB, v_tup0, v_tup1, v_tup2, v_tup3, v_tup4, v_tup5, v_lst0, v_lst1, v_lst2, v_lst3, v_lst4, v_lst5, v_ok0, v_ok1, v_ok2, v_ix0L, v_ix0, v_ix1, v_ix2, v_ix3, v_fs, v_fi, v_fb, v_fn, v_ft, v_f0, v_fc, startR, List.map_cons, List.map_nil, List.length_cons, List.length_nil, List.replicate, List.cons_append, List.nil_append, List.set_cons_zero, List.set_cons_succ, Option.some.injEq, exists_eq_left', Nat.reduceAdd, Nat.reduceSub, Nat.sub_zero, Nat.sub_self, Nat.zero_add, Nat.reduceEqDiff, Bool.not_true, Bool.not_false, if_true, if_false, Bool.and_self, Bool.true_and, Bool.and_true, Bool.false_eq_true, ↓reduceIte, true_and, and_true, decide_true, decide_false, wipeR, head9, h_q, show (Fo.qu w x f).isQ = true from rfl]
    refine k_ret ?_
    have hlc : lcF (iOf asL (cCall 3 (Fva m) (aCons (cB pIx (cVar 0) (cK (.int 2))) (aCons (cVar 1) (aCons (cVar 2) aNil))))) (gNm 7) qYes (cN pTup (aCons (cB pIx (cVar 0) (cK (.int 0))) (aCons (cB pIx (cVar 0) (cK (.int 1))) (aCons (cVar 7) aNil)))) [7] [some (Fo.qu w x f).d, some (.str a), some (.str b), none, none, none, none, none, none] s = some (((V a b f).map (Fo.qu w x)).map Fo.d, s) := by
      have hi : iOf asL (cCall 3 (Fva m) (aCons (cB pIx (cVar 0) (cK (.int 2))) (aCons (cVar 1) (aCons (cVar 2) aNil)))) [some (Fo.qu w x f).d, some (.str a), some (.str b), none, none, none, none, none, none] s = some ((V a b f).map Fo.d, s) := by
        refine ok_eqL ?_
        simp only [ok_V0, ok_Vs, ok_K, ok_B, ok_U, ok_nil, ok_cons, ok_N, ok_aN, ok_call, ok_nl, ok_fl, ok_afl, ok_T, ok_qNot, ok_qAnd, ok_qOr, ok_and, ok_or, ok_not, ok_if, ok_Sl, ok_oNo, ok_oOf, ok_Ch, ok_it, ok_itA, ok_yes, v_addI, v_sub, v_neg, v_eqI, v_eqS, v_eqB, v_eq0, v_eqT0, v_neI, v_neS, v_neB, v_ne0, v_neT0, v_ltI, v_leI, v_gtI, v_geI, v_is, v_isNot, v_nn, v_ns, v_ni, v_nl, v_nt, v_tb, v_tl, v_tt, v_tn, v_ti, v_asB, v_asI, v_asL, v_asT, v_asS, v_lenL, v_lenT, v_tupL, v_tupT, v_listL, v_listT, v_intB, v_tup0, v_tup1, v_tup2, v_tup3, v_tup4, v_tup5, v_lst0, v_lst1, v_lst2, v_lst3, v_lst4, v_lst5, v_ok0, v_ok1, v_ok2, v_ix0L, v_ix0, v_ix1, v_ix2, v_ix3, v_fs, v_fi, v_fb, v_fn, v_ft, v_f0, v_fc, startR, List.map_cons, List.map_nil, List.length_cons, List.length_nil, List.replicate, List.cons_append, List.nil_append, List.set_cons_zero, List.set_cons_succ, Option.some.injEq, exists_eq_left', Nat.reduceAdd, Nat.reduceSub, Nat.sub_zero, Nat.sub_self, Nat.zero_add, Nat.reduceEqDiff, Bool.not_true, Bool.not_false, if_true, if_false, Bool.and_self, Bool.true_and, Bool.and_true, Bool.false_eq_true, ↓reduceIte, true_and, and_true, decide_true, decide_false, wipeR, i2]
        exact ⟨_, _, ih, by simp only [ok_V0, ok_Vs, ok_K, ok_B, ok_U, ok_nil, ok_cons, ok_N, ok_aN, ok_call, ok_nl, ok_fl, ok_afl, ok_T, ok_qNot, ok_qAnd, ok_qOr, ok_and, ok_or, ok_not, ok_if, ok_Sl, ok_oNo, ok_oOf, ok_Ch, ok_it, ok_itA, ok_yes, v_addI, v_sub, v_neg, v_eqI, v_eqS, v_eqB, v_eq0, v_eqT0, v_neI, v_neS, v_neB, v_ne0, v_neT0, v_ltI, v_leI, v_gtI, v_geI, v_is, v_isNot, v_nn, v_ns, v_ni, v_nl, v_nt, v_tb, v_tl, v_tt, v_tn, v_ti, v_asB, v_asI, v_asL, v_asT, v_asS, v_lenL, v_lenT, v_tupL, v_tupT, v_listL, v_listT, v_intB, v_tup0, v_tup1, v_tup2, v_tup3, v_tup4, v_tup5, v_lst0, v_lst1, v_lst2, v_lst3, v_lst4, v_lst5, v_ok0, v_ok1, v_ok2, v_ix0L, v_ix0, v_ix1, v_ix2, v_ix3, v_fs, v_fi, v_fb, v_fn, v_ft, v_f0, v_fc, startR, List.map_cons, List.map_nil, List.length_cons, List.length_nil, List.replicate, List.cons_append, List.nil_append, List.set_cons_zero, List.set_cons_succ, Option.some.injEq, exists_eq_left', Nat.reduceAdd, Nat.reduceSub, Nat.sub_zero, Nat.sub_self, Nat.zero_add, Nat.reduceEqDiff, Bool.not_true, Bool.not_false, if_true, if_false, Bool.and_self, Bool.true_and, Bool.and_true, Bool.false_eq_true, ↓reduceIte, true_and, and_true, decide_true, decide_false, wipeR]⟩
      unfold lcF
      rw [hi]
      show (if ((V a b f).map Fo.d).length ≤ sizeLine then compF _ _ _ [some (Fo.qu w x f).d, some (.str a), some (.str b), none, none, none, none, none, none] ((V a b f).map Fo.d) s else none) = _
      rw [if_pos (by rw [List.length_map]; exact szL (by omega))]
      exact qu_comp _
    simp only [ok_V0, ok_Vs, ok_K, ok_B, ok_U, ok_nil, ok_cons, ok_N, ok_aN, ok_call, ok_nl, ok_fl, ok_afl, ok_T, ok_qNot, ok_qAnd, ok_qOr, ok_and, ok_or, ok_not, ok_if, ok_Sl, ok_oNo, ok_oOf, ok_Ch, ok_it, ok_itA, ok_yes, v_addI, v_sub, v_neg, v_eqI, v_eqS, v_eqB, v_eq0, v_eqT0, v_neI, v_neS, v_neB, v_ne0, v_neT0, v_ltI, v_leI, v_gtI, v_geI, v_is, v_isNot, v_nn, v_ns, v_ni, v_nl, v_nt, v_tb, v_tl, v_tt, v_tn, v_ti, v_asB, v_asI, v_asL, v_asT, v_asS, v_lenL, v_lenT, v_tupL, v_tupT, v_listL, v_listT, v_intB, v_tup0, v_tup1, v_tup2, v_tup3, v_tup4, v_tup5, v_lst0, v_lst1, v_lst2, v_lst3, v_lst4, v_lst5, v_ok0, v_ok1, v_ok2, v_ix0L, v_ix0, v_ix1, v_ix2, v_ix3, v_fs, v_fi, v_fb, v_fn, v_ft, v_f0, v_fc, startR, List.map_cons, List.map_nil, List.length_cons, List.length_nil, List.replicate, List.cons_append, List.nil_append, List.set_cons_zero, List.set_cons_succ, Option.some.injEq, exists_eq_left', Nat.reduceAdd, Nat.reduceSub, Nat.sub_zero, Nat.sub_self, Nat.zero_add, Nat.reduceEqDiff, Bool.not_true, Bool.not_false, if_true, if_false, Bool.and_self, Bool.true_and, Bool.and_true, Bool.false_eq_true, ↓reduceIte, true_and, and_true, decide_true, decide_false, wipeR]
    exact ⟨_, _, hlc, rfl, rfl⟩
end
end Lw32
set_option Elab.async false
set_option linter.all false
set_option maxRecDepth 100000
set_option maxHeartbeats 2000000
namespace K32
open PySem PySem.Spec Mx Ds Lw01 Lw32
open L2 hiding V
open Dl hiding Wk
open Lw41 (Tot totD Pt ptD take_snoc)
open Lw30 (Fo Fo.d Fo.dep Fo.ok Fo.head Fo.row d_row head9 sok lets Jw Qw pick9 pick9T v_ix1L pick_q Vc vcD ok_voc ok_form Fform fol_put)
structure Kn (f : Fo) : Prop where
  w : Wk f
  d : f.dep ≤ 10
  t : tm f ≤ 8
theorem kn_of {f : Fo} (h : f.ok) (hd : f.dep ≤ 2) : Kn f := by
  have h1 := tm_le f
  have h2 := Nat.pow_le_pow_right (show 0 < 2 by decide) hd
  exact ⟨wk_of f h, by omega, by omega⟩
theorem kn_mem {a b : Str} {f g : Fo} (h : Kn f) (hb : sok b) (hg : g ∈ V a b f) : Kn g := by
  obtain ⟨h1, h2, h3⟩ := V_mem hb f h.w g hg
  exact ⟨h1, by rw [h2]; exact h.d, by rw [h3]; exact h.t⟩
theorem pickF {xs : List Fo} {r : Int} (h0 : 0 ≤ r) (h1 : r < xs.length) : ∃ g, g ∈ xs ∧ pIx (.list (xs.map Fo.d)) (.int r) = some g.d := by
  obtain ⟨v, hv, hv2, ev⟩ := atI_lt (xs := xs.map Fo.d) h0 (by rw [List.length_map]; exact h1)
  obtain ⟨x, hx, rfl⟩ := List.mem_map.mp hv
  exact ⟨x, hx, ev⟩
def isSm : Fo → Bool
  | .same _ _ => true
  | _ => false
theorem h_sm (f : Fo) : decide (f.head = Str.ofString "same") = isSm f := by
  cases f with
  | is t k => show decide (Str.ofString "is" = Str.ofString "same") = false; decide +kernel
  | does e t k => show decide (Str.ofString "does" = Str.ofString "same") = false; decide +kernel
  | same t k => exact decide_eq_true rfl
  | least a b => show decide (Str.ofString "least" = Str.ofString "same") = false; decide +kernel
  | fals => show decide (Str.ofString "false" = Str.ofString "same") = false; decide +kernel
  | no f => show decide (Str.ofString "not" = Str.ofString "same") = false; decide +kernel
  | jn w f g => show decide (w.s = Str.ofString "same") = false; cases w <;> decide +kernel
  | qu w x f => show decide (w.s = Str.ofString "same") = false; cases w <;> decide +kernel
def dueB (h k g : Fo) : Bool := match h with
  | .same t u => pu t u k g
  | _ => false
/-- what is asked of the first form -/
structure Good (h k : Fo) : Prop where
  w : Wk h
  n : ∀ t u, h = .same t u → nb t u k
abbrev Pput : Fn DS := K_is_put (Fpu 16)
section
variable {s : DS} {F1 F2 F3 F4 F5 F6 F7 F8 F9 F10 F11 F12 : Fn DS}
abbrev Ffo (F1 F2 F3 F4 F5 F6 F7 F8 F9 F10 F11 F12 : Fn DS) : Fn DS := Lw30.K_follows F1 F2 F3 F4 F5 F6 F7 F8 F9 F10 F11 F12 Pput
theorem is_put_eq {h k g : Fo} {nm : D} (hg : Good h k) (kk : Kn k) (kg : Kn g) : Pput [g.d, .tuple [h.d, k.d], nm] s = some (.bool (dueB h k g), s) := by
  have kd := kk.d
  refine ok_eq ?_
  unfold Pput K_is_put B_is_put
  refine k_fn (k_ret ?_)
  simp only [ok_V0, ok_Vs, ok_K, ok_B, ok_U, ok_nil, ok_cons, ok_N, ok_aN, ok_call, ok_nl, ok_fl, ok_afl, ok_T, ok_qNot, ok_qAnd, ok_qOr, ok_and, ok_or, ok_not, ok_if, ok_Sl, ok_oNo, ok_oOf, ok_Ch, ok_it, ok_itA, ok_yes, v_addI, v_sub, v_neg, v_eqI, v_eqS, v_eqB, v_eq0, v_eqT0, v_neI, v_neS, v_neB, v_ne0, v_neT0, v_ltI, v_leI, v_gtI, v_geI, v_is, v_isNot, v_nn, v_ns, v_ni, v_nl, v_nt, v_tb, v_tl, v_tt, v_tn, v_ti, v_asB, v_asI, v_asL, v_asT, v_asS, v_lenL, v_lenT, v_tupL, v_tupT, v_listL, v_listT, v_intB, v_tup0, v_tup1, v_tup2, v_tup3, v_tup4, v_tup5, v_lst0, v_lst1, v_lst2, v_lst3, v_lst4, v_lst5, v_ok0, v_ok1, v_ok2, v_ix0L, v_ix0, v_ix1, v_ix2, v_ix3, v_fs, v_fi, v_fb, v_fn, v_ft, v_f0, v_fc, startR, List.map_cons, List.map_nil, List.length_cons, List.length_nil, List.replicate, List.cons_append, List.nil_append, List.set_cons_zero, List.set_cons_succ, Option.some.injEq, exists_eq_left', Nat.reduceAdd, Nat.reduceSub, Nat.sub_zero, Nat.sub_self, Nat.zero_add, Nat.reduceEqDiff, Bool.not_true, Bool.not_false, if_true, if_false, Bool.and_self, Bool.true_and, Bool.and_true, Bool.false_eq_true, ↓reduceIte, true_and, and_true, decide_true, decide_false, wipeR, head9, h_sm]
  cases h with
  | same t u =>
    simp only [isSm, ok_V0, ok_Vs, ok_K, ok_B, ok_U, ok_nil, ok_cons, ok_N, ok_aN, ok_call, ok_nl, ok_fl, ok_afl, ok_T, ok_qNot, ok_qAnd, ok_qOr, ok_and, ok_or, ok_not, ok_if, ok_Sl, ok_oNo, ok_oOf, ok_Ch, ok_it, ok_itA, ok_yes, v_addI, v_sub, v_neg, v_eqI, v_eqS, v_eqB, v_eq0, v_eqT0, v_neI, v_neS, v_neB, v_ne0, v_neT0, v_ltI, v_leI, v_gtI, v_geI, v_is, v_isNot, v_nn, v_ns, v_ni, v_nl, v_nt, v_tb, v_tl, v_tt, v_tn, v_ti, v_asB, v_asI, v_asL, v_asT, v_asS, v_lenL, v_lenT, v_tupL, v_tupT, v_listL, v_listT, v_intB, v_tup0, v_tup1, v_tup2, v_tup3, v_tup4, v_tup5, v_lst0, v_lst1, v_lst2, v_lst3, v_lst4, v_lst5, v_ok0, v_ok1, v_ok2, v_ix0L, v_ix0, v_ix1, v_ix2, v_ix3, v_fs, v_fi, v_fb, v_fn, v_ft, v_f0, v_fc, startR, List.map_cons, List.map_nil, List.length_cons, List.length_nil, List.replicate, List.cons_append, List.nil_append, List.set_cons_zero, List.set_cons_succ, Option.some.injEq, exists_eq_left', Nat.reduceAdd, Nat.reduceSub, Nat.sub_zero, Nat.sub_self, Nat.zero_add, Nat.reduceEqDiff, Bool.not_true, Bool.not_false, if_true, if_false, Bool.and_self, Bool.true_and, Bool.and_true, Bool.false_eq_true, ↓reduceIte, true_and, and_true, decide_true, decide_false, wipeR, show pIx (Fo.same t u).d (.int 1) = some (.str t) from v_ix1, show pIx (Fo.same t u).d (.int 2) = some (.str u) from v_ix2]
    exact ⟨_, _, puts_eq 16 k g s (by omega) kk.w kg.w (hg.n t u rfl), rfl, rfl⟩
  | _ => simp only [isSm, ok_V0, ok_Vs, ok_K, ok_B, ok_U, ok_nil, ok_cons, ok_N, ok_aN, ok_call, ok_nl, ok_fl, ok_afl, ok_T, ok_qNot, ok_qAnd, ok_qOr, ok_and, ok_or, ok_not, ok_if, ok_Sl, ok_oNo, ok_oOf, ok_Ch, ok_it, ok_itA, ok_yes, v_addI, v_sub, v_neg, v_eqI, v_eqS, v_eqB, v_eq0, v_eqT0, v_neI, v_neS, v_neB, v_ne0, v_neT0, v_ltI, v_leI, v_gtI, v_geI, v_is, v_isNot, v_nn, v_ns, v_ni, v_nl, v_nt, v_tb, v_tl, v_tt, v_tn, v_ti, v_asB, v_asI, v_asL, v_asT, v_asS, v_lenL, v_lenT, v_tupL, v_tupT, v_listL, v_listT, v_intB, v_tup0, v_tup1, v_tup2, v_tup3, v_tup4, v_tup5, v_lst0, v_lst1, v_lst2, v_lst3, v_lst4, v_lst5, v_ok0, v_ok1, v_ok2, v_ix0L, v_ix0, v_ix1, v_ix2, v_ix3, v_fs, v_fi, v_fb, v_fn, v_ft, v_f0, v_fc, startR, List.map_cons, List.map_nil, List.length_cons, List.length_nil, List.replicate, List.cons_append, List.nil_append, List.set_cons_zero, List.set_cons_succ, Option.some.injEq, exists_eq_left', Nat.reduceAdd, Nat.reduceSub, Nat.sub_zero, Nat.sub_self, Nat.zero_add, Nat.reduceEqDiff, Bool.not_true, Bool.not_false, if_true, if_false, Bool.and_self, Bool.true_and, Bool.and_true, Bool.false_eq_true, ↓reduceIte, true_and, and_true, decide_true, decide_false, wipeR]; rfl
theorem fol_eq {h k g : Fo} (hg : Good h k) (kk : Kn k) (kg : Kn g) {Q : D → DS → Prop} (q : Q (.bool (dueB h k g)) s) : Ok (Ffo F1 F2 F3 F4 F5 F6 F7 F8 F9 F10 F11 F12 [.str (Str.ofString "put"), g.d, .tuple [h.d, k.d], .none] s) Q :=
  fol_put (Ok.of (is_put_eq hg kk kg) q)
abbrev Fdeep : Fn DS := Lw30.K_w_deepened Fdraw9
abbrev dl : List Str := [Str.ofString "x", Str.ofString "y1", Str.ofString "w"]
theorem dl_ok : ∀ x ∈ dl, sok x ∧ nameB (.str x) = false := by
  have h : (dl.all fun x => PyData.strOk x && !nameB (.str x)) = true := by decide +kernel
  intro x hx
  have := List.all_eq_true.mp h x hx
  rw [Bool.and_eq_true] at this
  exact ⟨this.1, by simpa using this.2⟩
structure Kd (n : Nat) (f : Fo) : Prop where
  w : Wk f
  d : f.dep ≤ n
  t : tm f ≤ 8
theorem deep_ok {f : Fo} (hf : Kd 2 f) {Q : D → DS → Prop} (q : ∀ g s', Kn g → Q g.d s') : Ok (Fdeep [hnd 0, f.d, .list (dl.map .str)] s) Q := by
  unfold Fdeep Lw30.K_w_deepened Lw30.B_w_deepened
  refine k_fn (k_seq (k_sIf ?_))
  simp only [ok_V0, ok_Vs, ok_K, ok_B, ok_U, ok_nil, ok_cons, ok_N, ok_aN, ok_call, ok_nl, ok_fl, ok_afl, ok_T, ok_qNot, ok_qAnd, ok_qOr, ok_and, ok_or, ok_not, ok_if, ok_Sl, ok_oNo, ok_oOf, ok_Ch, ok_it, ok_itA, ok_yes, v_addI, v_sub, v_neg, v_eqI, v_eqS, v_eqB, v_eq0, v_eqT0, v_neI, v_neS, v_neB, v_ne0, v_neT0, v_ltI, v_leI, v_gtI, v_geI, v_is, v_isNot, v_nn, v_ns, v_ni, v_nl, v_nt, v_tb, v_tl, v_tt, v_tn, v_ti, v_asB, v_asI, v_asL, v_asT, v_asS, v_lenL, v_lenT, v_tupL, v_tupT, v_listL, v_listT, v_intB, v_tup0, v_tup1, v_tup2, v_tup3, v_tup4, v_tup5, v_lst0, v_lst1, v_lst2, v_lst3, v_lst4, v_lst5, v_ok0, v_ok1, v_ok2, v_ix0L, v_ix0, v_ix1, v_ix2, v_ix3, v_fs, v_fi, v_fb, v_fn, v_ft, v_f0, v_fc, startR, List.map_cons, List.map_nil, List.length_cons, List.length_nil, List.replicate, List.cons_append, List.nil_append, List.set_cons_zero, List.set_cons_succ, Option.some.injEq, exists_eq_left', Nat.reduceAdd, Nat.reduceSub, Nat.sub_zero, Nat.sub_self, Nat.zero_add, Nat.reduceEqDiff, Bool.not_true, Bool.not_false, if_true, if_false, Bool.and_self, Bool.true_and, Bool.and_true, Bool.false_eq_true, ↓reduceIte, true_and, and_true, decide_true, decide_false, wipeR]
  refine k_draw9 (by omega) (by omega) fun r s1 r0 r1 => ?_
  simp only [ok_V0, ok_Vs, ok_K, ok_B, ok_U, ok_nil, ok_cons, ok_N, ok_aN, ok_call, ok_nl, ok_fl, ok_afl, ok_T, ok_qNot, ok_qAnd, ok_qOr, ok_and, ok_or, ok_not, ok_if, ok_Sl, ok_oNo, ok_oOf, ok_Ch, ok_it, ok_itA, ok_yes, v_addI, v_sub, v_neg, v_eqI, v_eqS, v_eqB, v_eq0, v_eqT0, v_neI, v_neS, v_neB, v_ne0, v_neT0, v_ltI, v_leI, v_gtI, v_geI, v_is, v_isNot, v_nn, v_ns, v_ni, v_nl, v_nt, v_tb, v_tl, v_tt, v_tn, v_ti, v_asB, v_asI, v_asL, v_asT, v_asS, v_lenL, v_lenT, v_tupL, v_tupT, v_listL, v_listT, v_intB, v_tup0, v_tup1, v_tup2, v_tup3, v_tup4, v_tup5, v_lst0, v_lst1, v_lst2, v_lst3, v_lst4, v_lst5, v_ok0, v_ok1, v_ok2, v_ix0L, v_ix0, v_ix1, v_ix2, v_ix3, v_fs, v_fi, v_fb, v_fn, v_ft, v_f0, v_fc, startR, List.map_cons, List.map_nil, List.length_cons, List.length_nil, List.replicate, List.cons_append, List.nil_append, List.set_cons_zero, List.set_cons_succ, Option.some.injEq, exists_eq_left', Nat.reduceAdd, Nat.reduceSub, Nat.sub_zero, Nat.sub_self, Nat.zero_add, Nat.reduceEqDiff, Bool.not_true, Bool.not_false, if_true, if_false, Bool.and_self, Bool.true_and, Bool.and_true, Bool.false_eq_true, ↓reduceIte, true_and, and_true, decide_true, decide_false, wipeR]
  by_cases e : r = 3
  · simp only [e, ok_V0, ok_Vs, ok_K, ok_B, ok_U, ok_nil, ok_cons, ok_N, ok_aN, ok_call, ok_nl, ok_fl, ok_afl, ok_T, ok_qNot, ok_qAnd, ok_qOr, ok_and, ok_or, ok_not, ok_if, ok_Sl, ok_oNo, ok_oOf, ok_Ch, ok_it, ok_itA, ok_yes, v_addI, v_sub, v_neg, v_eqI, v_eqS, v_eqB, v_eq0, v_eqT0, v_neI, v_neS, v_neB, v_ne0, v_neT0, v_ltI, v_leI, v_gtI, v_geI, v_is, v_isNot, v_nn, v_ns, v_ni, v_nl, v_nt, v_tb, v_tl, v_tt, v_tn, v_ti, v_asB, v_asI, v_asL, v_asT, v_asS, v_lenL, v_lenT, v_tupL, v_tupT, v_listL, v_listT, v_intB, v_tup0, v_tup1, v_tup2, v_tup3, v_tup4, v_tup5, v_lst0, v_lst1, v_lst2, v_lst3, v_lst4, v_lst5, v_ok0, v_ok1, v_ok2, v_ix0L, v_ix0, v_ix1, v_ix2, v_ix3, v_fs, v_fi, v_fb, v_fn, v_ft, v_f0, v_fc, startR, List.map_cons, List.map_nil, List.length_cons, List.length_nil, List.replicate, List.cons_append, List.nil_append, List.set_cons_zero, List.set_cons_succ, Option.some.injEq, exists_eq_left', Nat.reduceAdd, Nat.reduceSub, Nat.sub_zero, Nat.sub_self, Nat.zero_add, Nat.reduceEqDiff, Bool.not_true, Bool.not_false, if_true, if_false, Bool.and_self, Bool.true_and, Bool.and_true, Bool.false_eq_true, ↓reduceIte, true_and, and_true, decide_true, decide_false, wipeR]
    refine k_nx (k_seq (k_set ?_))
    simp only [ok_V0, ok_Vs, ok_K, ok_B, ok_U, ok_nil, ok_cons, ok_N, ok_aN, ok_call, ok_nl, ok_fl, ok_afl, ok_T, ok_qNot, ok_qAnd, ok_qOr, ok_and, ok_or, ok_not, ok_if, ok_Sl, ok_oNo, ok_oOf, ok_Ch, ok_it, ok_itA, ok_yes, v_addI, v_sub, v_neg, v_eqI, v_eqS, v_eqB, v_eq0, v_eqT0, v_neI, v_neS, v_neB, v_ne0, v_neT0, v_ltI, v_leI, v_gtI, v_geI, v_is, v_isNot, v_nn, v_ns, v_ni, v_nl, v_nt, v_tb, v_tl, v_tt, v_tn, v_ti, v_asB, v_asI, v_asL, v_asT, v_asS, v_lenL, v_lenT, v_tupL, v_tupT, v_listL, v_listT, v_intB, v_tup0, v_tup1, v_tup2, v_tup3, v_tup4, v_tup5, v_lst0, v_lst1, v_lst2, v_lst3, v_lst4, v_lst5, v_ok0, v_ok1, v_ok2, v_ix0L, v_ix0, v_ix1, v_ix2, v_ix3, v_fs, v_fi, v_fb, v_fn, v_ft, v_f0, v_fc, startR, List.map_cons, List.map_nil, List.length_cons, List.length_nil, List.replicate, List.cons_append, List.nil_append, List.set_cons_zero, List.set_cons_succ, Option.some.injEq, exists_eq_left', Nat.reduceAdd, Nat.reduceSub, Nat.sub_zero, Nat.sub_self, Nat.zero_add, Nat.reduceEqDiff, Bool.not_true, Bool.not_false, if_true, if_false, Bool.and_self, Bool.true_and, Bool.and_true, Bool.false_eq_true, ↓reduceIte, true_and, and_true, decide_true, decide_false, wipeR]
    refine k_seq (k_forP (fun ds s' => ds = rngD 0 6) ?_ ?_)
    · simp only [ok_V0, ok_Vs, ok_K, ok_B, ok_U, ok_nil, ok_cons, ok_N, ok_aN, ok_call, ok_nl, ok_fl, ok_afl, ok_T, ok_qNot, ok_qAnd, ok_qOr, ok_and, ok_or, ok_not, ok_if, ok_Sl, ok_oNo, ok_oOf, ok_Ch, ok_it, ok_itA, ok_yes, v_addI, v_sub, v_neg, v_eqI, v_eqS, v_eqB, v_eq0, v_eqT0, v_neI, v_neS, v_neB, v_ne0, v_neT0, v_ltI, v_leI, v_gtI, v_geI, v_is, v_isNot, v_nn, v_ns, v_ni, v_nl, v_nt, v_tb, v_tl, v_tt, v_tn, v_ti, v_asB, v_asI, v_asL, v_asT, v_asS, v_lenL, v_lenT, v_tupL, v_tupT, v_listL, v_listT, v_intB, v_tup0, v_tup1, v_tup2, v_tup3, v_tup4, v_tup5, v_lst0, v_lst1, v_lst2, v_lst3, v_lst4, v_lst5, v_ok0, v_ok1, v_ok2, v_ix0L, v_ix0, v_ix1, v_ix2, v_ix3, v_fs, v_fi, v_fb, v_fn, v_ft, v_f0, v_fc, startR, List.map_cons, List.map_nil, List.length_cons, List.length_nil, List.replicate, List.cons_append, List.nil_append, List.set_cons_zero, List.set_cons_succ, Option.some.injEq, exists_eq_left', Nat.reduceAdd, Nat.reduceSub, Nat.sub_zero, Nat.sub_self, Nat.zero_add, Nat.reduceEqDiff, Bool.not_true, Bool.not_false, if_true, if_false, Bool.and_self, Bool.true_and, Bool.and_true, Bool.false_eq_true, ↓reduceIte, true_and, and_true, decide_true, decide_false, wipeR]
      exact ⟨_, pr1 (by omega) (by omega), rfl⟩
    rintro ds s2 rfl
    refine ⟨fun j ρ _ => ∃ (g : Fo) (o4 o5 : Option D), Kd (2 + j) g ∧ ρ = [some (hnd 0), some g.d, some (.list (dl.map .str)), some (Fo.least ([], 0) ([], 1)).d, o4, o5], ⟨f, _, _, hf, rfl⟩, ?_, ?_⟩
    · rintro j d ρ s3 hd ⟨g, o4, o5, hg, rfl⟩
      obtain ⟨hj, rfl⟩ := rng_get hd
      refine ⟨_, rfl, ?_⟩
      have gd := hg.d
      have gt := hg.t
      have ww : Wk (.least ([], 0) ([], 1)) := ⟨by simp, by simp⟩
      refine k_seq (k_set ?_)
      simp only [ok_V0, ok_Vs, ok_K, ok_B, ok_U, ok_nil, ok_cons, ok_N, ok_aN, ok_call, ok_nl, ok_fl, ok_afl, ok_T, ok_qNot, ok_qAnd, ok_qOr, ok_and, ok_or, ok_not, ok_if, ok_Sl, ok_oNo, ok_oOf, ok_Ch, ok_it, ok_itA, ok_yes, v_addI, v_sub, v_neg, v_eqI, v_eqS, v_eqB, v_eq0, v_eqT0, v_neI, v_neS, v_neB, v_ne0, v_neT0, v_ltI, v_leI, v_gtI, v_geI, v_is, v_isNot, v_nn, v_ns, v_ni, v_nl, v_nt, v_tb, v_tl, v_tt, v_tn, v_ti, v_asB, v_asI, v_asL, v_asT, v_asS, v_lenL, v_lenT, v_tupL, v_tupT, v_listL, v_listT, v_intB, v_tup0, v_tup1, v_tup2, v_tup3, v_tup4, v_tup5, v_lst0, v_lst1, v_lst2, v_lst3, v_lst4, v_lst5, v_ok0, v_ok1, v_ok2, v_ix0L, v_ix0, v_ix1, v_ix2, v_ix3, v_fs, v_fi, v_fb, v_fn, v_ft, v_f0, v_fc, startR, List.map_cons, List.map_nil, List.length_cons, List.length_nil, List.replicate, List.cons_append, List.nil_append, List.set_cons_zero, List.set_cons_succ, Option.some.injEq, exists_eq_left', Nat.reduceAdd, Nat.reduceSub, Nat.sub_zero, Nat.sub_self, Nat.zero_add, Nat.reduceEqDiff, Bool.not_true, Bool.not_false, if_true, if_false, Bool.and_self, Bool.true_and, Bool.and_true, Bool.false_eq_true, ↓reduceIte, true_and, and_true, decide_true, decide_false, wipeR]
      refine k_draw9 (by omega) (by omega) fun y s4 y0 y1 => ?_
      refine k_sIf ?_
      simp only [ok_V0, ok_Vs, ok_K, ok_B, ok_U, ok_nil, ok_cons, ok_N, ok_aN, ok_call, ok_nl, ok_fl, ok_afl, ok_T, ok_qNot, ok_qAnd, ok_qOr, ok_and, ok_or, ok_not, ok_if, ok_Sl, ok_oNo, ok_oOf, ok_Ch, ok_it, ok_itA, ok_yes, v_addI, v_sub, v_neg, v_eqI, v_eqS, v_eqB, v_eq0, v_eqT0, v_neI, v_neS, v_neB, v_ne0, v_neT0, v_ltI, v_leI, v_gtI, v_geI, v_is, v_isNot, v_nn, v_ns, v_ni, v_nl, v_nt, v_tb, v_tl, v_tt, v_tn, v_ti, v_asB, v_asI, v_asL, v_asT, v_asS, v_lenL, v_lenT, v_tupL, v_tupT, v_listL, v_listT, v_intB, v_tup0, v_tup1, v_tup2, v_tup3, v_tup4, v_tup5, v_lst0, v_lst1, v_lst2, v_lst3, v_lst4, v_lst5, v_ok0, v_ok1, v_ok2, v_ix0L, v_ix0, v_ix1, v_ix2, v_ix3, v_fs, v_fi, v_fb, v_fn, v_ft, v_f0, v_fc, startR, List.map_cons, List.map_nil, List.length_cons, List.length_nil, List.replicate, List.cons_append, List.nil_append, List.set_cons_zero, List.set_cons_succ, Option.some.injEq, exists_eq_left', Nat.reduceAdd, Nat.reduceSub, Nat.sub_zero, Nat.sub_self, Nat.zero_add, Nat.reduceEqDiff, Bool.not_true, Bool.not_false, if_true, if_false, Bool.and_self, Bool.true_and, Bool.and_true, Bool.false_eq_true, ↓reduceIte, true_and, and_true, decide_true, decide_false, wipeR]
      by_cases e0 : y = 0
      · simp only [e0, ok_V0, ok_Vs, ok_K, ok_B, ok_U, ok_nil, ok_cons, ok_N, ok_aN, ok_call, ok_nl, ok_fl, ok_afl, ok_T, ok_qNot, ok_qAnd, ok_qOr, ok_and, ok_or, ok_not, ok_if, ok_Sl, ok_oNo, ok_oOf, ok_Ch, ok_it, ok_itA, ok_yes, v_addI, v_sub, v_neg, v_eqI, v_eqS, v_eqB, v_eq0, v_eqT0, v_neI, v_neS, v_neB, v_ne0, v_neT0, v_ltI, v_leI, v_gtI, v_geI, v_is, v_isNot, v_nn, v_ns, v_ni, v_nl, v_nt, v_tb, v_tl, v_tt, v_tn, v_ti, v_asB, v_asI, v_asL, v_asT, v_asS, v_lenL, v_lenT, v_tupL, v_tupT, v_listL, v_listT, v_intB, v_tup0, v_tup1, v_tup2, v_tup3, v_tup4, v_tup5, v_lst0, v_lst1, v_lst2, v_lst3, v_lst4, v_lst5, v_ok0, v_ok1, v_ok2, v_ix0L, v_ix0, v_ix1, v_ix2, v_ix3, v_fs, v_fi, v_fb, v_fn, v_ft, v_f0, v_fc, startR, List.map_cons, List.map_nil, List.length_cons, List.length_nil, List.replicate, List.cons_append, List.nil_append, List.set_cons_zero, List.set_cons_succ, Option.some.injEq, exists_eq_left', Nat.reduceAdd, Nat.reduceSub, Nat.sub_zero, Nat.sub_self, Nat.zero_add, Nat.reduceEqDiff, Bool.not_true, Bool.not_false, if_true, if_false, Bool.and_self, Bool.true_and, Bool.and_true, Bool.false_eq_true, ↓reduceIte, true_and, and_true, decide_true, decide_false, wipeR]
        refine k_set ?_
        simp only [ok_V0, ok_Vs, ok_K, ok_B, ok_U, ok_nil, ok_cons, ok_N, ok_aN, ok_call, ok_nl, ok_fl, ok_afl, ok_T, ok_qNot, ok_qAnd, ok_qOr, ok_and, ok_or, ok_not, ok_if, ok_Sl, ok_oNo, ok_oOf, ok_Ch, ok_it, ok_itA, ok_yes, v_addI, v_sub, v_neg, v_eqI, v_eqS, v_eqB, v_eq0, v_eqT0, v_neI, v_neS, v_neB, v_ne0, v_neT0, v_ltI, v_leI, v_gtI, v_geI, v_is, v_isNot, v_nn, v_ns, v_ni, v_nl, v_nt, v_tb, v_tl, v_tt, v_tn, v_ti, v_asB, v_asI, v_asL, v_asT, v_asS, v_lenL, v_lenT, v_tupL, v_tupT, v_listL, v_listT, v_intB, v_tup0, v_tup1, v_tup2, v_tup3, v_tup4, v_tup5, v_lst0, v_lst1, v_lst2, v_lst3, v_lst4, v_lst5, v_ok0, v_ok1, v_ok2, v_ix0L, v_ix0, v_ix1, v_ix2, v_ix3, v_fs, v_fi, v_fb, v_fn, v_ft, v_f0, v_fc, startR, List.map_cons, List.map_nil, List.length_cons, List.length_nil, List.replicate, List.cons_append, List.nil_append, List.set_cons_zero, List.set_cons_succ, Option.some.injEq, exists_eq_left', Nat.reduceAdd, Nat.reduceSub, Nat.sub_zero, Nat.sub_self, Nat.zero_add, Nat.reduceEqDiff, Bool.not_true, Bool.not_false, if_true, if_false, Bool.and_self, Bool.true_and, Bool.and_true, Bool.false_eq_true, ↓reduceIte, true_and, and_true, decide_true, decide_false, wipeR]
        exact ⟨.no g, _, _, ⟨hg.w, by show g.dep + 1 ≤ _; omega, gt⟩, rfl⟩
      simp only [e0, ok_V0, ok_Vs, ok_K, ok_B, ok_U, ok_nil, ok_cons, ok_N, ok_aN, ok_call, ok_nl, ok_fl, ok_afl, ok_T, ok_qNot, ok_qAnd, ok_qOr, ok_and, ok_or, ok_not, ok_if, ok_Sl, ok_oNo, ok_oOf, ok_Ch, ok_it, ok_itA, ok_yes, v_addI, v_sub, v_neg, v_eqI, v_eqS, v_eqB, v_eq0, v_eqT0, v_neI, v_neS, v_neB, v_ne0, v_neT0, v_ltI, v_leI, v_gtI, v_geI, v_is, v_isNot, v_nn, v_ns, v_ni, v_nl, v_nt, v_tb, v_tl, v_tt, v_tn, v_ti, v_asB, v_asI, v_asL, v_asT, v_asS, v_lenL, v_lenT, v_tupL, v_tupT, v_listL, v_listT, v_intB, v_tup0, v_tup1, v_tup2, v_tup3, v_tup4, v_tup5, v_lst0, v_lst1, v_lst2, v_lst3, v_lst4, v_lst5, v_ok0, v_ok1, v_ok2, v_ix0L, v_ix0, v_ix1, v_ix2, v_ix3, v_fs, v_fi, v_fb, v_fn, v_ft, v_f0, v_fc, startR, List.map_cons, List.map_nil, List.length_cons, List.length_nil, List.replicate, List.cons_append, List.nil_append, List.set_cons_zero, List.set_cons_succ, Option.some.injEq, exists_eq_left', Nat.reduceAdd, Nat.reduceSub, Nat.sub_zero, Nat.sub_self, Nat.zero_add, Nat.reduceEqDiff, Bool.not_true, Bool.not_false, if_true, if_false, Bool.and_self, Bool.true_and, Bool.and_true, Bool.false_eq_true, ↓reduceIte, true_and, and_true, decide_true, decide_false, wipeR]
      refine k_sIf ?_
      simp only [ok_V0, ok_Vs, ok_K, ok_B, ok_U, ok_nil, ok_cons, ok_N, ok_aN, ok_call, ok_nl, ok_fl, ok_afl, ok_T, ok_qNot, ok_qAnd, ok_qOr, ok_and, ok_or, ok_not, ok_if, ok_Sl, ok_oNo, ok_oOf, ok_Ch, ok_it, ok_itA, ok_yes, v_addI, v_sub, v_neg, v_eqI, v_eqS, v_eqB, v_eq0, v_eqT0, v_neI, v_neS, v_neB, v_ne0, v_neT0, v_ltI, v_leI, v_gtI, v_geI, v_is, v_isNot, v_nn, v_ns, v_ni, v_nl, v_nt, v_tb, v_tl, v_tt, v_tn, v_ti, v_asB, v_asI, v_asL, v_asT, v_asS, v_lenL, v_lenT, v_tupL, v_tupT, v_listL, v_listT, v_intB, v_tup0, v_tup1, v_tup2, v_tup3, v_tup4, v_tup5, v_lst0, v_lst1, v_lst2, v_lst3, v_lst4, v_lst5, v_ok0, v_ok1, v_ok2, v_ix0L, v_ix0, v_ix1, v_ix2, v_ix3, v_fs, v_fi, v_fb, v_fn, v_ft, v_f0, v_fc, startR, List.map_cons, List.map_nil, List.length_cons, List.length_nil, List.replicate, List.cons_append, List.nil_append, List.set_cons_zero, List.set_cons_succ, Option.some.injEq, exists_eq_left', Nat.reduceAdd, Nat.reduceSub, Nat.sub_zero, Nat.sub_self, Nat.zero_add, Nat.reduceEqDiff, Bool.not_true, Bool.not_false, if_true, if_false, Bool.and_self, Bool.true_and, Bool.and_true, Bool.false_eq_true, ↓reduceIte, true_and, and_true, decide_true, decide_false, wipeR]
      by_cases e1 : y = 1
      · simp only [e1, ok_V0, ok_Vs, ok_K, ok_B, ok_U, ok_nil, ok_cons, ok_N, ok_aN, ok_call, ok_nl, ok_fl, ok_afl, ok_T, ok_qNot, ok_qAnd, ok_qOr, ok_and, ok_or, ok_not, ok_if, ok_Sl, ok_oNo, ok_oOf, ok_Ch, ok_it, ok_itA, ok_yes, v_addI, v_sub, v_neg, v_eqI, v_eqS, v_eqB, v_eq0, v_eqT0, v_neI, v_neS, v_neB, v_ne0, v_neT0, v_ltI, v_leI, v_gtI, v_geI, v_is, v_isNot, v_nn, v_ns, v_ni, v_nl, v_nt, v_tb, v_tl, v_tt, v_tn, v_ti, v_asB, v_asI, v_asL, v_asT, v_asS, v_lenL, v_lenT, v_tupL, v_tupT, v_listL, v_listT, v_intB, v_tup0, v_tup1, v_tup2, v_tup3, v_tup4, v_tup5, v_lst0, v_lst1, v_lst2, v_lst3, v_lst4, v_lst5, v_ok0, v_ok1, v_ok2, v_ix0L, v_ix0, v_ix1, v_ix2, v_ix3, v_fs, v_fi, v_fb, v_fn, v_ft, v_f0, v_fc, startR, List.map_cons, List.map_nil, List.length_cons, List.length_nil, List.replicate, List.cons_append, List.nil_append, List.set_cons_zero, List.set_cons_succ, Option.some.injEq, exists_eq_left', Nat.reduceAdd, Nat.reduceSub, Nat.sub_zero, Nat.sub_self, Nat.zero_add, Nat.reduceEqDiff, Bool.not_true, Bool.not_false, if_true, if_false, Bool.and_self, Bool.true_and, Bool.and_true, Bool.false_eq_true, ↓reduceIte, true_and, and_true, decide_true, decide_false, wipeR]
        refine k_set ?_
        simp only [ok_V0, ok_Vs, ok_K, ok_B, ok_U, ok_nil, ok_cons, ok_N, ok_aN, ok_call, ok_nl, ok_fl, ok_afl, ok_T, ok_qNot, ok_qAnd, ok_qOr, ok_and, ok_or, ok_not, ok_if, ok_Sl, ok_oNo, ok_oOf, ok_Ch, ok_it, ok_itA, ok_yes, v_addI, v_sub, v_neg, v_eqI, v_eqS, v_eqB, v_eq0, v_eqT0, v_neI, v_neS, v_neB, v_ne0, v_neT0, v_ltI, v_leI, v_gtI, v_geI, v_is, v_isNot, v_nn, v_ns, v_ni, v_nl, v_nt, v_tb, v_tl, v_tt, v_tn, v_ti, v_asB, v_asI, v_asL, v_asT, v_asS, v_lenL, v_lenT, v_tupL, v_tupT, v_listL, v_listT, v_intB, v_tup0, v_tup1, v_tup2, v_tup3, v_tup4, v_tup5, v_lst0, v_lst1, v_lst2, v_lst3, v_lst4, v_lst5, v_ok0, v_ok1, v_ok2, v_ix0L, v_ix0, v_ix1, v_ix2, v_ix3, v_fs, v_fi, v_fb, v_fn, v_ft, v_f0, v_fc, startR, List.map_cons, List.map_nil, List.length_cons, List.length_nil, List.replicate, List.cons_append, List.nil_append, List.set_cons_zero, List.set_cons_succ, Option.some.injEq, exists_eq_left', Nat.reduceAdd, Nat.reduceSub, Nat.sub_zero, Nat.sub_self, Nat.zero_add, Nat.reduceEqDiff, Bool.not_true, Bool.not_false, if_true, if_false, Bool.and_self, Bool.true_and, Bool.and_true, Bool.false_eq_true, ↓reduceIte, true_and, and_true, decide_true, decide_false, wipeR, v_mod (show (0 : Int) < 2 by decide)]
        obtain ⟨w, ew⟩ := pick_q (r := (0 + (j : Int)) % 2) (by omega) (by omega)
        refine ⟨_, ew, ?_⟩
        refine k_draw9 (by decide) (by decide) fun t s5 t0 t1 => ?_
        obtain ⟨x, hx, ex⟩ := pick9 (xs := dl) t0 t1
        refine ⟨_, ex, .qu w x g, _, _, ⟨⟨(dl_ok x hx).1, (dl_ok x hx).2, hg.w⟩, by show g.dep + 1 ≤ _; omega, gt⟩, rfl⟩
      simp only [e1, ok_V0, ok_Vs, ok_K, ok_B, ok_U, ok_nil, ok_cons, ok_N, ok_aN, ok_call, ok_nl, ok_fl, ok_afl, ok_T, ok_qNot, ok_qAnd, ok_qOr, ok_and, ok_or, ok_not, ok_if, ok_Sl, ok_oNo, ok_oOf, ok_Ch, ok_it, ok_itA, ok_yes, v_addI, v_sub, v_neg, v_eqI, v_eqS, v_eqB, v_eq0, v_eqT0, v_neI, v_neS, v_neB, v_ne0, v_neT0, v_ltI, v_leI, v_gtI, v_geI, v_is, v_isNot, v_nn, v_ns, v_ni, v_nl, v_nt, v_tb, v_tl, v_tt, v_tn, v_ti, v_asB, v_asI, v_asL, v_asT, v_asS, v_lenL, v_lenT, v_tupL, v_tupT, v_listL, v_listT, v_intB, v_tup0, v_tup1, v_tup2, v_tup3, v_tup4, v_tup5, v_lst0, v_lst1, v_lst2, v_lst3, v_lst4, v_lst5, v_ok0, v_ok1, v_ok2, v_ix0L, v_ix0, v_ix1, v_ix2, v_ix3, v_fs, v_fi, v_fb, v_fn, v_ft, v_f0, v_fc, startR, List.map_cons, List.map_nil, List.length_cons, List.length_nil, List.replicate, List.cons_append, List.nil_append, List.set_cons_zero, List.set_cons_succ, Option.some.injEq, exists_eq_left', Nat.reduceAdd, Nat.reduceSub, Nat.sub_zero, Nat.sub_self, Nat.zero_add, Nat.reduceEqDiff, Bool.not_true, Bool.not_false, if_true, if_false, Bool.and_self, Bool.true_and, Bool.and_true, Bool.false_eq_true, ↓reduceIte, true_and, and_true, decide_true, decide_false, wipeR]
      refine k_set ?_
      simp only [ok_V0, ok_Vs, ok_K, ok_B, ok_U, ok_nil, ok_cons, ok_N, ok_aN, ok_call, ok_nl, ok_fl, ok_afl, ok_T, ok_qNot, ok_qAnd, ok_qOr, ok_and, ok_or, ok_not, ok_if, ok_Sl, ok_oNo, ok_oOf, ok_Ch, ok_it, ok_itA, ok_yes, v_addI, v_sub, v_neg, v_eqI, v_eqS, v_eqB, v_eq0, v_eqT0, v_neI, v_neS, v_neB, v_ne0, v_neT0, v_ltI, v_leI, v_gtI, v_geI, v_is, v_isNot, v_nn, v_ns, v_ni, v_nl, v_nt, v_tb, v_tl, v_tt, v_tn, v_ti, v_asB, v_asI, v_asL, v_asT, v_asS, v_lenL, v_lenT, v_tupL, v_tupT, v_listL, v_listT, v_intB, v_tup0, v_tup1, v_tup2, v_tup3, v_tup4, v_tup5, v_lst0, v_lst1, v_lst2, v_lst3, v_lst4, v_lst5, v_ok0, v_ok1, v_ok2, v_ix0L, v_ix0, v_ix1, v_ix2, v_ix3, v_fs, v_fi, v_fb, v_fn, v_ft, v_f0, v_fc, startR, List.map_cons, List.map_nil, List.length_cons, List.length_nil, List.replicate, List.cons_append, List.nil_append, List.set_cons_zero, List.set_cons_succ, Option.some.injEq, exists_eq_left', Nat.reduceAdd, Nat.reduceSub, Nat.sub_zero, Nat.sub_self, Nat.zero_add, Nat.reduceEqDiff, Bool.not_true, Bool.not_false, if_true, if_false, Bool.and_self, Bool.true_and, Bool.and_true, Bool.false_eq_true, ↓reduceIte, true_and, and_true, decide_true, decide_false, wipeR]
      obtain e2 | e2 : y - 2 = 0 ∨ y - 2 = 1 := by omega
      · rw [e2]
        exact ⟨_, v_ix0L, .jn .or (.least ([], 0) ([], 1)) g, _, _, ⟨⟨ww, hg.w⟩, by show max 0 g.dep + 1 ≤ _; omega, by show 0 + tm g ≤ 8; omega⟩, rfl⟩
      · rw [e2]
        exact ⟨_, v_ix1L, .jn .if' g (.least ([], 0) ([], 1)), _, _, ⟨⟨hg.w, ww⟩, by show max g.dep 0 + 1 ≤ _; omega, by show tm g + 0 ≤ 8; omega⟩, rfl⟩
    · rintro ρ s3 ⟨g, o4, o5, hg, rfl⟩
      rw [rng_len] at hg
      refine k_ret ?_
      simp only [ok_V0, ok_Vs, ok_K, ok_B, ok_U, ok_nil, ok_cons, ok_N, ok_aN, ok_call, ok_nl, ok_fl, ok_afl, ok_T, ok_qNot, ok_qAnd, ok_qOr, ok_and, ok_or, ok_not, ok_if, ok_Sl, ok_oNo, ok_oOf, ok_Ch, ok_it, ok_itA, ok_yes, v_addI, v_sub, v_neg, v_eqI, v_eqS, v_eqB, v_eq0, v_eqT0, v_neI, v_neS, v_neB, v_ne0, v_neT0, v_ltI, v_leI, v_gtI, v_geI, v_is, v_isNot, v_nn, v_ns, v_ni, v_nl, v_nt, v_tb, v_tl, v_tt, v_tn, v_ti, v_asB, v_asI, v_asL, v_asT, v_asS, v_lenL, v_lenT, v_tupL, v_tupT, v_listL, v_listT, v_intB, v_tup0, v_tup1, v_tup2, v_tup3, v_tup4, v_tup5, v_lst0, v_lst1, v_lst2, v_lst3, v_lst4, v_lst5, v_ok0, v_ok1, v_ok2, v_ix0L, v_ix0, v_ix1, v_ix2, v_ix3, v_fs, v_fi, v_fb, v_fn, v_ft, v_f0, v_fc, startR, List.map_cons, List.map_nil, List.length_cons, List.length_nil, List.replicate, List.cons_append, List.nil_append, List.set_cons_zero, List.set_cons_succ, Option.some.injEq, exists_eq_left', Nat.reduceAdd, Nat.reduceSub, Nat.sub_zero, Nat.sub_self, Nat.zero_add, Nat.reduceEqDiff, Bool.not_true, Bool.not_false, if_true, if_false, Bool.and_self, Bool.true_and, Bool.and_true, Bool.false_eq_true, ↓reduceIte, true_and, and_true, decide_true, decide_false, wipeR]
      exact q g s3 ⟨hg.w, by have := hg.d; omega, hg.t⟩
  · simp only [e, ok_V0, ok_Vs, ok_K, ok_B, ok_U, ok_nil, ok_cons, ok_N, ok_aN, ok_call, ok_nl, ok_fl, ok_afl, ok_T, ok_qNot, ok_qAnd, ok_qOr, ok_and, ok_or, ok_not, ok_if, ok_Sl, ok_oNo, ok_oOf, ok_Ch, ok_it, ok_itA, ok_yes, v_addI, v_sub, v_neg, v_eqI, v_eqS, v_eqB, v_eq0, v_eqT0, v_neI, v_neS, v_neB, v_ne0, v_neT0, v_ltI, v_leI, v_gtI, v_geI, v_is, v_isNot, v_nn, v_ns, v_ni, v_nl, v_nt, v_tb, v_tl, v_tt, v_tn, v_ti, v_asB, v_asI, v_asL, v_asT, v_asS, v_lenL, v_lenT, v_tupL, v_tupT, v_listL, v_listT, v_intB, v_tup0, v_tup1, v_tup2, v_tup3, v_tup4, v_tup5, v_lst0, v_lst1, v_lst2, v_lst3, v_lst4, v_lst5, v_ok0, v_ok1, v_ok2, v_ix0L, v_ix0, v_ix1, v_ix2, v_ix3, v_fs, v_fi, v_fb, v_fn, v_ft, v_f0, v_fc, startR, List.map_cons, List.map_nil, List.length_cons, List.length_nil, List.replicate, List.cons_append, List.nil_append, List.set_cons_zero, List.set_cons_succ, Option.some.injEq, exists_eq_left', Nat.reduceAdd, Nat.reduceSub, Nat.sub_zero, Nat.sub_self, Nat.zero_add, Nat.reduceEqDiff, Bool.not_true, Bool.not_false, if_true, if_false, Bool.and_self, Bool.true_and, Bool.and_true, Bool.false_eq_true, ↓reduceIte, true_and, and_true, decide_true, decide_false, wipeR]
    refine k_ret ?_
    simp only [ok_V0, ok_Vs, ok_K, ok_B, ok_U, ok_nil, ok_cons, ok_N, ok_aN, ok_call, ok_nl, ok_fl, ok_afl, ok_T, ok_qNot, ok_qAnd, ok_qOr, ok_and, ok_or, ok_not, ok_if, ok_Sl, ok_oNo, ok_oOf, ok_Ch, ok_it, ok_itA, ok_yes, v_addI, v_sub, v_neg, v_eqI, v_eqS, v_eqB, v_eq0, v_eqT0, v_neI, v_neS, v_neB, v_ne0, v_neT0, v_ltI, v_leI, v_gtI, v_geI, v_is, v_isNot, v_nn, v_ns, v_ni, v_nl, v_nt, v_tb, v_tl, v_tt, v_tn, v_ti, v_asB, v_asI, v_asL, v_asT, v_asS, v_lenL, v_lenT, v_tupL, v_tupT, v_listL, v_listT, v_intB, v_tup0, v_tup1, v_tup2, v_tup3, v_tup4, v_tup5, v_lst0, v_lst1, v_lst2, v_lst3, v_lst4, v_lst5, v_ok0, v_ok1, v_ok2, v_ix0L, v_ix0, v_ix1, v_ix2, v_ix3, v_fs, v_fi, v_fb, v_fn, v_ft, v_f0, v_fc, startR, List.map_cons, List.map_nil, List.length_cons, List.length_nil, List.replicate, List.cons_append, List.nil_append, List.set_cons_zero, List.set_cons_succ, Option.some.injEq, exists_eq_left', Nat.reduceAdd, Nat.reduceSub, Nat.sub_zero, Nat.sub_self, Nat.zero_add, Nat.reduceEqDiff, Bool.not_true, Bool.not_false, if_true, if_false, Bool.and_self, Bool.true_and, Bool.and_true, Bool.false_eq_true, ↓reduceIte, true_and, and_true, decide_true, decide_false, wipeR]
    exact q f s1 ⟨hf.w, by have := hf.d; omega, hf.t⟩
end
theorem pick3 {a b c : D} {r : Int} (h0 : 0 ≤ r) (h1 : r < 3) : ∃ g : D, pIx (.list [a, b, c]) (.int r) = some g ∧ (g = a ∨ g = b ∨ g = c) := by
  obtain rfl | rfl | rfl : r = 0 ∨ r = 1 ∨ r = 2 := by omega
  · exact ⟨a, v_ix0L, .inl rfl⟩
  · exact ⟨b, v_ix1L, .inr (.inl rfl)⟩
  · exact ⟨c, by simp only [pIx]; exact atI_nat (j := 2) rfl, .inr (.inr rfl)⟩
theorem law_true {s : DS} {F1 F2 F3 F4 F5 F6 F7 F8 F9 F10 F11 F12 : Fn DS} : Ok (B_law Fdraw9 Lw30.Fvoc Fdeep (Fform 4) (Fva 16) (Ffo F1 F2 F3 F4 F5 F6 F7 F8 F9 F10 F11 F12) (lawR 16) s) fun r _ => r = .rt (.bool true) := by
  unfold B_law lawR
  refine k_seq (k_forP (fun ds s' => ds = rngD 0 5) ?_ ?_)
  · simp only [ok_V0, ok_Vs, ok_K, ok_B, ok_U, ok_nil, ok_cons, ok_N, ok_aN, ok_call, ok_nl, ok_fl, ok_afl, ok_T, ok_qNot, ok_qAnd, ok_qOr, ok_and, ok_or, ok_not, ok_if, ok_Sl, ok_oNo, ok_oOf, ok_Ch, ok_it, ok_itA, ok_yes, v_addI, v_sub, v_neg, v_eqI, v_eqS, v_eqB, v_eq0, v_eqT0, v_neI, v_neS, v_neB, v_ne0, v_neT0, v_ltI, v_leI, v_gtI, v_geI, v_is, v_isNot, v_nn, v_ns, v_ni, v_nl, v_nt, v_tb, v_tl, v_tt, v_tn, v_ti, v_asB, v_asI, v_asL, v_asT, v_asS, v_lenL, v_lenT, v_tupL, v_tupT, v_listL, v_listT, v_intB, v_tup0, v_tup1, v_tup2, v_tup3, v_tup4, v_tup5, v_lst0, v_lst1, v_lst2, v_lst3, v_lst4, v_lst5, v_ok0, v_ok1, v_ok2, v_ix0L, v_ix0, v_ix1, v_ix2, v_ix3, v_fs, v_fi, v_fb, v_fn, v_ft, v_f0, v_fc, startR, List.map_cons, List.map_nil, List.length_cons, List.length_nil, List.replicate, List.cons_append, List.nil_append, List.set_cons_zero, List.set_cons_succ, Option.some.injEq, exists_eq_left', Nat.reduceAdd, Nat.reduceSub, Nat.sub_zero, Nat.sub_self, Nat.zero_add, Nat.reduceEqDiff, Bool.not_true, Bool.not_false, if_true, if_false, Bool.and_self, Bool.true_and, Bool.and_true, Bool.false_eq_true, ↓reduceIte, true_and, and_true, decide_true, decide_false, wipeR]
    exact ⟨_, pr1 (by omega) (by omega), rfl⟩
  rintro ds s1 rfl
  refine ⟨fun j ρ _ => ∃ r : List (Option D), ρ = none :: some (hnd 0) :: r ∧ r.length = 16, ⟨_, rfl, rfl⟩, ?_, ?_⟩
  · rintro j x0 ρ s2 hd ⟨r, rfl, hr⟩
    match r, hr with
    | [_, o3, o4, o5, o6, o7, o8, o9, o10, o11, o12, o13, o14, o15, o16, o17], _ =>
    obtain ⟨hj, rfl⟩ := rng_get hd
    refine ⟨_, rfl, ?_⟩
    refine k_seq (k_asg ?_)
    simp only [ok_V0, ok_Vs, ok_K, ok_B, ok_U, ok_nil, ok_cons, ok_N, ok_aN, ok_call, ok_nl, ok_fl, ok_afl, ok_T, ok_qNot, ok_qAnd, ok_qOr, ok_and, ok_or, ok_not, ok_if, ok_Sl, ok_oNo, ok_oOf, ok_Ch, ok_it, ok_itA, ok_yes, v_addI, v_sub, v_neg, v_eqI, v_eqS, v_eqB, v_eq0, v_eqT0, v_neI, v_neS, v_neB, v_ne0, v_neT0, v_ltI, v_leI, v_gtI, v_geI, v_is, v_isNot, v_nn, v_ns, v_ni, v_nl, v_nt, v_tb, v_tl, v_tt, v_tn, v_ti, v_asB, v_asI, v_asL, v_asT, v_asS, v_lenL, v_lenT, v_tupL, v_tupT, v_listL, v_listT, v_intB, v_tup0, v_tup1, v_tup2, v_tup3, v_tup4, v_tup5, v_lst0, v_lst1, v_lst2, v_lst3, v_lst4, v_lst5, v_ok0, v_ok1, v_ok2, v_ix0L, v_ix0, v_ix1, v_ix2, v_ix3, v_fs, v_fi, v_fb, v_fn, v_ft, v_f0, v_fc, startR, List.map_cons, List.map_nil, List.length_cons, List.length_nil, List.replicate, List.cons_append, List.nil_append, List.set_cons_zero, List.set_cons_succ, Option.some.injEq, exists_eq_left', Nat.reduceAdd, Nat.reduceSub, Nat.sub_zero, Nat.sub_self, Nat.zero_add, Nat.reduceEqDiff, Bool.not_true, Bool.not_false, if_true, if_false, Bool.and_self, Bool.true_and, Bool.and_true, Bool.false_eq_true, ↓reduceIte, true_and, and_true, decide_true, decide_false, wipeR]
    refine k_draw9 (by omega) (by omega) fun r s3 r0 r1 => ?_
    simp only [ok_V0, ok_Vs, ok_K, ok_B, ok_U, ok_nil, ok_cons, ok_N, ok_aN, ok_call, ok_nl, ok_fl, ok_afl, ok_T, ok_qNot, ok_qAnd, ok_qOr, ok_and, ok_or, ok_not, ok_if, ok_Sl, ok_oNo, ok_oOf, ok_Ch, ok_it, ok_itA, ok_yes, v_addI, v_sub, v_neg, v_eqI, v_eqS, v_eqB, v_eq0, v_eqT0, v_neI, v_neS, v_neB, v_ne0, v_neT0, v_ltI, v_leI, v_gtI, v_geI, v_is, v_isNot, v_nn, v_ns, v_ni, v_nl, v_nt, v_tb, v_tl, v_tt, v_tn, v_ti, v_asB, v_asI, v_asL, v_asT, v_asS, v_lenL, v_lenT, v_tupL, v_tupT, v_listL, v_listT, v_intB, v_tup0, v_tup1, v_tup2, v_tup3, v_tup4, v_tup5, v_lst0, v_lst1, v_lst2, v_lst3, v_lst4, v_lst5, v_ok0, v_ok1, v_ok2, v_ix0L, v_ix0, v_ix1, v_ix2, v_ix3, v_fs, v_fi, v_fb, v_fn, v_ft, v_f0, v_fc, startR, List.map_cons, List.map_nil, List.length_cons, List.length_nil, List.replicate, List.cons_append, List.nil_append, List.set_cons_zero, List.set_cons_succ, Option.some.injEq, exists_eq_left', Nat.reduceAdd, Nat.reduceSub, Nat.sub_zero, Nat.sub_self, Nat.zero_add, Nat.reduceEqDiff, Bool.not_true, Bool.not_false, if_true, if_false, Bool.and_self, Bool.true_and, Bool.and_true, Bool.false_eq_true, ↓reduceIte, true_and, and_true, decide_true, decide_false, wipeR]
    have hv : ∃ a b c : Nat, pIx (.list [.tuple [.int 3, .int 2, .int 2], .tuple [.int 6, .int 6, .int 3]]) (.int (if decide (r = 5) = true then 1 else 0)) = some (.tuple [.int (a : Nat), .int (b : Nat), .int (c : Nat)]) ∧ 1 ≤ a ∧ a ≤ 6 ∧ 1 ≤ b ∧ b ≤ 6 ∧ c ≤ 3 := by
      by_cases e : r = 5
      · rw [decide_eq_true e]
        exact ⟨6, 6, 3, v_ix1L, by decide, by decide, by decide, by decide, by decide⟩
      · rw [decide_eq_false e]
        exact ⟨3, 2, 2, v_ix0L, by decide, by decide, by decide, by decide, by decide⟩
    obtain ⟨a, b, c, ev, a1, a2, b1, b2, c2⟩ := hv
    refine ⟨_, ev, _, rfl, ?_⟩
    refine k_seq (k_set ?_)
    simp only [ok_V0, ok_Vs, ok_K, ok_B, ok_U, ok_nil, ok_cons, ok_N, ok_aN, ok_call, ok_nl, ok_fl, ok_afl, ok_T, ok_qNot, ok_qAnd, ok_qOr, ok_and, ok_or, ok_not, ok_if, ok_Sl, ok_oNo, ok_oOf, ok_Ch, ok_it, ok_itA, ok_yes, v_addI, v_sub, v_neg, v_eqI, v_eqS, v_eqB, v_eq0, v_eqT0, v_neI, v_neS, v_neB, v_ne0, v_neT0, v_ltI, v_leI, v_gtI, v_geI, v_is, v_isNot, v_nn, v_ns, v_ni, v_nl, v_nt, v_tb, v_tl, v_tt, v_tn, v_ti, v_asB, v_asI, v_asL, v_asT, v_asS, v_lenL, v_lenT, v_tupL, v_tupT, v_listL, v_listT, v_intB, v_tup0, v_tup1, v_tup2, v_tup3, v_tup4, v_tup5, v_lst0, v_lst1, v_lst2, v_lst3, v_lst4, v_lst5, v_ok0, v_ok1, v_ok2, v_ix0L, v_ix0, v_ix1, v_ix2, v_ix3, v_fs, v_fi, v_fb, v_fn, v_ft, v_f0, v_fc, startR, List.map_cons, List.map_nil, List.length_cons, List.length_nil, List.replicate, List.cons_append, List.nil_append, List.set_cons_zero, List.set_cons_succ, Option.some.injEq, exists_eq_left', Nat.reduceAdd, Nat.reduceSub, Nat.sub_zero, Nat.sub_self, Nat.zero_add, Nat.reduceEqDiff, Bool.not_true, Bool.not_false, if_true, if_false, Bool.and_self, Bool.true_and, Bool.and_true, Bool.false_eq_true, ↓reduceIte, true_and, and_true, decide_true, decide_false, wipeR]
    refine ok_voc a1 a2 b1 b2 c2 fun ns ks es s4 v => ?_
    have nl := v.nl
    have n1 := List.length_pos_iff.mpr v.n0
    have k1 := List.length_pos_iff.mpr v.k0
    have vi : pIx (vcD ns ks es) (.int 0) = some (.tuple (ns.map .str)) := v_ix0
    have vk : pIx (vcD ns ks es) (.int 1) = some (.tuple (ks.map .str)) := v_ix1
    refine k_seq (k_set ?_)
    simp only [ok_V0, ok_Vs, ok_K, ok_B, ok_U, ok_nil, ok_cons, ok_N, ok_aN, ok_call, ok_nl, ok_fl, ok_afl, ok_T, ok_qNot, ok_qAnd, ok_qOr, ok_and, ok_or, ok_not, ok_if, ok_Sl, ok_oNo, ok_oOf, ok_Ch, ok_it, ok_itA, ok_yes, v_addI, v_sub, v_neg, v_eqI, v_eqS, v_eqB, v_eq0, v_eqT0, v_neI, v_neS, v_neB, v_ne0, v_neT0, v_ltI, v_leI, v_gtI, v_geI, v_is, v_isNot, v_nn, v_ns, v_ni, v_nl, v_nt, v_tb, v_tl, v_tt, v_tn, v_ti, v_asB, v_asI, v_asL, v_asT, v_asS, v_lenL, v_lenT, v_tupL, v_tupT, v_listL, v_listT, v_intB, v_tup0, v_tup1, v_tup2, v_tup3, v_tup4, v_tup5, v_lst0, v_lst1, v_lst2, v_lst3, v_lst4, v_lst5, v_ok0, v_ok1, v_ok2, v_ix0L, v_ix0, v_ix1, v_ix2, v_ix3, v_fs, v_fi, v_fb, v_fn, v_ft, v_f0, v_fc, startR, List.map_cons, List.map_nil, List.length_cons, List.length_nil, List.replicate, List.cons_append, List.nil_append, List.set_cons_zero, List.set_cons_succ, Option.some.injEq, exists_eq_left', Nat.reduceAdd, Nat.reduceSub, Nat.sub_zero, Nat.sub_self, Nat.zero_add, Nat.reduceEqDiff, Bool.not_true, Bool.not_false, if_true, if_false, Bool.and_self, Bool.true_and, Bool.and_true, Bool.false_eq_true, ↓reduceIte, true_and, and_true, decide_true, decide_false, wipeR]
    refine ⟨_, vi, ?_⟩
    refine k_seq (k_set ?_)
    simp only [ok_V0, ok_Vs, ok_K, ok_B, ok_U, ok_nil, ok_cons, ok_N, ok_aN, ok_call, ok_nl, ok_fl, ok_afl, ok_T, ok_qNot, ok_qAnd, ok_qOr, ok_and, ok_or, ok_not, ok_if, ok_Sl, ok_oNo, ok_oOf, ok_Ch, ok_it, ok_itA, ok_yes, v_addI, v_sub, v_neg, v_eqI, v_eqS, v_eqB, v_eq0, v_eqT0, v_neI, v_neS, v_neB, v_ne0, v_neT0, v_ltI, v_leI, v_gtI, v_geI, v_is, v_isNot, v_nn, v_ns, v_ni, v_nl, v_nt, v_tb, v_tl, v_tt, v_tn, v_ti, v_asB, v_asI, v_asL, v_asT, v_asS, v_lenL, v_lenT, v_tupL, v_tupT, v_listL, v_listT, v_intB, v_tup0, v_tup1, v_tup2, v_tup3, v_tup4, v_tup5, v_lst0, v_lst1, v_lst2, v_lst3, v_lst4, v_lst5, v_ok0, v_ok1, v_ok2, v_ix0L, v_ix0, v_ix1, v_ix2, v_ix3, v_fs, v_fi, v_fb, v_fn, v_ft, v_f0, v_fc, startR, List.map_cons, List.map_nil, List.length_cons, List.length_nil, List.replicate, List.cons_append, List.nil_append, List.set_cons_zero, List.set_cons_succ, Option.some.injEq, exists_eq_left', Nat.reduceAdd, Nat.reduceSub, Nat.sub_zero, Nat.sub_self, Nat.zero_add, Nat.reduceEqDiff, Bool.not_true, Bool.not_false, if_true, if_false, Bool.and_self, Bool.true_and, Bool.and_true, Bool.false_eq_true, ↓reduceIte, true_and, and_true, decide_true, decide_false, wipeR, List.length_map]
    refine k_draw9 (by omega) (by omega) fun r s5 r0 r1 => ?_
    obtain ⟨x, hx, ex⟩ := pick9T (xs := ns) r0 (by omega)
    refine ⟨_, ex, ?_⟩
    refine k_seq (k_set ?_)
    simp only [ok_V0, ok_Vs, ok_K, ok_B, ok_U, ok_nil, ok_cons, ok_N, ok_aN, ok_call, ok_nl, ok_fl, ok_afl, ok_T, ok_qNot, ok_qAnd, ok_qOr, ok_and, ok_or, ok_not, ok_if, ok_Sl, ok_oNo, ok_oOf, ok_Ch, ok_it, ok_itA, ok_yes, v_addI, v_sub, v_neg, v_eqI, v_eqS, v_eqB, v_eq0, v_eqT0, v_neI, v_neS, v_neB, v_ne0, v_neT0, v_ltI, v_leI, v_gtI, v_geI, v_is, v_isNot, v_nn, v_ns, v_ni, v_nl, v_nt, v_tb, v_tl, v_tt, v_tn, v_ti, v_asB, v_asI, v_asL, v_asT, v_asS, v_lenL, v_lenT, v_tupL, v_tupT, v_listL, v_listT, v_intB, v_tup0, v_tup1, v_tup2, v_tup3, v_tup4, v_tup5, v_lst0, v_lst1, v_lst2, v_lst3, v_lst4, v_lst5, v_ok0, v_ok1, v_ok2, v_ix0L, v_ix0, v_ix1, v_ix2, v_ix3, v_fs, v_fi, v_fb, v_fn, v_ft, v_f0, v_fc, startR, List.map_cons, List.map_nil, List.length_cons, List.length_nil, List.replicate, List.cons_append, List.nil_append, List.set_cons_zero, List.set_cons_succ, Option.some.injEq, exists_eq_left', Nat.reduceAdd, Nat.reduceSub, Nat.sub_zero, Nat.sub_self, Nat.zero_add, Nat.reduceEqDiff, Bool.not_true, Bool.not_false, if_true, if_false, Bool.and_self, Bool.true_and, Bool.and_true, Bool.false_eq_true, ↓reduceIte, true_and, and_true, decide_true, decide_false, wipeR, List.length_map]
    refine k_draw9 (by omega) (by omega) fun r s6 r0 r1 => ?_
    obtain ⟨y, hy, ey⟩ := pick9T (xs := ns) r0 (by omega)
    refine ⟨_, ey, ?_⟩
    have xs1 := (v.n x hx).sok
    have ys1 := (v.n y hy).sok
    have xn := v.nm x hx
    have yn := v.nm y hy
    refine k_seq (k_set ?_)
    simp only [ok_V0, ok_Vs, ok_K, ok_B, ok_U, ok_nil, ok_cons, ok_N, ok_aN, ok_call, ok_nl, ok_fl, ok_afl, ok_T, ok_qNot, ok_qAnd, ok_qOr, ok_and, ok_or, ok_not, ok_if, ok_Sl, ok_oNo, ok_oOf, ok_Ch, ok_it, ok_itA, ok_yes, v_addI, v_sub, v_neg, v_eqI, v_eqS, v_eqB, v_eq0, v_eqT0, v_neI, v_neS, v_neB, v_ne0, v_neT0, v_ltI, v_leI, v_gtI, v_geI, v_is, v_isNot, v_nn, v_ns, v_ni, v_nl, v_nt, v_tb, v_tl, v_tt, v_tn, v_ti, v_asB, v_asI, v_asL, v_asT, v_asS, v_lenL, v_lenT, v_tupL, v_tupT, v_listL, v_listT, v_intB, v_tup0, v_tup1, v_tup2, v_tup3, v_tup4, v_tup5, v_lst0, v_lst1, v_lst2, v_lst3, v_lst4, v_lst5, v_ok0, v_ok1, v_ok2, v_ix0L, v_ix0, v_ix1, v_ix2, v_ix3, v_fs, v_fi, v_fb, v_fn, v_ft, v_f0, v_fc, startR, List.map_cons, List.map_nil, List.length_cons, List.length_nil, List.replicate, List.cons_append, List.nil_append, List.set_cons_zero, List.set_cons_succ, Option.some.injEq, exists_eq_left', Nat.reduceAdd, Nat.reduceSub, Nat.sub_zero, Nat.sub_self, Nat.zero_add, Nat.reduceEqDiff, Bool.not_true, Bool.not_false, if_true, if_false, Bool.and_self, Bool.true_and, Bool.and_true, Bool.false_eq_true, ↓reduceIte, true_and, and_true, decide_true, decide_false, wipeR]
    refine ok_form v 4 2 [] _ _ (by decide) (by simp) (by simp) fun f1 s7 hf1 hd1 => ?_
    refine deep_ok ⟨(kn_of hf1 hd1).w, hd1, (kn_of hf1 hd1).t⟩ fun K s8 hK => ?_
    have kd := hK.d
    have kt := hK.t
    have var : ∀ {f : Fo} {a b : Str} {s : DS}, Kn f → sok b → Fva 16 [f.d, .str a, .str b] s = some (.list ((V a b f).map Fo.d), s) := fun {f a b s} h hb => var_eq hb 16 f s (by have := h.d; omega) (by have := h.t; omega)
    have vlen : ∀ {f : Fo} (a b : Str), Kn f → 0 < (V a b f).length ∧ (V a b f).length ≤ 256 := fun {f} a b h => by
      have h1 := V_len a b f
      have h2 := Nat.pow_le_pow_right (show 0 < 2 by decide) h.t
      omega
    refine k_seq (k_set ?_)
    simp only [ok_V0, ok_Vs, ok_K, ok_B, ok_U, ok_nil, ok_cons, ok_N, ok_aN, ok_call, ok_nl, ok_fl, ok_afl, ok_T, ok_qNot, ok_qAnd, ok_qOr, ok_and, ok_or, ok_not, ok_if, ok_Sl, ok_oNo, ok_oOf, ok_Ch, ok_it, ok_itA, ok_yes, v_addI, v_sub, v_neg, v_eqI, v_eqS, v_eqB, v_eq0, v_eqT0, v_neI, v_neS, v_neB, v_ne0, v_neT0, v_ltI, v_leI, v_gtI, v_geI, v_is, v_isNot, v_nn, v_ns, v_ni, v_nl, v_nt, v_tb, v_tl, v_tt, v_tn, v_ti, v_asB, v_asI, v_asL, v_asT, v_asS, v_lenL, v_lenT, v_tupL, v_tupT, v_listL, v_listT, v_intB, v_tup0, v_tup1, v_tup2, v_tup3, v_tup4, v_tup5, v_lst0, v_lst1, v_lst2, v_lst3, v_lst4, v_lst5, v_ok0, v_ok1, v_ok2, v_ix0L, v_ix0, v_ix1, v_ix2, v_ix3, v_fs, v_fi, v_fb, v_fn, v_ft, v_f0, v_fc, startR, List.map_cons, List.map_nil, List.length_cons, List.length_nil, List.replicate, List.cons_append, List.nil_append, List.set_cons_zero, List.set_cons_succ, Option.some.injEq, exists_eq_left', Nat.reduceAdd, Nat.reduceSub, Nat.sub_zero, Nat.sub_self, Nat.zero_add, Nat.reduceEqDiff, Bool.not_true, Bool.not_false, if_true, if_false, Bool.and_self, Bool.true_and, Bool.and_true, Bool.false_eq_true, ↓reduceIte, true_and, and_true, decide_true, decide_false, wipeR]
    refine ⟨_, _, var hK ys1, ?_⟩
    have l1 := vlen x y hK
    refine k_seq (k_set ?_)
    simp only [ok_V0, ok_Vs, ok_K, ok_B, ok_U, ok_nil, ok_cons, ok_N, ok_aN, ok_call, ok_nl, ok_fl, ok_afl, ok_T, ok_qNot, ok_qAnd, ok_qOr, ok_and, ok_or, ok_not, ok_if, ok_Sl, ok_oNo, ok_oOf, ok_Ch, ok_it, ok_itA, ok_yes, v_addI, v_sub, v_neg, v_eqI, v_eqS, v_eqB, v_eq0, v_eqT0, v_neI, v_neS, v_neB, v_ne0, v_neT0, v_ltI, v_leI, v_gtI, v_geI, v_is, v_isNot, v_nn, v_ns, v_ni, v_nl, v_nt, v_tb, v_tl, v_tt, v_tn, v_ti, v_asB, v_asI, v_asL, v_asT, v_asS, v_lenL, v_lenT, v_tupL, v_tupT, v_listL, v_listT, v_intB, v_tup0, v_tup1, v_tup2, v_tup3, v_tup4, v_tup5, v_lst0, v_lst1, v_lst2, v_lst3, v_lst4, v_lst5, v_ok0, v_ok1, v_ok2, v_ix0L, v_ix0, v_ix1, v_ix2, v_ix3, v_fs, v_fi, v_fb, v_fn, v_ft, v_f0, v_fc, startR, List.map_cons, List.map_nil, List.length_cons, List.length_nil, List.replicate, List.cons_append, List.nil_append, List.set_cons_zero, List.set_cons_succ, Option.some.injEq, exists_eq_left', Nat.reduceAdd, Nat.reduceSub, Nat.sub_zero, Nat.sub_self, Nat.zero_add, Nat.reduceEqDiff, Bool.not_true, Bool.not_false, if_true, if_false, Bool.and_self, Bool.true_and, Bool.and_true, Bool.false_eq_true, ↓reduceIte, true_and, and_true, decide_true, decide_false, wipeR, List.length_map]
    refine k_draw9 (by omega) (by omega) fun r s9 r0 r1 => ?_
    obtain ⟨g, hg, eg⟩ := pickF (xs := V x y K) r0 (by omega)
    refine ⟨_, eg, ?_⟩
    have kg := kn_mem hK ys1 hg
    have good0 : Good (.same x y) K := ⟨⟨xs1, ys1⟩, fun t u e => by cases e; exact nb_of xn yn K hK.w⟩
    refine k_seq (k_sIf ?_)
    simp only [ok_V0, ok_Vs, ok_K, ok_B, ok_U, ok_nil, ok_cons, ok_N, ok_aN, ok_call, ok_nl, ok_fl, ok_afl, ok_T, ok_qNot, ok_qAnd, ok_qOr, ok_and, ok_or, ok_not, ok_if, ok_Sl, ok_oNo, ok_oOf, ok_Ch, ok_it, ok_itA, ok_yes, v_addI, v_sub, v_neg, v_eqI, v_eqS, v_eqB, v_eq0, v_eqT0, v_neI, v_neS, v_neB, v_ne0, v_neT0, v_ltI, v_leI, v_gtI, v_geI, v_is, v_isNot, v_nn, v_ns, v_ni, v_nl, v_nt, v_tb, v_tl, v_tt, v_tn, v_ti, v_asB, v_asI, v_asL, v_asT, v_asS, v_lenL, v_lenT, v_tupL, v_tupT, v_listL, v_listT, v_intB, v_tup0, v_tup1, v_tup2, v_tup3, v_tup4, v_tup5, v_lst0, v_lst1, v_lst2, v_lst3, v_lst4, v_lst5, v_ok0, v_ok1, v_ok2, v_ix0L, v_ix0, v_ix1, v_ix2, v_ix3, v_fs, v_fi, v_fb, v_fn, v_ft, v_f0, v_fc, startR, List.map_cons, List.map_nil, List.length_cons, List.length_nil, List.replicate, List.cons_append, List.nil_append, List.set_cons_zero, List.set_cons_succ, Option.some.injEq, exists_eq_left', Nat.reduceAdd, Nat.reduceSub, Nat.sub_zero, Nat.sub_self, Nat.zero_add, Nat.reduceEqDiff, Bool.not_true, Bool.not_false, if_true, if_false, Bool.and_self, Bool.true_and, Bool.and_true, Bool.false_eq_true, ↓reduceIte, true_and, and_true, decide_true, decide_false, wipeR, k_call1]
    refine fol_eq (h := .same x y) good0 hK kg ?_
    rw [show dueB (.same x y) K g = true from (pu_iff K g).mpr hg]
    refine ⟨_, rfl, false, rfl, ?_⟩
    simp only [ok_V0, ok_Vs, ok_K, ok_B, ok_U, ok_nil, ok_cons, ok_N, ok_aN, ok_call, ok_nl, ok_fl, ok_afl, ok_T, ok_qNot, ok_qAnd, ok_qOr, ok_and, ok_or, ok_not, ok_if, ok_Sl, ok_oNo, ok_oOf, ok_Ch, ok_it, ok_itA, ok_yes, v_addI, v_sub, v_neg, v_eqI, v_eqS, v_eqB, v_eq0, v_eqT0, v_neI, v_neS, v_neB, v_ne0, v_neT0, v_ltI, v_leI, v_gtI, v_geI, v_is, v_isNot, v_nn, v_ns, v_ni, v_nl, v_nt, v_tb, v_tl, v_tt, v_tn, v_ti, v_asB, v_asI, v_asL, v_asT, v_asS, v_lenL, v_lenT, v_tupL, v_tupT, v_listL, v_listT, v_intB, v_tup0, v_tup1, v_tup2, v_tup3, v_tup4, v_tup5, v_lst0, v_lst1, v_lst2, v_lst3, v_lst4, v_lst5, v_ok0, v_ok1, v_ok2, v_ix0L, v_ix0, v_ix1, v_ix2, v_ix3, v_fs, v_fi, v_fb, v_fn, v_ft, v_f0, v_fc, startR, List.map_cons, List.map_nil, List.length_cons, List.length_nil, List.replicate, List.cons_append, List.nil_append, List.set_cons_zero, List.set_cons_succ, Option.some.injEq, exists_eq_left', Nat.reduceAdd, Nat.reduceSub, Nat.sub_zero, Nat.sub_self, Nat.zero_add, Nat.reduceEqDiff, Bool.not_true, Bool.not_false, if_true, if_false, Bool.and_self, Bool.true_and, Bool.and_true, Bool.false_eq_true, ↓reduceIte, true_and, and_true, decide_true, decide_false, wipeR]
    refine k_nx (k_seq (k_set ?_))
    simp only [ok_V0, ok_Vs, ok_K, ok_B, ok_U, ok_nil, ok_cons, ok_N, ok_aN, ok_call, ok_nl, ok_fl, ok_afl, ok_T, ok_qNot, ok_qAnd, ok_qOr, ok_and, ok_or, ok_not, ok_if, ok_Sl, ok_oNo, ok_oOf, ok_Ch, ok_it, ok_itA, ok_yes, v_addI, v_sub, v_neg, v_eqI, v_eqS, v_eqB, v_eq0, v_eqT0, v_neI, v_neS, v_neB, v_ne0, v_neT0, v_ltI, v_leI, v_gtI, v_geI, v_is, v_isNot, v_nn, v_ns, v_ni, v_nl, v_nt, v_tb, v_tl, v_tt, v_tn, v_ti, v_asB, v_asI, v_asL, v_asT, v_asS, v_lenL, v_lenT, v_tupL, v_tupT, v_listL, v_listT, v_intB, v_tup0, v_tup1, v_tup2, v_tup3, v_tup4, v_tup5, v_lst0, v_lst1, v_lst2, v_lst3, v_lst4, v_lst5, v_ok0, v_ok1, v_ok2, v_ix0L, v_ix0, v_ix1, v_ix2, v_ix3, v_fs, v_fi, v_fb, v_fn, v_ft, v_f0, v_fc, startR, List.map_cons, List.map_nil, List.length_cons, List.length_nil, List.replicate, List.cons_append, List.nil_append, List.set_cons_zero, List.set_cons_succ, Option.some.injEq, exists_eq_left', Nat.reduceAdd, Nat.reduceSub, Nat.sub_zero, Nat.sub_self, Nat.zero_add, Nat.reduceEqDiff, Bool.not_true, Bool.not_false, if_true, if_false, Bool.and_self, Bool.true_and, Bool.and_true, Bool.false_eq_true, ↓reduceIte, true_and, and_true, decide_true, decide_false, wipeR]
    refine k_seq (k_set ?_)
    simp only [ok_V0, ok_Vs, ok_K, ok_B, ok_U, ok_nil, ok_cons, ok_N, ok_aN, ok_call, ok_nl, ok_fl, ok_afl, ok_T, ok_qNot, ok_qAnd, ok_qOr, ok_and, ok_or, ok_not, ok_if, ok_Sl, ok_oNo, ok_oOf, ok_Ch, ok_it, ok_itA, ok_yes, v_addI, v_sub, v_neg, v_eqI, v_eqS, v_eqB, v_eq0, v_eqT0, v_neI, v_neS, v_neB, v_ne0, v_neT0, v_ltI, v_leI, v_gtI, v_geI, v_is, v_isNot, v_nn, v_ns, v_ni, v_nl, v_nt, v_tb, v_tl, v_tt, v_tn, v_ti, v_asB, v_asI, v_asL, v_asT, v_asS, v_lenL, v_lenT, v_tupL, v_tupT, v_listL, v_listT, v_intB, v_tup0, v_tup1, v_tup2, v_tup3, v_tup4, v_tup5, v_lst0, v_lst1, v_lst2, v_lst3, v_lst4, v_lst5, v_ok0, v_ok1, v_ok2, v_ix0L, v_ix0, v_ix1, v_ix2, v_ix3, v_fs, v_fi, v_fb, v_fn, v_ft, v_f0, v_fc, startR, List.map_cons, List.map_nil, List.length_cons, List.length_nil, List.replicate, List.cons_append, List.nil_append, List.set_cons_zero, List.set_cons_succ, Option.some.injEq, exists_eq_left', Nat.reduceAdd, Nat.reduceSub, Nat.sub_zero, Nat.sub_self, Nat.zero_add, Nat.reduceEqDiff, Bool.not_true, Bool.not_false, if_true, if_false, Bool.and_self, Bool.true_and, Bool.and_true, Bool.false_eq_true, ↓reduceIte, true_and, and_true, decide_true, decide_false, wipeR]
    refine k_draw9 (by omega) (by omega) fun way s10 w0 w1 => ?_
    refine k_seq (Ok.imp (Q := fun rs _ => ∃ (h g : Fo) (o11 o15 : Option D), Good h K ∧ Kn g ∧ rs = .nx [none, some (hnd 0), some (.int (0 + (j : Int))), some (.int (a : Nat)), some (.int (b : Nat)), some (.int (c : Nat)), some (vcD ns ks es), some (.tuple (ns.map .str)), some (.str x), some (.str y), some K.d, o11, some g.d, some h.d, some (.int way), o15, o16, o17]) ?_ ?_)
    · refine k_sIf ?_
      simp only [ok_V0, ok_Vs, ok_K, ok_B, ok_U, ok_nil, ok_cons, ok_N, ok_aN, ok_call, ok_nl, ok_fl, ok_afl, ok_T, ok_qNot, ok_qAnd, ok_qOr, ok_and, ok_or, ok_not, ok_if, ok_Sl, ok_oNo, ok_oOf, ok_Ch, ok_it, ok_itA, ok_yes, v_addI, v_sub, v_neg, v_eqI, v_eqS, v_eqB, v_eq0, v_eqT0, v_neI, v_neS, v_neB, v_ne0, v_neT0, v_ltI, v_leI, v_gtI, v_geI, v_is, v_isNot, v_nn, v_ns, v_ni, v_nl, v_nt, v_tb, v_tl, v_tt, v_tn, v_ti, v_asB, v_asI, v_asL, v_asT, v_asS, v_lenL, v_lenT, v_tupL, v_tupT, v_listL, v_listT, v_intB, v_tup0, v_tup1, v_tup2, v_tup3, v_tup4, v_tup5, v_lst0, v_lst1, v_lst2, v_lst3, v_lst4, v_lst5, v_ok0, v_ok1, v_ok2, v_ix0L, v_ix0, v_ix1, v_ix2, v_ix3, v_fs, v_fi, v_fb, v_fn, v_ft, v_f0, v_fc, startR, List.map_cons, List.map_nil, List.length_cons, List.length_nil, List.replicate, List.cons_append, List.nil_append, List.set_cons_zero, List.set_cons_succ, Option.some.injEq, exists_eq_left', Nat.reduceAdd, Nat.reduceSub, Nat.sub_zero, Nat.sub_self, Nat.zero_add, Nat.reduceEqDiff, Bool.not_true, Bool.not_false, if_true, if_false, Bool.and_self, Bool.true_and, Bool.and_true, Bool.false_eq_true, ↓reduceIte, true_and, and_true, decide_true, decide_false, wipeR]
      by_cases e1 : way = 1
      · simp only [e1, ok_V0, ok_Vs, ok_K, ok_B, ok_U, ok_nil, ok_cons, ok_N, ok_aN, ok_call, ok_nl, ok_fl, ok_afl, ok_T, ok_qNot, ok_qAnd, ok_qOr, ok_and, ok_or, ok_not, ok_if, ok_Sl, ok_oNo, ok_oOf, ok_Ch, ok_it, ok_itA, ok_yes, v_addI, v_sub, v_neg, v_eqI, v_eqS, v_eqB, v_eq0, v_eqT0, v_neI, v_neS, v_neB, v_ne0, v_neT0, v_ltI, v_leI, v_gtI, v_geI, v_is, v_isNot, v_nn, v_ns, v_ni, v_nl, v_nt, v_tb, v_tl, v_tt, v_tn, v_ti, v_asB, v_asI, v_asL, v_asT, v_asS, v_lenL, v_lenT, v_tupL, v_tupT, v_listL, v_listT, v_intB, v_tup0, v_tup1, v_tup2, v_tup3, v_tup4, v_tup5, v_lst0, v_lst1, v_lst2, v_lst3, v_lst4, v_lst5, v_ok0, v_ok1, v_ok2, v_ix0L, v_ix0, v_ix1, v_ix2, v_ix3, v_fs, v_fi, v_fb, v_fn, v_ft, v_f0, v_fc, startR, List.map_cons, List.map_nil, List.length_cons, List.length_nil, List.replicate, List.cons_append, List.nil_append, List.set_cons_zero, List.set_cons_succ, Option.some.injEq, exists_eq_left', Nat.reduceAdd, Nat.reduceSub, Nat.sub_zero, Nat.sub_self, Nat.zero_add, Nat.reduceEqDiff, Bool.not_true, Bool.not_false, if_true, if_false, Bool.and_self, Bool.true_and, Bool.and_true, Bool.false_eq_true, ↓reduceIte, true_and, and_true, decide_true, decide_false, wipeR]
        refine k_set ?_
        simp only [ok_V0, ok_Vs, ok_K, ok_B, ok_U, ok_nil, ok_cons, ok_N, ok_aN, ok_call, ok_nl, ok_fl, ok_afl, ok_T, ok_qNot, ok_qAnd, ok_qOr, ok_and, ok_or, ok_not, ok_if, ok_Sl, ok_oNo, ok_oOf, ok_Ch, ok_it, ok_itA, ok_yes, v_addI, v_sub, v_neg, v_eqI, v_eqS, v_eqB, v_eq0, v_eqT0, v_neI, v_neS, v_neB, v_ne0, v_neT0, v_ltI, v_leI, v_gtI, v_geI, v_is, v_isNot, v_nn, v_ns, v_ni, v_nl, v_nt, v_tb, v_tl, v_tt, v_tn, v_ti, v_asB, v_asI, v_asL, v_asT, v_asS, v_lenL, v_lenT, v_tupL, v_tupT, v_listL, v_listT, v_intB, v_tup0, v_tup1, v_tup2, v_tup3, v_tup4, v_tup5, v_lst0, v_lst1, v_lst2, v_lst3, v_lst4, v_lst5, v_ok0, v_ok1, v_ok2, v_ix0L, v_ix0, v_ix1, v_ix2, v_ix3, v_fs, v_fi, v_fb, v_fn, v_ft, v_f0, v_fc, startR, List.map_cons, List.map_nil, List.length_cons, List.length_nil, List.replicate, List.cons_append, List.nil_append, List.set_cons_zero, List.set_cons_succ, Option.some.injEq, exists_eq_left', Nat.reduceAdd, Nat.reduceSub, Nat.sub_zero, Nat.sub_self, Nat.zero_add, Nat.reduceEqDiff, Bool.not_true, Bool.not_false, if_true, if_false, Bool.and_self, Bool.true_and, Bool.and_true, Bool.false_eq_true, ↓reduceIte, true_and, and_true, decide_true, decide_false, wipeR]
        exact ⟨.same y x, g, _, _, ⟨⟨ys1, xs1⟩, fun t u e => by cases e; exact nb_of yn xn K hK.w⟩, kg, rfl⟩
      simp only [e1, ok_V0, ok_Vs, ok_K, ok_B, ok_U, ok_nil, ok_cons, ok_N, ok_aN, ok_call, ok_nl, ok_fl, ok_afl, ok_T, ok_qNot, ok_qAnd, ok_qOr, ok_and, ok_or, ok_not, ok_if, ok_Sl, ok_oNo, ok_oOf, ok_Ch, ok_it, ok_itA, ok_yes, v_addI, v_sub, v_neg, v_eqI, v_eqS, v_eqB, v_eq0, v_eqT0, v_neI, v_neS, v_neB, v_ne0, v_neT0, v_ltI, v_leI, v_gtI, v_geI, v_is, v_isNot, v_nn, v_ns, v_ni, v_nl, v_nt, v_tb, v_tl, v_tt, v_tn, v_ti, v_asB, v_asI, v_asL, v_asT, v_asS, v_lenL, v_lenT, v_tupL, v_tupT, v_listL, v_listT, v_intB, v_tup0, v_tup1, v_tup2, v_tup3, v_tup4, v_tup5, v_lst0, v_lst1, v_lst2, v_lst3, v_lst4, v_lst5, v_ok0, v_ok1, v_ok2, v_ix0L, v_ix0, v_ix1, v_ix2, v_ix3, v_fs, v_fi, v_fb, v_fn, v_ft, v_f0, v_fc, startR, List.map_cons, List.map_nil, List.length_cons, List.length_nil, List.replicate, List.cons_append, List.nil_append, List.set_cons_zero, List.set_cons_succ, Option.some.injEq, exists_eq_left', Nat.reduceAdd, Nat.reduceSub, Nat.sub_zero, Nat.sub_self, Nat.zero_add, Nat.reduceEqDiff, Bool.not_true, Bool.not_false, if_true, if_false, Bool.and_self, Bool.true_and, Bool.and_true, Bool.false_eq_true, ↓reduceIte, true_and, and_true, decide_true, decide_false, wipeR]
      refine k_sIf ?_
      simp only [ok_V0, ok_Vs, ok_K, ok_B, ok_U, ok_nil, ok_cons, ok_N, ok_aN, ok_call, ok_nl, ok_fl, ok_afl, ok_T, ok_qNot, ok_qAnd, ok_qOr, ok_and, ok_or, ok_not, ok_if, ok_Sl, ok_oNo, ok_oOf, ok_Ch, ok_it, ok_itA, ok_yes, v_addI, v_sub, v_neg, v_eqI, v_eqS, v_eqB, v_eq0, v_eqT0, v_neI, v_neS, v_neB, v_ne0, v_neT0, v_ltI, v_leI, v_gtI, v_geI, v_is, v_isNot, v_nn, v_ns, v_ni, v_nl, v_nt, v_tb, v_tl, v_tt, v_tn, v_ti, v_asB, v_asI, v_asL, v_asT, v_asS, v_lenL, v_lenT, v_tupL, v_tupT, v_listL, v_listT, v_intB, v_tup0, v_tup1, v_tup2, v_tup3, v_tup4, v_tup5, v_lst0, v_lst1, v_lst2, v_lst3, v_lst4, v_lst5, v_ok0, v_ok1, v_ok2, v_ix0L, v_ix0, v_ix1, v_ix2, v_ix3, v_fs, v_fi, v_fb, v_fn, v_ft, v_f0, v_fc, startR, List.map_cons, List.map_nil, List.length_cons, List.length_nil, List.replicate, List.cons_append, List.nil_append, List.set_cons_zero, List.set_cons_succ, Option.some.injEq, exists_eq_left', Nat.reduceAdd, Nat.reduceSub, Nat.sub_zero, Nat.sub_self, Nat.zero_add, Nat.reduceEqDiff, Bool.not_true, Bool.not_false, if_true, if_false, Bool.and_self, Bool.true_and, Bool.and_true, Bool.false_eq_true, ↓reduceIte, true_and, and_true, decide_true, decide_false, wipeR]
      by_cases e2 : way = 2
      · simp only [e2, ok_V0, ok_Vs, ok_K, ok_B, ok_U, ok_nil, ok_cons, ok_N, ok_aN, ok_call, ok_nl, ok_fl, ok_afl, ok_T, ok_qNot, ok_qAnd, ok_qOr, ok_and, ok_or, ok_not, ok_if, ok_Sl, ok_oNo, ok_oOf, ok_Ch, ok_it, ok_itA, ok_yes, v_addI, v_sub, v_neg, v_eqI, v_eqS, v_eqB, v_eq0, v_eqT0, v_neI, v_neS, v_neB, v_ne0, v_neT0, v_ltI, v_leI, v_gtI, v_geI, v_is, v_isNot, v_nn, v_ns, v_ni, v_nl, v_nt, v_tb, v_tl, v_tt, v_tn, v_ti, v_asB, v_asI, v_asL, v_asT, v_asS, v_lenL, v_lenT, v_tupL, v_tupT, v_listL, v_listT, v_intB, v_tup0, v_tup1, v_tup2, v_tup3, v_tup4, v_tup5, v_lst0, v_lst1, v_lst2, v_lst3, v_lst4, v_lst5, v_ok0, v_ok1, v_ok2, v_ix0L, v_ix0, v_ix1, v_ix2, v_ix3, v_fs, v_fi, v_fb, v_fn, v_ft, v_f0, v_fc, startR, List.map_cons, List.map_nil, List.length_cons, List.length_nil, List.replicate, List.cons_append, List.nil_append, List.set_cons_zero, List.set_cons_succ, Option.some.injEq, exists_eq_left', Nat.reduceAdd, Nat.reduceSub, Nat.sub_zero, Nat.sub_self, Nat.zero_add, Nat.reduceEqDiff, Bool.not_true, Bool.not_false, if_true, if_false, Bool.and_self, Bool.true_and, Bool.and_true, Bool.false_eq_true, ↓reduceIte, true_and, and_true, decide_true, decide_false, wipeR]
        refine k_seq (k_set ?_)
        simp only [ok_V0, ok_Vs, ok_K, ok_B, ok_U, ok_nil, ok_cons, ok_N, ok_aN, ok_call, ok_nl, ok_fl, ok_afl, ok_T, ok_qNot, ok_qAnd, ok_qOr, ok_and, ok_or, ok_not, ok_if, ok_Sl, ok_oNo, ok_oOf, ok_Ch, ok_it, ok_itA, ok_yes, v_addI, v_sub, v_neg, v_eqI, v_eqS, v_eqB, v_eq0, v_eqT0, v_neI, v_neS, v_neB, v_ne0, v_neT0, v_ltI, v_leI, v_gtI, v_geI, v_is, v_isNot, v_nn, v_ns, v_ni, v_nl, v_nt, v_tb, v_tl, v_tt, v_tn, v_ti, v_asB, v_asI, v_asL, v_asT, v_asS, v_lenL, v_lenT, v_tupL, v_tupT, v_listL, v_listT, v_intB, v_tup0, v_tup1, v_tup2, v_tup3, v_tup4, v_tup5, v_lst0, v_lst1, v_lst2, v_lst3, v_lst4, v_lst5, v_ok0, v_ok1, v_ok2, v_ix0L, v_ix0, v_ix1, v_ix2, v_ix3, v_fs, v_fi, v_fb, v_fn, v_ft, v_f0, v_fc, startR, List.map_cons, List.map_nil, List.length_cons, List.length_nil, List.replicate, List.cons_append, List.nil_append, List.set_cons_zero, List.set_cons_succ, Option.some.injEq, exists_eq_left', Nat.reduceAdd, Nat.reduceSub, Nat.sub_zero, Nat.sub_self, Nat.zero_add, Nat.reduceEqDiff, Bool.not_true, Bool.not_false, if_true, if_false, Bool.and_self, Bool.true_and, Bool.and_true, Bool.false_eq_true, ↓reduceIte, true_and, and_true, decide_true, decide_false, wipeR, List.length_map]
        refine k_draw9 (by omega) (by omega) fun r s11 r0 r1 => ?_
        obtain ⟨z, hz, ez⟩ := pick9T (xs := ns) r0 (by omega)
        refine ⟨_, ez, ?_⟩
        have zs1 := (v.n z hz).sok
        refine k_seq (k_set ?_)
        simp only [ok_V0, ok_Vs, ok_K, ok_B, ok_U, ok_nil, ok_cons, ok_N, ok_aN, ok_call, ok_nl, ok_fl, ok_afl, ok_T, ok_qNot, ok_qAnd, ok_qOr, ok_and, ok_or, ok_not, ok_if, ok_Sl, ok_oNo, ok_oOf, ok_Ch, ok_it, ok_itA, ok_yes, v_addI, v_sub, v_neg, v_eqI, v_eqS, v_eqB, v_eq0, v_eqT0, v_neI, v_neS, v_neB, v_ne0, v_neT0, v_ltI, v_leI, v_gtI, v_geI, v_is, v_isNot, v_nn, v_ns, v_ni, v_nl, v_nt, v_tb, v_tl, v_tt, v_tn, v_ti, v_asB, v_asI, v_asL, v_asT, v_asS, v_lenL, v_lenT, v_tupL, v_tupT, v_listL, v_listT, v_intB, v_tup0, v_tup1, v_tup2, v_tup3, v_tup4, v_tup5, v_lst0, v_lst1, v_lst2, v_lst3, v_lst4, v_lst5, v_ok0, v_ok1, v_ok2, v_ix0L, v_ix0, v_ix1, v_ix2, v_ix3, v_fs, v_fi, v_fb, v_fn, v_ft, v_f0, v_fc, startR, List.map_cons, List.map_nil, List.length_cons, List.length_nil, List.replicate, List.cons_append, List.nil_append, List.set_cons_zero, List.set_cons_succ, Option.some.injEq, exists_eq_left', Nat.reduceAdd, Nat.reduceSub, Nat.sub_zero, Nat.sub_self, Nat.zero_add, Nat.reduceEqDiff, Bool.not_true, Bool.not_false, if_true, if_false, Bool.and_self, Bool.true_and, Bool.and_true, Bool.false_eq_true, ↓reduceIte, true_and, and_true, decide_true, decide_false, wipeR]
        refine ⟨_, _, var kg zs1, ?_⟩
        have l2 := vlen y z kg
        refine k_set ?_
        simp only [ok_V0, ok_Vs, ok_K, ok_B, ok_U, ok_nil, ok_cons, ok_N, ok_aN, ok_call, ok_nl, ok_fl, ok_afl, ok_T, ok_qNot, ok_qAnd, ok_qOr, ok_and, ok_or, ok_not, ok_if, ok_Sl, ok_oNo, ok_oOf, ok_Ch, ok_it, ok_itA, ok_yes, v_addI, v_sub, v_neg, v_eqI, v_eqS, v_eqB, v_eq0, v_eqT0, v_neI, v_neS, v_neB, v_ne0, v_neT0, v_ltI, v_leI, v_gtI, v_geI, v_is, v_isNot, v_nn, v_ns, v_ni, v_nl, v_nt, v_tb, v_tl, v_tt, v_tn, v_ti, v_asB, v_asI, v_asL, v_asT, v_asS, v_lenL, v_lenT, v_tupL, v_tupT, v_listL, v_listT, v_intB, v_tup0, v_tup1, v_tup2, v_tup3, v_tup4, v_tup5, v_lst0, v_lst1, v_lst2, v_lst3, v_lst4, v_lst5, v_ok0, v_ok1, v_ok2, v_ix0L, v_ix0, v_ix1, v_ix2, v_ix3, v_fs, v_fi, v_fb, v_fn, v_ft, v_f0, v_fc, startR, List.map_cons, List.map_nil, List.length_cons, List.length_nil, List.replicate, List.cons_append, List.nil_append, List.set_cons_zero, List.set_cons_succ, Option.some.injEq, exists_eq_left', Nat.reduceAdd, Nat.reduceSub, Nat.sub_zero, Nat.sub_self, Nat.zero_add, Nat.reduceEqDiff, Bool.not_true, Bool.not_false, if_true, if_false, Bool.and_self, Bool.true_and, Bool.and_true, Bool.false_eq_true, ↓reduceIte, true_and, and_true, decide_true, decide_false, wipeR, List.length_map]
        refine k_draw9 (by omega) (by omega) fun r s12 r0 r1 => ?_
        obtain ⟨g2, hg2, eg2⟩ := pickF (xs := V y z g) r0 (by omega)
        exact ⟨_, eg2, .same x y, g2, _, _, good0, kn_mem kg zs1 hg2, rfl⟩
      simp only [e2, ok_V0, ok_Vs, ok_K, ok_B, ok_U, ok_nil, ok_cons, ok_N, ok_aN, ok_call, ok_nl, ok_fl, ok_afl, ok_T, ok_qNot, ok_qAnd, ok_qOr, ok_and, ok_or, ok_not, ok_if, ok_Sl, ok_oNo, ok_oOf, ok_Ch, ok_it, ok_itA, ok_yes, v_addI, v_sub, v_neg, v_eqI, v_eqS, v_eqB, v_eq0, v_eqT0, v_neI, v_neS, v_neB, v_ne0, v_neT0, v_ltI, v_leI, v_gtI, v_geI, v_is, v_isNot, v_nn, v_ns, v_ni, v_nl, v_nt, v_tb, v_tl, v_tt, v_tn, v_ti, v_asB, v_asI, v_asL, v_asT, v_asS, v_lenL, v_lenT, v_tupL, v_tupT, v_listL, v_listT, v_intB, v_tup0, v_tup1, v_tup2, v_tup3, v_tup4, v_tup5, v_lst0, v_lst1, v_lst2, v_lst3, v_lst4, v_lst5, v_ok0, v_ok1, v_ok2, v_ix0L, v_ix0, v_ix1, v_ix2, v_ix3, v_fs, v_fi, v_fb, v_fn, v_ft, v_f0, v_fc, startR, List.map_cons, List.map_nil, List.length_cons, List.length_nil, List.replicate, List.cons_append, List.nil_append, List.set_cons_zero, List.set_cons_succ, Option.some.injEq, exists_eq_left', Nat.reduceAdd, Nat.reduceSub, Nat.sub_zero, Nat.sub_self, Nat.zero_add, Nat.reduceEqDiff, Bool.not_true, Bool.not_false, if_true, if_false, Bool.and_self, Bool.true_and, Bool.and_true, Bool.false_eq_true, ↓reduceIte, true_and, and_true, decide_true, decide_false, wipeR]
      refine k_sIf ?_
      simp only [ok_V0, ok_Vs, ok_K, ok_B, ok_U, ok_nil, ok_cons, ok_N, ok_aN, ok_call, ok_nl, ok_fl, ok_afl, ok_T, ok_qNot, ok_qAnd, ok_qOr, ok_and, ok_or, ok_not, ok_if, ok_Sl, ok_oNo, ok_oOf, ok_Ch, ok_it, ok_itA, ok_yes, v_addI, v_sub, v_neg, v_eqI, v_eqS, v_eqB, v_eq0, v_eqT0, v_neI, v_neS, v_neB, v_ne0, v_neT0, v_ltI, v_leI, v_gtI, v_geI, v_is, v_isNot, v_nn, v_ns, v_ni, v_nl, v_nt, v_tb, v_tl, v_tt, v_tn, v_ti, v_asB, v_asI, v_asL, v_asT, v_asS, v_lenL, v_lenT, v_tupL, v_tupT, v_listL, v_listT, v_intB, v_tup0, v_tup1, v_tup2, v_tup3, v_tup4, v_tup5, v_lst0, v_lst1, v_lst2, v_lst3, v_lst4, v_lst5, v_ok0, v_ok1, v_ok2, v_ix0L, v_ix0, v_ix1, v_ix2, v_ix3, v_fs, v_fi, v_fb, v_fn, v_ft, v_f0, v_fc, startR, List.map_cons, List.map_nil, List.length_cons, List.length_nil, List.replicate, List.cons_append, List.nil_append, List.set_cons_zero, List.set_cons_succ, Option.some.injEq, exists_eq_left', Nat.reduceAdd, Nat.reduceSub, Nat.sub_zero, Nat.sub_self, Nat.zero_add, Nat.reduceEqDiff, Bool.not_true, Bool.not_false, if_true, if_false, Bool.and_self, Bool.true_and, Bool.and_true, Bool.false_eq_true, ↓reduceIte, true_and, and_true, decide_true, decide_false, wipeR]
      by_cases e3 : way = 3
      · simp only [e3, ok_V0, ok_Vs, ok_K, ok_B, ok_U, ok_nil, ok_cons, ok_N, ok_aN, ok_call, ok_nl, ok_fl, ok_afl, ok_T, ok_qNot, ok_qAnd, ok_qOr, ok_and, ok_or, ok_not, ok_if, ok_Sl, ok_oNo, ok_oOf, ok_Ch, ok_it, ok_itA, ok_yes, v_addI, v_sub, v_neg, v_eqI, v_eqS, v_eqB, v_eq0, v_eqT0, v_neI, v_neS, v_neB, v_ne0, v_neT0, v_ltI, v_leI, v_gtI, v_geI, v_is, v_isNot, v_nn, v_ns, v_ni, v_nl, v_nt, v_tb, v_tl, v_tt, v_tn, v_ti, v_asB, v_asI, v_asL, v_asT, v_asS, v_lenL, v_lenT, v_tupL, v_tupT, v_listL, v_listT, v_intB, v_tup0, v_tup1, v_tup2, v_tup3, v_tup4, v_tup5, v_lst0, v_lst1, v_lst2, v_lst3, v_lst4, v_lst5, v_ok0, v_ok1, v_ok2, v_ix0L, v_ix0, v_ix1, v_ix2, v_ix3, v_fs, v_fi, v_fb, v_fn, v_ft, v_f0, v_fc, startR, List.map_cons, List.map_nil, List.length_cons, List.length_nil, List.replicate, List.cons_append, List.nil_append, List.set_cons_zero, List.set_cons_succ, Option.some.injEq, exists_eq_left', Nat.reduceAdd, Nat.reduceSub, Nat.sub_zero, Nat.sub_self, Nat.zero_add, Nat.reduceEqDiff, Bool.not_true, Bool.not_false, if_true, if_false, Bool.and_self, Bool.true_and, Bool.and_true, Bool.false_eq_true, ↓reduceIte, true_and, and_true, decide_true, decide_false, wipeR]
        refine k_set ?_
        simp only [ok_V0, ok_Vs, ok_K, ok_B, ok_U, ok_nil, ok_cons, ok_N, ok_aN, ok_call, ok_nl, ok_fl, ok_afl, ok_T, ok_qNot, ok_qAnd, ok_qOr, ok_and, ok_or, ok_not, ok_if, ok_Sl, ok_oNo, ok_oOf, ok_Ch, ok_it, ok_itA, ok_yes, v_addI, v_sub, v_neg, v_eqI, v_eqS, v_eqB, v_eq0, v_eqT0, v_neI, v_neS, v_neB, v_ne0, v_neT0, v_ltI, v_leI, v_gtI, v_geI, v_is, v_isNot, v_nn, v_ns, v_ni, v_nl, v_nt, v_tb, v_tl, v_tt, v_tn, v_ti, v_asB, v_asI, v_asL, v_asT, v_asS, v_lenL, v_lenT, v_tupL, v_tupT, v_listL, v_listT, v_intB, v_tup0, v_tup1, v_tup2, v_tup3, v_tup4, v_tup5, v_lst0, v_lst1, v_lst2, v_lst3, v_lst4, v_lst5, v_ok0, v_ok1, v_ok2, v_ix0L, v_ix0, v_ix1, v_ix2, v_ix3, v_fs, v_fi, v_fb, v_fn, v_ft, v_f0, v_fc, startR, List.map_cons, List.map_nil, List.length_cons, List.length_nil, List.replicate, List.cons_append, List.nil_append, List.set_cons_zero, List.set_cons_succ, Option.some.injEq, exists_eq_left', Nat.reduceAdd, Nat.reduceSub, Nat.sub_zero, Nat.sub_self, Nat.zero_add, Nat.reduceEqDiff, Bool.not_true, Bool.not_false, if_true, if_false, Bool.and_self, Bool.true_and, Bool.and_true, Bool.false_eq_true, ↓reduceIte, true_and, and_true, decide_true, decide_false, wipeR]
        refine ok_form v 4 2 [] _ _ (by decide) (by simp) (by simp) fun f2 s11 hf2 hd2 => ?_
        exact ⟨.same x y, f2, _, _, good0, kn_of hf2 hd2, rfl⟩
      simp only [e3, ok_V0, ok_Vs, ok_K, ok_B, ok_U, ok_nil, ok_cons, ok_N, ok_aN, ok_call, ok_nl, ok_fl, ok_afl, ok_T, ok_qNot, ok_qAnd, ok_qOr, ok_and, ok_or, ok_not, ok_if, ok_Sl, ok_oNo, ok_oOf, ok_Ch, ok_it, ok_itA, ok_yes, v_addI, v_sub, v_neg, v_eqI, v_eqS, v_eqB, v_eq0, v_eqT0, v_neI, v_neS, v_neB, v_ne0, v_neT0, v_ltI, v_leI, v_gtI, v_geI, v_is, v_isNot, v_nn, v_ns, v_ni, v_nl, v_nt, v_tb, v_tl, v_tt, v_tn, v_ti, v_asB, v_asI, v_asL, v_asT, v_asS, v_lenL, v_lenT, v_tupL, v_tupT, v_listL, v_listT, v_intB, v_tup0, v_tup1, v_tup2, v_tup3, v_tup4, v_tup5, v_lst0, v_lst1, v_lst2, v_lst3, v_lst4, v_lst5, v_ok0, v_ok1, v_ok2, v_ix0L, v_ix0, v_ix1, v_ix2, v_ix3, v_fs, v_fi, v_fb, v_fn, v_ft, v_f0, v_fc, startR, List.map_cons, List.map_nil, List.length_cons, List.length_nil, List.replicate, List.cons_append, List.nil_append, List.set_cons_zero, List.set_cons_succ, Option.some.injEq, exists_eq_left', Nat.reduceAdd, Nat.reduceSub, Nat.sub_zero, Nat.sub_self, Nat.zero_add, Nat.reduceEqDiff, Bool.not_true, Bool.not_false, if_true, if_false, Bool.and_self, Bool.true_and, Bool.and_true, Bool.false_eq_true, ↓reduceIte, true_and, and_true, decide_true, decide_false, wipeR]
      refine k_sIf ?_
      simp only [ok_V0, ok_Vs, ok_K, ok_B, ok_U, ok_nil, ok_cons, ok_N, ok_aN, ok_call, ok_nl, ok_fl, ok_afl, ok_T, ok_qNot, ok_qAnd, ok_qOr, ok_and, ok_or, ok_not, ok_if, ok_Sl, ok_oNo, ok_oOf, ok_Ch, ok_it, ok_itA, ok_yes, v_addI, v_sub, v_neg, v_eqI, v_eqS, v_eqB, v_eq0, v_eqT0, v_neI, v_neS, v_neB, v_ne0, v_neT0, v_ltI, v_leI, v_gtI, v_geI, v_is, v_isNot, v_nn, v_ns, v_ni, v_nl, v_nt, v_tb, v_tl, v_tt, v_tn, v_ti, v_asB, v_asI, v_asL, v_asT, v_asS, v_lenL, v_lenT, v_tupL, v_tupT, v_listL, v_listT, v_intB, v_tup0, v_tup1, v_tup2, v_tup3, v_tup4, v_tup5, v_lst0, v_lst1, v_lst2, v_lst3, v_lst4, v_lst5, v_ok0, v_ok1, v_ok2, v_ix0L, v_ix0, v_ix1, v_ix2, v_ix3, v_fs, v_fi, v_fb, v_fn, v_ft, v_f0, v_fc, startR, List.map_cons, List.map_nil, List.length_cons, List.length_nil, List.replicate, List.cons_append, List.nil_append, List.set_cons_zero, List.set_cons_succ, Option.some.injEq, exists_eq_left', Nat.reduceAdd, Nat.reduceSub, Nat.sub_zero, Nat.sub_self, Nat.zero_add, Nat.reduceEqDiff, Bool.not_true, Bool.not_false, if_true, if_false, Bool.and_self, Bool.true_and, Bool.and_true, Bool.false_eq_true, ↓reduceIte, true_and, and_true, decide_true, decide_false, wipeR]
      by_cases e4 : way = 4
      · simp only [e4, ok_V0, ok_Vs, ok_K, ok_B, ok_U, ok_nil, ok_cons, ok_N, ok_aN, ok_call, ok_nl, ok_fl, ok_afl, ok_T, ok_qNot, ok_qAnd, ok_qOr, ok_and, ok_or, ok_not, ok_if, ok_Sl, ok_oNo, ok_oOf, ok_Ch, ok_it, ok_itA, ok_yes, v_addI, v_sub, v_neg, v_eqI, v_eqS, v_eqB, v_eq0, v_eqT0, v_neI, v_neS, v_neB, v_ne0, v_neT0, v_ltI, v_leI, v_gtI, v_geI, v_is, v_isNot, v_nn, v_ns, v_ni, v_nl, v_nt, v_tb, v_tl, v_tt, v_tn, v_ti, v_asB, v_asI, v_asL, v_asT, v_asS, v_lenL, v_lenT, v_tupL, v_tupT, v_listL, v_listT, v_intB, v_tup0, v_tup1, v_tup2, v_tup3, v_tup4, v_tup5, v_lst0, v_lst1, v_lst2, v_lst3, v_lst4, v_lst5, v_ok0, v_ok1, v_ok2, v_ix0L, v_ix0, v_ix1, v_ix2, v_ix3, v_fs, v_fi, v_fb, v_fn, v_ft, v_f0, v_fc, startR, List.map_cons, List.map_nil, List.length_cons, List.length_nil, List.replicate, List.cons_append, List.nil_append, List.set_cons_zero, List.set_cons_succ, Option.some.injEq, exists_eq_left', Nat.reduceAdd, Nat.reduceSub, Nat.sub_zero, Nat.sub_self, Nat.zero_add, Nat.reduceEqDiff, Bool.not_true, Bool.not_false, if_true, if_false, Bool.and_self, Bool.true_and, Bool.and_true, Bool.false_eq_true, ↓reduceIte, true_and, and_true, decide_true, decide_false, wipeR]
        refine k_set ?_
        obtain ⟨kk, hkk, ekk⟩ := pick9T (xs := ks) (r := 0) (by omega) (by omega)
        simp only [ok_V0, ok_Vs, ok_K, ok_B, ok_U, ok_nil, ok_cons, ok_N, ok_aN, ok_call, ok_nl, ok_fl, ok_afl, ok_T, ok_qNot, ok_qAnd, ok_qOr, ok_and, ok_or, ok_not, ok_if, ok_Sl, ok_oNo, ok_oOf, ok_Ch, ok_it, ok_itA, ok_yes, v_addI, v_sub, v_neg, v_eqI, v_eqS, v_eqB, v_eq0, v_eqT0, v_neI, v_neS, v_neB, v_ne0, v_neT0, v_ltI, v_leI, v_gtI, v_geI, v_is, v_isNot, v_nn, v_ns, v_ni, v_nl, v_nt, v_tb, v_tl, v_tt, v_tn, v_ti, v_asB, v_asI, v_asL, v_asT, v_asS, v_lenL, v_lenT, v_tupL, v_tupT, v_listL, v_listT, v_intB, v_tup0, v_tup1, v_tup2, v_tup3, v_tup4, v_tup5, v_lst0, v_lst1, v_lst2, v_lst3, v_lst4, v_lst5, v_ok0, v_ok1, v_ok2, v_ix0L, v_ix0, v_ix1, v_ix2, v_ix3, v_fs, v_fi, v_fb, v_fn, v_ft, v_f0, v_fc, startR, List.map_cons, List.map_nil, List.length_cons, List.length_nil, List.replicate, List.cons_append, List.nil_append, List.set_cons_zero, List.set_cons_succ, Option.some.injEq, exists_eq_left', Nat.reduceAdd, Nat.reduceSub, Nat.sub_zero, Nat.sub_self, Nat.zero_add, Nat.reduceEqDiff, Bool.not_true, Bool.not_false, if_true, if_false, Bool.and_self, Bool.true_and, Bool.and_true, Bool.false_eq_true, ↓reduceIte, true_and, and_true, decide_true, decide_false, wipeR, vk]
        refine ⟨_, ekk, ?_⟩
        refine k_draw9 (by omega) (by omega) fun r s11 r0 r1 => ?_
        obtain ⟨h, eh, hc⟩ := pick3 (a := K.d) (b := (Fo.no (.same x y)).d) (c := (Fo.is x kk).d) r0 r1
        refine ⟨_, eh, ?_⟩
        rcases hc with rfl | rfl | rfl
        · refine ⟨K, g, _, _, ⟨hK.w, fun t u e => ?_⟩, kg, rfl⟩
          rw [e]
          trivial
        · exact ⟨.no (.same x y), g, _, _, ⟨⟨xs1, ys1⟩, fun t u e => by cases e⟩, kg, rfl⟩
        · exact ⟨.is x kk, g, _, _, ⟨⟨xs1, (v.k kk hkk).sok⟩, fun t u e => by cases e⟩, kg, rfl⟩
      · simp only [e4, ok_V0, ok_Vs, ok_K, ok_B, ok_U, ok_nil, ok_cons, ok_N, ok_aN, ok_call, ok_nl, ok_fl, ok_afl, ok_T, ok_qNot, ok_qAnd, ok_qOr, ok_and, ok_or, ok_not, ok_if, ok_Sl, ok_oNo, ok_oOf, ok_Ch, ok_it, ok_itA, ok_yes, v_addI, v_sub, v_neg, v_eqI, v_eqS, v_eqB, v_eq0, v_eqT0, v_neI, v_neS, v_neB, v_ne0, v_neT0, v_ltI, v_leI, v_gtI, v_geI, v_is, v_isNot, v_nn, v_ns, v_ni, v_nl, v_nt, v_tb, v_tl, v_tt, v_tn, v_ti, v_asB, v_asI, v_asL, v_asT, v_asS, v_lenL, v_lenT, v_tupL, v_tupT, v_listL, v_listT, v_intB, v_tup0, v_tup1, v_tup2, v_tup3, v_tup4, v_tup5, v_lst0, v_lst1, v_lst2, v_lst3, v_lst4, v_lst5, v_ok0, v_ok1, v_ok2, v_ix0L, v_ix0, v_ix1, v_ix2, v_ix3, v_fs, v_fi, v_fb, v_fn, v_ft, v_f0, v_fc, startR, List.map_cons, List.map_nil, List.length_cons, List.length_nil, List.replicate, List.cons_append, List.nil_append, List.set_cons_zero, List.set_cons_succ, Option.some.injEq, exists_eq_left', Nat.reduceAdd, Nat.reduceSub, Nat.sub_zero, Nat.sub_self, Nat.zero_add, Nat.reduceEqDiff, Bool.not_true, Bool.not_false, if_true, if_false, Bool.and_self, Bool.true_and, Bool.and_true, Bool.false_eq_true, ↓reduceIte, true_and, and_true, decide_true, decide_false, wipeR]
        exact k_nx ⟨.same x y, g, _, _, good0, kg, rfl⟩
    · rintro rs s11 ⟨h, g2, o11, o15, hh, kg2, rfl⟩
      refine k_seq (k_set ?_)
      simp only [ok_V0, ok_Vs, ok_K, ok_B, ok_U, ok_nil, ok_cons, ok_N, ok_aN, ok_call, ok_nl, ok_fl, ok_afl, ok_T, ok_qNot, ok_qAnd, ok_qOr, ok_and, ok_or, ok_not, ok_if, ok_Sl, ok_oNo, ok_oOf, ok_Ch, ok_it, ok_itA, ok_yes, v_addI, v_sub, v_neg, v_eqI, v_eqS, v_eqB, v_eq0, v_eqT0, v_neI, v_neS, v_neB, v_ne0, v_neT0, v_ltI, v_leI, v_gtI, v_geI, v_is, v_isNot, v_nn, v_ns, v_ni, v_nl, v_nt, v_tb, v_tl, v_tt, v_tn, v_ti, v_asB, v_asI, v_asL, v_asT, v_asS, v_lenL, v_lenT, v_tupL, v_tupT, v_listL, v_listT, v_intB, v_tup0, v_tup1, v_tup2, v_tup3, v_tup4, v_tup5, v_lst0, v_lst1, v_lst2, v_lst3, v_lst4, v_lst5, v_ok0, v_ok1, v_ok2, v_ix0L, v_ix0, v_ix1, v_ix2, v_ix3, v_fs, v_fi, v_fb, v_fn, v_ft, v_f0, v_fc, startR, List.map_cons, List.map_nil, List.length_cons, List.length_nil, List.replicate, List.cons_append, List.nil_append, List.set_cons_zero, List.set_cons_succ, Option.some.injEq, exists_eq_left', Nat.reduceAdd, Nat.reduceSub, Nat.sub_zero, Nat.sub_self, Nat.zero_add, Nat.reduceEqDiff, Bool.not_true, Bool.not_false, if_true, if_false, Bool.and_self, Bool.true_and, Bool.and_true, Bool.false_eq_true, ↓reduceIte, true_and, and_true, decide_true, decide_false, wipeR]
      refine k_seq (Ok.imp (Q := fun rs s' => s' = s11 ∧ rs = .nx [none, some (hnd 0), some (.int (0 + (j : Int))), some (.int (a : Nat)), some (.int (b : Nat)), some (.int (c : Nat)), some (vcD ns ks es), some (.tuple (ns.map .str)), some (.str x), some (.str y), some K.d, o11, some g2.d, some h.d, some (.int way), o15, some (.bool (dueB h K g2)), o17]) ?_ ?_)
      · refine k_sIf ?_
        simp only [ok_V0, ok_Vs, ok_K, ok_B, ok_U, ok_nil, ok_cons, ok_N, ok_aN, ok_call, ok_nl, ok_fl, ok_afl, ok_T, ok_qNot, ok_qAnd, ok_qOr, ok_and, ok_or, ok_not, ok_if, ok_Sl, ok_oNo, ok_oOf, ok_Ch, ok_it, ok_itA, ok_yes, v_addI, v_sub, v_neg, v_eqI, v_eqS, v_eqB, v_eq0, v_eqT0, v_neI, v_neS, v_neB, v_ne0, v_neT0, v_ltI, v_leI, v_gtI, v_geI, v_is, v_isNot, v_nn, v_ns, v_ni, v_nl, v_nt, v_tb, v_tl, v_tt, v_tn, v_ti, v_asB, v_asI, v_asL, v_asT, v_asS, v_lenL, v_lenT, v_tupL, v_tupT, v_listL, v_listT, v_intB, v_tup0, v_tup1, v_tup2, v_tup3, v_tup4, v_tup5, v_lst0, v_lst1, v_lst2, v_lst3, v_lst4, v_lst5, v_ok0, v_ok1, v_ok2, v_ix0L, v_ix0, v_ix1, v_ix2, v_ix3, v_fs, v_fi, v_fb, v_fn, v_ft, v_f0, v_fc, startR, List.map_cons, List.map_nil, List.length_cons, List.length_nil, List.replicate, List.cons_append, List.nil_append, List.set_cons_zero, List.set_cons_succ, Option.some.injEq, exists_eq_left', Nat.reduceAdd, Nat.reduceSub, Nat.sub_zero, Nat.sub_self, Nat.zero_add, Nat.reduceEqDiff, Bool.not_true, Bool.not_false, if_true, if_false, Bool.and_self, Bool.true_and, Bool.and_true, Bool.false_eq_true, ↓reduceIte, true_and, and_true, decide_true, decide_false, wipeR, head9, h_sm]
        cases h with
        | same t u =>
          simp only [isSm, ok_V0, ok_Vs, ok_K, ok_B, ok_U, ok_nil, ok_cons, ok_N, ok_aN, ok_call, ok_nl, ok_fl, ok_afl, ok_T, ok_qNot, ok_qAnd, ok_qOr, ok_and, ok_or, ok_not, ok_if, ok_Sl, ok_oNo, ok_oOf, ok_Ch, ok_it, ok_itA, ok_yes, v_addI, v_sub, v_neg, v_eqI, v_eqS, v_eqB, v_eq0, v_eqT0, v_neI, v_neS, v_neB, v_ne0, v_neT0, v_ltI, v_leI, v_gtI, v_geI, v_is, v_isNot, v_nn, v_ns, v_ni, v_nl, v_nt, v_tb, v_tl, v_tt, v_tn, v_ti, v_asB, v_asI, v_asL, v_asT, v_asS, v_lenL, v_lenT, v_tupL, v_tupT, v_listL, v_listT, v_intB, v_tup0, v_tup1, v_tup2, v_tup3, v_tup4, v_tup5, v_lst0, v_lst1, v_lst2, v_lst3, v_lst4, v_lst5, v_ok0, v_ok1, v_ok2, v_ix0L, v_ix0, v_ix1, v_ix2, v_ix3, v_fs, v_fi, v_fb, v_fn, v_ft, v_f0, v_fc, startR, List.map_cons, List.map_nil, List.length_cons, List.length_nil, List.replicate, List.cons_append, List.nil_append, List.set_cons_zero, List.set_cons_succ, Option.some.injEq, exists_eq_left', Nat.reduceAdd, Nat.reduceSub, Nat.sub_zero, Nat.sub_self, Nat.zero_add, Nat.reduceEqDiff, Bool.not_true, Bool.not_false, if_true, if_false, Bool.and_self, Bool.true_and, Bool.and_true, Bool.false_eq_true, ↓reduceIte, true_and, and_true, decide_true, decide_false, wipeR]
          refine k_set ?_
          simp only [ok_V0, ok_Vs, ok_K, ok_B, ok_U, ok_nil, ok_cons, ok_N, ok_aN, ok_call, ok_nl, ok_fl, ok_afl, ok_T, ok_qNot, ok_qAnd, ok_qOr, ok_and, ok_or, ok_not, ok_if, ok_Sl, ok_oNo, ok_oOf, ok_Ch, ok_it, ok_itA, ok_yes, v_addI, v_sub, v_neg, v_eqI, v_eqS, v_eqB, v_eq0, v_eqT0, v_neI, v_neS, v_neB, v_ne0, v_neT0, v_ltI, v_leI, v_gtI, v_geI, v_is, v_isNot, v_nn, v_ns, v_ni, v_nl, v_nt, v_tb, v_tl, v_tt, v_tn, v_ti, v_asB, v_asI, v_asL, v_asT, v_asS, v_lenL, v_lenT, v_tupL, v_tupT, v_listL, v_listT, v_intB, v_tup0, v_tup1, v_tup2, v_tup3, v_tup4, v_tup5, v_lst0, v_lst1, v_lst2, v_lst3, v_lst4, v_lst5, v_ok0, v_ok1, v_ok2, v_ix0L, v_ix0, v_ix1, v_ix2, v_ix3, v_fs, v_fi, v_fb, v_fn, v_ft, v_f0, v_fc, startR, List.map_cons, List.map_nil, List.length_cons, List.length_nil, List.replicate, List.cons_append, List.nil_append, List.set_cons_zero, List.set_cons_succ, Option.some.injEq, exists_eq_left', Nat.reduceAdd, Nat.reduceSub, Nat.sub_zero, Nat.sub_self, Nat.zero_add, Nat.reduceEqDiff, Bool.not_true, Bool.not_false, if_true, if_false, Bool.and_self, Bool.true_and, Bool.and_true, Bool.false_eq_true, ↓reduceIte, true_and, and_true, decide_true, decide_false, wipeR, show pIx (Fo.same t u).d (.int 1) = some (.str t) from v_ix1, show pIx (Fo.same t u).d (.int 2) = some (.str u) from v_ix2]
          refine ⟨_, _, var hK hh.w.2, ?_⟩
          obtain ⟨c, ec, ic⟩ := in_row (g := g2) (fs := V t u K) kg2.w (by have := kg2.d; omega) fun z hz => by
            have := kn_mem hK hh.w.2 hz
            exact ⟨this.w, by have := this.d; omega⟩
          have : c = dueB (.same t u) K g2 := by
            rw [Bool.eq_iff_iff, ic]
            exact (pu_iff K g2).symm
          rw [← this]
          exact ⟨_, ec, rfl, rfl⟩
        | _ => simp only [isSm, ok_V0, ok_Vs, ok_K, ok_B, ok_U, ok_nil, ok_cons, ok_N, ok_aN, ok_call, ok_nl, ok_fl, ok_afl, ok_T, ok_qNot, ok_qAnd, ok_qOr, ok_and, ok_or, ok_not, ok_if, ok_Sl, ok_oNo, ok_oOf, ok_Ch, ok_it, ok_itA, ok_yes, v_addI, v_sub, v_neg, v_eqI, v_eqS, v_eqB, v_eq0, v_eqT0, v_neI, v_neS, v_neB, v_ne0, v_neT0, v_ltI, v_leI, v_gtI, v_geI, v_is, v_isNot, v_nn, v_ns, v_ni, v_nl, v_nt, v_tb, v_tl, v_tt, v_tn, v_ti, v_asB, v_asI, v_asL, v_asT, v_asS, v_lenL, v_lenT, v_tupL, v_tupT, v_listL, v_listT, v_intB, v_tup0, v_tup1, v_tup2, v_tup3, v_tup4, v_tup5, v_lst0, v_lst1, v_lst2, v_lst3, v_lst4, v_lst5, v_ok0, v_ok1, v_ok2, v_ix0L, v_ix0, v_ix1, v_ix2, v_ix3, v_fs, v_fi, v_fb, v_fn, v_ft, v_f0, v_fc, startR, List.map_cons, List.map_nil, List.length_cons, List.length_nil, List.replicate, List.cons_append, List.nil_append, List.set_cons_zero, List.set_cons_succ, Option.some.injEq, exists_eq_left', Nat.reduceAdd, Nat.reduceSub, Nat.sub_zero, Nat.sub_self, Nat.zero_add, Nat.reduceEqDiff, Bool.not_true, Bool.not_false, if_true, if_false, Bool.and_self, Bool.true_and, Bool.and_true, Bool.false_eq_true, ↓reduceIte, true_and, and_true, decide_true, decide_false, wipeR]; exact k_nx ⟨rfl, rfl⟩
      · rintro rs s12 ⟨rfl, rfl⟩
        refine k_seq (k_set ?_)
        simp only [ok_V0, ok_Vs, ok_K, ok_B, ok_U, ok_nil, ok_cons, ok_N, ok_aN, ok_call, ok_nl, ok_fl, ok_afl, ok_T, ok_qNot, ok_qAnd, ok_qOr, ok_and, ok_or, ok_not, ok_if, ok_Sl, ok_oNo, ok_oOf, ok_Ch, ok_it, ok_itA, ok_yes, v_addI, v_sub, v_neg, v_eqI, v_eqS, v_eqB, v_eq0, v_eqT0, v_neI, v_neS, v_neB, v_ne0, v_neT0, v_ltI, v_leI, v_gtI, v_geI, v_is, v_isNot, v_nn, v_ns, v_ni, v_nl, v_nt, v_tb, v_tl, v_tt, v_tn, v_ti, v_asB, v_asI, v_asL, v_asT, v_asS, v_lenL, v_lenT, v_tupL, v_tupT, v_listL, v_listT, v_intB, v_tup0, v_tup1, v_tup2, v_tup3, v_tup4, v_tup5, v_lst0, v_lst1, v_lst2, v_lst3, v_lst4, v_lst5, v_ok0, v_ok1, v_ok2, v_ix0L, v_ix0, v_ix1, v_ix2, v_ix3, v_fs, v_fi, v_fb, v_fn, v_ft, v_f0, v_fc, startR, List.map_cons, List.map_nil, List.length_cons, List.length_nil, List.replicate, List.cons_append, List.nil_append, List.set_cons_zero, List.set_cons_succ, Option.some.injEq, exists_eq_left', Nat.reduceAdd, Nat.reduceSub, Nat.sub_zero, Nat.sub_self, Nat.zero_add, Nat.reduceEqDiff, Bool.not_true, Bool.not_false, if_true, if_false, Bool.and_self, Bool.true_and, Bool.and_true, Bool.false_eq_true, ↓reduceIte, true_and, and_true, decide_true, decide_false, wipeR, k_call1]
        refine fol_eq hh hK kg2 ?_
        refine k_sIf ?_
        simp only [ok_V0, ok_Vs, ok_K, ok_B, ok_U, ok_nil, ok_cons, ok_N, ok_aN, ok_call, ok_nl, ok_fl, ok_afl, ok_T, ok_qNot, ok_qAnd, ok_qOr, ok_and, ok_or, ok_not, ok_if, ok_Sl, ok_oNo, ok_oOf, ok_Ch, ok_it, ok_itA, ok_yes, v_addI, v_sub, v_neg, v_eqI, v_eqS, v_eqB, v_eq0, v_eqT0, v_neI, v_neS, v_neB, v_ne0, v_neT0, v_ltI, v_leI, v_gtI, v_geI, v_is, v_isNot, v_nn, v_ns, v_ni, v_nl, v_nt, v_tb, v_tl, v_tt, v_tn, v_ti, v_asB, v_asI, v_asL, v_asT, v_asS, v_lenL, v_lenT, v_tupL, v_tupT, v_listL, v_listT, v_intB, v_tup0, v_tup1, v_tup2, v_tup3, v_tup4, v_tup5, v_lst0, v_lst1, v_lst2, v_lst3, v_lst4, v_lst5, v_ok0, v_ok1, v_ok2, v_ix0L, v_ix0, v_ix1, v_ix2, v_ix3, v_fs, v_fi, v_fb, v_fn, v_ft, v_f0, v_fc, startR, List.map_cons, List.map_nil, List.length_cons, List.length_nil, List.replicate, List.cons_append, List.nil_append, List.set_cons_zero, List.set_cons_succ, Option.some.injEq, exists_eq_left', Nat.reduceAdd, Nat.reduceSub, Nat.sub_zero, Nat.sub_self, Nat.zero_add, Nat.reduceEqDiff, Bool.not_true, Bool.not_false, if_true, if_false, Bool.and_self, Bool.true_and, Bool.and_true, Bool.false_eq_true, ↓reduceIte, true_and, and_true, decide_true, decide_false, wipeR, show pIsi "bool" (.bool (dueB h K g2)) = some (.bool true) from rfl]
        exact k_nx ⟨_, rfl, rfl⟩
  · rintro ρ s2 ⟨r, rfl, hr⟩
    refine k_ret ?_
    simp only [ok_V0, ok_Vs, ok_K, ok_B, ok_U, ok_nil, ok_cons, ok_N, ok_aN, ok_call, ok_nl, ok_fl, ok_afl, ok_T, ok_qNot, ok_qAnd, ok_qOr, ok_and, ok_or, ok_not, ok_if, ok_Sl, ok_oNo, ok_oOf, ok_Ch, ok_it, ok_itA, ok_yes, v_addI, v_sub, v_neg, v_eqI, v_eqS, v_eqB, v_eq0, v_eqT0, v_neI, v_neS, v_neB, v_ne0, v_neT0, v_ltI, v_leI, v_gtI, v_geI, v_is, v_isNot, v_nn, v_ns, v_ni, v_nl, v_nt, v_tb, v_tl, v_tt, v_tn, v_ti, v_asB, v_asI, v_asL, v_asT, v_asS, v_lenL, v_lenT, v_tupL, v_tupT, v_listL, v_listT, v_intB, v_tup0, v_tup1, v_tup2, v_tup3, v_tup4, v_tup5, v_lst0, v_lst1, v_lst2, v_lst3, v_lst4, v_lst5, v_ok0, v_ok1, v_ok2, v_ix0L, v_ix0, v_ix1, v_ix2, v_ix3, v_fs, v_fi, v_fb, v_fn, v_ft, v_f0, v_fc, startR, List.map_cons, List.map_nil, List.length_cons, List.length_nil, List.replicate, List.cons_append, List.nil_append, List.set_cons_zero, List.set_cons_succ, Option.some.injEq, exists_eq_left', Nat.reduceAdd, Nat.reduceSub, Nat.sub_zero, Nat.sub_self, Nat.zero_add, Nat.reduceEqDiff, Bool.not_true, Bool.not_false, if_true, if_false, Bool.and_self, Bool.true_and, Bool.and_true, Bool.false_eq_true, ↓reduceIte, true_and, and_true, decide_true, decide_false, wipeR]
end K32
set_option Elab.async false
set_option linter.all false
set_option maxRecDepth 100000
set_option maxHeartbeats 4000000
namespace K32
open PySem PySem.Spec PyProof.Rows L2 Dl
section
variable {P : Program} {w : World} {K : PySem.W.Frag} {mg : Str → Option Value} {base : Heap} {f : Addr} {fd : FuncData}
abbrev s_w_deck : Stmt := topS 33
abbrev N_w_deck : List Str := ["_law_script", "_law_last"]
theorem sc_w_deck : FnScope N_w_deck ["_law_script"] (defScope s_w_deck) := ⟨rfl, rfl, rfl, by decide +kernel, rfl, by decide +kernel, by decide +kernel⟩
def spDeck (K : PySem.W.Frag) : Sp := fun vs H Q _ => ∃ (a : Addr) (ns : List Int), vs = [.ref a] ∧ SqL K H a (ns.map V.int) ∧ ∀ d c H' s, Same H H' → d ≠ c → Dk9 d c H' s → H d = none → H c = none → Q (.ref d) H'
theorem ok_w_deck {k : Nat} (F : Fun K "_law_deck" "_law_deck" s_w_deck f fd) (m_list : mg "list" = none) (m_sum : mg "sum" = none) : FnOk P w K mg base CX0 (k + 1) f fd ["_law_script"] (spDeck K) := by
  refine F.ok sc_w_deck (fun vs H Q E h => ?_) (fun cdv A outer s H vs Q E hr h => ?_)
  · obtain ⟨a, ns, rfl, _⟩ := h
    rfl
  · obtain ⟨a, ns, rfl, hS, q⟩ := h
    refine ⟨_, (pss_cons (ps_set (i := 1) sc_w_deck.nd rfl (.inl rfl) (pe_op op_add pe_int (pe_op op_mod (pe_callB (cr_sum rfl) (by rfl) m_sum (by decide +kernel) (pa_cons (pe_slice sl_list (pv 0) po_none (po_some pe_int)) pa_nil)) pe_int)))
      (pss_one (ps_ret (pe_lst (pa_cons (pe_callTy call_list_of (by rfl) m_list (by decide +kernel) (pa_cons (pe_slice sl_list (pv 0) po_none (po_some pe_int)) pa_nil)) (pa_cons (pv 1) pa_nil)))))), ?_⟩
    have ec : cutV (ns.map V.int) none (some 63) = (ns.take 63).map V.int := by
      rw [show (63 : Int) = ((63 : Nat) : Int) from rfl, Lc.cut_to, List.map_take]
    have l63 : (ns.take 63).length ≤ 63 := by
      rw [List.length_take]
      omega
    generalize ns.take 63 = nt at ec l63
    refine ⟨.ref a, rfl, _, rfl, a, _, rfl, hS, fun p np => ?_⟩
    rw [ec]
    have s1 := Lc.same_new (o := .lst (nt.map V.int)) np
    have h1 : (upd H p (.lst (nt.map V.int))) p = some (.lst (nt.map V.int)) := upd_same
    generalize upd H p (.lst (nt.map V.int)) = H1 at s1 h1 ⊢
    refine ⟨p, nt, rfl, SqL.of h1, _, _, rfl, rfl, (show (0 : Int) < 2147483629 by decide), _, _, rfl, rfl, ?_⟩
    have z0 : 0 ≤ nt.sum % 2147483629 := Int.emod_nonneg _ (by decide)
    have z1 : nt.sum % 2147483629 < 2147483629 := Int.emod_lt_of_pos _ (by decide)
    refine ⟨.ref a, rfl, _, rfl, a, _, rfl, s1.seq hS, fun p2 np2 => ?_⟩
    rw [ec]
    refine ⟨p2, _, rfl, .inl (SqL.of upd_same), fun c nc => ?_⟩
    have s0 := s1.trans (Lc.same_new (o := .lst (nt.map V.int)) np2)
    have s2 := s1.trans ((Lc.same_new (o := .lst (nt.map V.int)) np2).trans (Lc.same_new (o := .lst (nt.map V.int)) nc))
    have hc : (upd (upd H1 p2 (.lst (nt.map V.int))) c (.lst (nt.map V.int))) c = some (.lst (nt.map V.int)) := upd_same
    generalize (upd (upd H1 p2 (.lst (nt.map V.int))) c (.lst (nt.map V.int))) = H2 at s2 hc ⊢
    refine ⟨.int (48271 + nt.sum % 2147483629), rfl, Lc.sz (by show 2 ≤ 100000; decide), fun d nd => ?_⟩
    exact q d c _ (nt, 48271 + nt.sum % 2147483629, 0) (s2.trans (Lc.same_new nd)) (ne_of_none hc nd).symm ⟨upd_same, Lc.same_new nd _ _ hc, l63, by show 0 ≤ 48271 + nt.sum % 2147483629; omega, by show 48271 + nt.sum % 2147483629 < 4294967296; omega⟩ (s2.free nd) (s0.free nc)
abbrev s_w_draw : Stmt := topS 34
abbrev N_w_draw : List Str := ["_law_deck_here", "_law_most", "_law_cell", "_law_number"]
theorem sc_w_draw : FnScope N_w_draw ["_law_deck_here", "_law_most"] (defScope s_w_draw) := ⟨rfl, rfl, rfl, by decide +kernel, rfl, by decide +kernel, by decide +kernel⟩
def spDraw : Sp := fun vs H Q _ => ∃ (d c : Addr) (s : DS) (m : Int), vs = [.ref d, .int m] ∧ Dk9 d c H s ∧ 0 < m ∧ m < 1073741824 ∧ ∀ H', Lc.Fr (MD d c) H H' → Dk9 d c H' (drawK s m).2 → Q (.int (drawK s m).1) H'
theorem ok_w_draw {k : Nat} (F : Fun K "_law_draw" "_law_draw" s_w_draw f fd) : FnOk P w K mg base CX0 (k + 1) f fd ["_law_deck_here", "_law_most"] spDraw := by
  refine F.ok sc_w_draw (fun vs H Q E h => ?_) (fun cdv A outer s H vs Q E hr h => ?_)
  · obtain ⟨d, c, s, m, rfl, _⟩ := h
    rfl
  · obtain ⟨d, c, ⟨cells, n, sm⟩, m, rfl, ⟨hd, hc, hl, n0, n1⟩, hm, hm2, q⟩ := h
    simp only at hd hc hl n0 n1
    refine ⟨_, (pss_cons (ps_if (pt_cmpR (Lc.op_eqNil hr.units0) (pe_ix ix_list (pv 0) pe_int (fun _ _ => rfl)) (pe_lst pa_nil) (nomark _))
      (pss_cons (ps_asg (pe_op op_mod (pe_op op_add (pe_op op_add (pe_op op_mul (pe_ix ix_list (pv 0) pe_int (fun _ _ => rfl)) (pe_ix ix_list (pv 0) pe_int (fun _ _ => rfl))) (pe_op op_mul pe_int (pe_ix ix_list (pv 0) pe_int (fun _ _ => rfl)))) pe_int) pe_int) (pg_sub (pv 0) pe_int set_list))
        (pss_cons (ps_asg (pe_op op_mod (pe_op op_add (pe_op op_add (pe_op op_mul (pe_ix ix_list (pv 0) pe_int (fun _ _ => rfl)) (pe_ix ix_list (pv 0) pe_int (fun _ _ => rfl))) (pe_op op_mul pe_int (pe_ix ix_list (pv 0) pe_int (fun _ _ => rfl)))) pe_int) pe_int) (pg_sub (pv 0) pe_int set_list))
        (pss_one (ps_ret (pe_op op_mod (pe_op op_fdiv (pe_ix ix_list (pv 0) pe_int (fun _ _ => rfl)) pe_int) (pv 1))))))
      pss_nil)
      (pss_cons (ps_set (i := 2) sc_w_draw.nd rfl (.inl rfl) (pe_bm PySem.F.plainAttrs_list PySem.F.slot_list_pop PySem.F.type_list_pop mt_popAt (pe_ix ix_list (pv 0) pe_int (fun _ _ => rfl)) (pa_cons pe_int pa_nil)))
      (pss_cons (ps_if (pt_cmpR op_ge (pv 2) (pe_op op_pow pe_int pe_int) (nomark _))
      (pss_cons (ps_expr (pe_bm PySem.F.plainAttrs_list PySem.F.slot_list_insert PySem.F.type_list_insert mt_insert (pe_ix ix_list (pv 0) pe_int (fun _ _ => rfl)) (pa_cons pe_int (pa_cons (pe_op op_fdiv (pv 2) (pv 1)) pa_nil))))
        (pss_one (ps_ret (pe_op op_mod (pv 2) (pv 1)))))
      pss_nil)
      (pss_cons (ps_asg (pe_op op_mod (pe_op op_add (pe_ix ix_list (pv 0) pe_int (fun _ _ => rfl)) pe_int) pe_int) (pg_sub (pv 0) pe_int set_list))
      (pss_cons (ps_set (i := 3) sc_w_draw.nd rfl (.inl rfl) (pe_op op_mod (pe_op op_add (pe_op op_mul (pe_op op_mod (pv 2) pe_int) pe_int) (pe_ix ix_list (pv 0) pe_int (fun _ _ => rfl))) pe_int))
      (pss_one (ps_ret (pe_op op_mod (pe_op op_fdiv (pe_op op_mod (pe_op op_add (pe_op op_mul (pv 3) (pv 3)) (pe_op op_mul pe_int (pv 3))) pe_int) pe_int) (pv 1))))))))), ?_⟩
    have ndc : d ≠ c := ne_of hd hc (fun z => by cases cells <;> cases z)
    refine ⟨.ref d, rfl, d, _, 0, .ref c, rfl, rfl, SqL.of hd, rfl, Nat.zero_le _, fun o no => ?_⟩
    have hd2 := Lc.same_new (o := .lst []) no _ _ hd
    have hc2 := Lc.same_new (o := .lst []) no _ _ hc
    have f2 : Lc.Fr (MD d c) H (upd H o (.lst [])) := Lc.Fr.new (o := .lst []) no
    have ho2 : (upd H o (.lst [])) o = some (.lst []) := upd_same
    generalize upd H o (.lst []) = H2 at hd2 hc2 f2 ho2 ⊢
    refine ⟨c, o, _, rfl, rfl, SqL.of hc2, SqL.of ho2, _, rfl, ?_⟩
    have lo64 : ∀ {a b : Int}, 0 < b → -(2 ^ 64) < a % b := fun {a b} h => Int.lt_of_lt_of_le (by decide) (Int.emod_nonneg _ (by omega))
    cases cells with
    | nil =>
      refine iteT ?_
      refine ⟨.ref d, rfl, d, _, 1, .int n, rfl, rfl, SqL.of hd2, rfl, .ref d, rfl, d, _, 1, .int n, rfl, rfl, SqL.of hd2, rfl, n, n, rfl, rfl, .inl ⟨by omega, by omega⟩, .ref d, rfl, d, _, 1, .int n, rfl, rfl, SqL.of hd2, rfl, 48271, n, rfl, rfl, .inl ⟨by decide, by decide⟩, _, _, rfl, rfl, _, _, rfl, rfl, _, _, rfl, rfl, (show (0 : Int) < 2147483647 by decide), .ref d, rfl, d, _, 1, 1, rfl, rfl, hd2, rfl, ?_⟩
      have hd3 : (upd H2 d (.lst [.ref c, .int (d9a n)])) d = some (.lst [.ref c, .int (d9a n)]) := upd_same
      have hc3 : (upd H2 d (.lst [.ref c, .int (d9a n)])) c = some (.lst []) := by rw [upd_ne ndc.symm]; exact hc2
      have f3 : Lc.Fr (MD d c) H (upd H2 d (.lst [.ref c, .int (d9a n)])) := f2.trans (Lc.Fr.mut (.inl rfl))
      show tSeq _ _ _ _ (upd H2 d (.lst [.ref c, .int (d9a n)]))
      generalize upd H2 d (.lst [.ref c, .int (d9a n)]) = H3 at hd3 hc3 f3 ⊢
      have a0 : -(2 ^ 64) < d9a n := lo64 (by decide)
      have a1 : d9a n < 2 ^ 64 := Int.lt_trans (Int.emod_lt_of_pos _ (by decide)) (by decide)
      refine ⟨.ref d, rfl, d, _, 1, .int (d9a n), rfl, rfl, SqL.of hd3, rfl, .ref d, rfl, d, _, 1, .int (d9a n), rfl, rfl, SqL.of hd3, rfl, d9a n, d9a n, rfl, rfl, .inl ⟨a0, a1⟩, .ref d, rfl, d, _, 1, .int (d9a n), rfl, rfl, SqL.of hd3, rfl, 69621, d9a n, rfl, rfl, .inl ⟨by decide, by decide⟩, _, _, rfl, rfl, _, _, rfl, rfl, _, _, rfl, rfl, (show (0 : Int) < 2147483629 by decide), .ref d, rfl, d, _, 1, 1, rfl, rfl, hd3, rfl, ?_⟩
      have hd4 : (upd H3 d (.lst [.ref c, .int (d9b n)])) d = some (.lst [.ref c, .int (d9b n)]) := upd_same
      have hc4 : (upd H3 d (.lst [.ref c, .int (d9b n)])) c = some (.lst []) := by rw [upd_ne ndc.symm]; exact hc3
      have f4 : Lc.Fr (MD d c) H (upd H3 d (.lst [.ref c, .int (d9b n)])) := f3.trans (Lc.Fr.mut (.inl rfl))
      exact ⟨.ref d, rfl, d, _, 1, .int (d9b n), rfl, rfl, SqL.of hd4, rfl, d9b n, 8, rfl, rfl, ⟨by decide, by decide⟩, .int m, rfl, _, m, rfl, rfl, hm, q _ f4 ⟨hd4, hc4, Nat.zero_le _, Int.emod_nonneg _ (by decide), Int.lt_trans (Int.emod_lt_of_pos _ (by decide)) (by decide)⟩⟩
    | cons x r =>
      refine iteF ?_
      have hl' : r.length + 1 ≤ 63 := hl
      refine ⟨.ref d, rfl, d, _, 0, .ref c, rfl, rfl, SqL.of hd2, rfl, .inl ⟨rfl, _, SqL.of hc2⟩, c, _, 0, 0, .int x, rfl, rfl, hc2, (by decide), (by decide), ?_, rfl, ?_⟩
      · show seqIndex? 0 ((x :: r).map V.int).length = some 0
        rw [List.length_map, List.length_cons]
        simp [seqIndex?]
      rw [show (List.map V.int (x :: r)).eraseIdx 0 = r.map V.int from rfl]
      have hd3 : (upd H2 c (.lst (r.map V.int))) d = some (.lst [.ref c, .int n]) := by rw [upd_ne ndc]; exact hd2
      have hc3 : (upd H2 c (.lst (r.map V.int))) c = some (.lst (r.map V.int)) := upd_same
      have f3 : Lc.Fr (MD d c) H (upd H2 c (.lst (r.map V.int))) := f2.trans (Lc.Fr.mut (.inr rfl))
      generalize upd H2 c (.lst (r.map V.int)) = H3 at hd3 hc3 f3 ⊢
      refine ⟨.int x, rfl, 10, 18, rfl, rfl, ⟨by decide, by decide, by decide⟩, _, _, rfl, rfl, _, rfl, ite2 (fun e => ?_) (fun e => ?_)⟩
      · refine ⟨.ref d, rfl, d, _, 0, .ref c, rfl, rfl, SqL.of hd3, rfl, .inl ⟨rfl, _, SqL.of hc3⟩, .int x, rfl, .int m, rfl, x, m, rfl, rfl, ⟨hm, hm2⟩, c, _, 0, _, rfl, rfl, hc3, ?_, (by decide), (by decide), ?_⟩
        · rw [List.length_map]
          exact Lc.szl (by omega)
        · have hd4 : (upd H3 c (.lst ((x / m :: r).map V.int))) d = some (.lst [.ref c, .int n]) := by rw [upd_ne ndc]; exact hd3
          have f4 : Lc.Fr (MD d c) H (upd H3 c (.lst ((x / m :: r).map V.int))) := f3.trans (Lc.Fr.mut (.inr rfl))
          refine ⟨.int x, rfl, .int m, rfl, x, m, rfl, rfl, hm, ?_⟩
          have e9 : drawK (x :: r, n, sm) m = (x % m, (x / m :: r, n, sm)) := by
            unfold drawK
            exact if_pos (of_decide_eq_true e)
          rw [e9] at q
          exact q (upd H3 c (.lst ((x / m :: r).map V.int))) f4 ⟨hd4, upd_same, hl, n0, n1⟩
      · refine ⟨.ref d, rfl, d, _, 1, .int n, rfl, rfl, SqL.of hd3, rfl, n, 69621, rfl, rfl, _, _, rfl, rfl, (show (0 : Int) < 2147483629 by decide), .ref d, rfl, d, _, 1, 1, rfl, rfl, hd3, rfl, ?_⟩
        have hd4 : (upd H3 d (.lst [.ref c, .int (d9c n)])) d = some (.lst [.ref c, .int (d9c n)]) := upd_same
        have hc4 : (upd H3 d (.lst [.ref c, .int (d9c n)])) c = some (.lst (r.map V.int)) := by rw [upd_ne ndc.symm]; exact hc3
        have f4 : Lc.Fr (MD d c) H (upd H3 d (.lst [.ref c, .int (d9c n)])) := f3.trans (Lc.Fr.mut (.inl rfl))
        show tSeq _ _ _ _ (upd H3 d (.lst [.ref c, .int (d9c n)]))
        generalize upd H3 d (.lst [.ref c, .int (d9c n)]) = H4 at hd4 hc4 f4 ⊢
        have e9 : drawK (x :: r, n, sm) m = ((d9n x n * d9n x n + 16807 * d9n x n) % 2147483587 / 8 % m, (r, d9c n, sm)) := by
          unfold drawK
          exact if_neg fun z => e (decide_eq_true z)
        rw [e9] at q
        have z0 : -(2 ^ 64) < d9n x n := lo64 (by decide)
        have z1 : d9n x n < 2 ^ 64 := Int.lt_trans (Int.emod_lt_of_pos _ (by decide)) (by decide)
        exact ⟨.int x, rfl, x, _, rfl, rfl, (show (0 : Int) < 2147483647 by decide), _, _, rfl, rfl, .inr ⟨by decide, by decide⟩, .ref d, rfl, d, _, 1, .int (d9c n), rfl, rfl, SqL.of hd4, rfl, _, _, rfl, rfl, _, _, rfl, rfl, (show (0 : Int) < 2147483629 by decide), .int (d9n x n), rfl, .int (d9n x n), rfl, d9n x n, d9n x n, rfl, rfl, .inl ⟨z0, z1⟩, .int (d9n x n), rfl, 16807, d9n x n, rfl, rfl, .inl ⟨by decide, by decide⟩, _, _, rfl, rfl, _, _, rfl, rfl, (show (0 : Int) < 2147483587 by decide), _, 8, rfl, rfl, ⟨by decide, by decide⟩, .int m, rfl, _, m, rfl, rfl, hm, q H4 f4 ⟨hd4, hc4, by show r.length ≤ 63; omega, Int.emod_nonneg _ (by decide), Int.lt_trans (Int.emod_lt_of_pos _ (by decide)) (by decide)⟩⟩
/-- the draw by its function on data -/
theorem D_draw {d c : Addr} {k : Nat} {f : Addr} {fd : FuncData} (F : Fun K "_law_draw" "_law_draw" s_w_draw f fd) : FnOk P w K mg base CX0 (k + 1) f fd ["_law_deck_here", "_law_most"] (spD ⟨K, hdD d⟩ (Zd9 d c) 2 Fdraw9) := by
  have h := ok_w_draw (P := P) (w := w) (K := K) (mg := mg) (base := base) (k := k) F
  refine ⟨fun vs H Q E h => ?_, fun A outer s H args us vs Q E hr he hb hv hsp => h.run A outer s H args us vs Q E hr he hb hv ?_⟩
  · obtain ⟨B, ds, s, d, s', h1, _, _, h2, _⟩ := h
    rw [h2.len, h1]
    rfl
  · obtain ⟨B, ds, s, x, s', h1, bd, mb, h2, R, hF, q⟩ := hsp
    unfold Fdraw9 at hF
    split at hF
    · split at hF
      · rename_i m hm
        cases hF
        simp only [Reps, Rep] at h2
        obtain ⟨v, r, rfl, ⟨a, rfl, ⟨n, e1, _, rfl⟩ | ⟨e1, _⟩⟩, v2, r2, rfl, rfl, rfl⟩ := h2
        rotate_left
        · cases e1
        exact ⟨a, c, s, m, rfl, R, hm.1, hm.2, fun H' f1 k1 => q _ H' f1 (by simp only [Rep]) k1⟩
      · cases hF
    · cases hF
end
end K32
set_option Elab.async false
set_option linter.all false
set_option maxRecDepth 100000
set_option maxHeartbeats 4000000
namespace K32
open PySem PySem.Spec PyProof.Rows L2 Dl Lw30 Lw32
section
variable {P : Program} {w : World} {K : PySem.W.Frag} {mg : Str → Option Value} {base : Heap} {f : Addr} {fd : FuncData}
theorem R_puts {hd : Nat → Addr → Prop} {Z : Zk DS} (U : Fun K "puts" "puts" s_puts f fd) {c T : Addr} (UC : FunC K "puts" "puts" s_puts f fd c) (TB : GxR.TabB base mg c T) (zt : ZTab Z T) (g : mg "puts" = some (.ref f)) (b : Binds K fd ["t", "u", "old", "new"] []) {f2 : Addr} {fd2 : FuncData} (U2 : Fun K "puts_at" "puts_at" s_puts_at f2 fd2) (g2 : mg "puts_at" = some (.ref f2)) (b2 : Binds K fd2 ["place", "t", "u", "old", "new"] []) (C_pieces : Lc.Dn P w K mg base "pieces" ["form", "wanted"] 1 (spD ⟨K, hd⟩ Z 2 K_pieces)) (m_all : mg "all" = none) (m_zip : mg "zip" = none) {a_SHAPES : Addr} (g_SHAPES : mg "SHAPES" = some (.ref a_SHAPES)) (wd_SHAPES : WD K w a_SHAPES t_SHAPES) : ∀ m, FnOk P w K mg base CX0 (1 + 3 * m) f fd ["t", "u", "old", "new"] (spD ⟨K, hd⟩ Z 4 (Fpu m))
  | 0 => fn_no
  | m + 1 => by
    have ih := R_puts (hd := hd) (Z := Z) U UC TB zt g b U2 g2 b2 C_pieces m_all m_zip g_SHAPES wd_SHAPES m
    have C_puts : Lc.Dn P w K mg base "puts" ["t", "u", "old", "new"] (1 + 3 * m) (spD ⟨K, hd⟩ Z 4 (Fpu m)) := ⟨f, fd, U.kp, g, b, ih⟩
    have C_puts_at : Lc.Dn P w K mg base "puts_at" ["place", "t", "u", "old", "new"] (1 + 3 * m + 1) (spD ⟨K, hd⟩ Z 5 (K_puts_at (Fpu m))) := ⟨f2, fd2, U2.kp, g2, b2, P_puts_at (k := 1 + 3 * m) U2 C_puts (by omega)  ⟩
    exact P_puts (k := 1 + 3 * m + 1) UC TB zt C_pieces (by omega) C_puts_at (by omega) m_all m_zip g_SHAPES wd_SHAPES
theorem R_w_form {hd : Nat → Addr → Prop} {Z : Zk DS} (U : Fun K "_law_form" "_law_form" s_w_form f fd) (g : mg "_law_form" = some (.ref f)) (b : Binds K fd ["_law_deck_here", "_law_vocabulary_here", "_law_letters", "_law_deep"] []) (C_w_draw : Lc.Dn P w K mg base "_law_draw" ["_law_deck_here", "_law_most"] 1 (spD ⟨K, hd⟩ Z 2 Fdraw9)) (C_w_atom : Lc.Dn P w K mg base "_law_atom" ["_law_deck_here", "_law_vocabulary_here", "_law_letters"] 3 (spD ⟨K, hd⟩ Z 3 (K_w_atom Fdraw9 (K_w_sum Fdraw9))))  : ∀ m, FnOk P w K mg base CX0 (3 + m) f fd ["_law_deck_here", "_law_vocabulary_here", "_law_letters", "_law_deep"] (spD ⟨K, hd⟩ Z 4 (Fform m))
  | 0 => fn_no
  | m + 1 => by
    have ih := R_w_form (hd := hd) (Z := Z) U g b C_w_draw C_w_atom m
    exact P_w_form (k := 3 + m) U C_w_draw (by omega) C_w_atom (by omega) ⟨f, fd, U.kp, g, b, ih⟩ (by omega)
theorem R_w_variants {hd : Nat → Addr → Prop} {Z : Zk DS} (U : Fun K "_law_variants" "_law_variants" s_w_variants f fd) (g : mg "_law_variants" = some (.ref f)) (b : Binds K fd ["_law_form_here", "_law_one", "_law_other"] []) (C_w_terms : Lc.Dn P w K mg base "_law_terms" ["_law_form_here"] 1 (spD ⟨K, hd⟩ Z 1 K_w_terms))  : ∀ m, FnOk P w K mg base CX0 (1 + m) f fd ["_law_form_here", "_law_one", "_law_other"] (spD ⟨K, hd⟩ Z 3 (Fva m))
  | 0 => fn_no
  | m + 1 => by
    have ih := R_w_variants (hd := hd) (Z := Z) U g b C_w_terms m
    exact P_w_variants (k := 1 + m) U C_w_terms (by omega) ⟨f, fd, U.kp, g, b, ih⟩ (by omega)
theorem ok_law {Ts : List Addr} (U : Fun K "law" "law" s_law f fd) (C_deck : Lc.Dn P w K mg base "_law_deck" ["_law_script"] 1 (spDeck K))
    (hrest : ∀ d c (cdv : Value) (A : Around) (outer : List Env) (s : Shared) (H : Hp) (E : XK), Room 51 (A.deeper (envOfC "law" (defScope s_law) s.heap.objs.size f cdv)) → PSs (cxOf CX0 P w K mg base N_law "law" (defScope s_law) f cdv A outer s H E).nox ((defBody s_law).drop 1) (tSt ⟨K, hdD d⟩ (Zt9 d c Ts) [] (B_law Fdraw9 (K_w_vocabulary (K_w_some Fdraw9 (K_w_word Fdraw9)) Fdraw9) (K_w_deepened Fdraw9) (Fform 4) (Fva 16) (K_follows (fun _ _ => none) (fun _ _ => none) (fun _ _ => none) (fun _ _ => none) (fun _ _ => none) (fun _ _ => none) (fun _ _ => none) (fun _ _ => none) (fun _ _ => none) (fun _ _ => none) (fun _ _ => none) (fun _ _ => none) (K_is_put (Fpu 16)))))) :
    FnOk P w K mg base CX0 52 f fd ["_law_script"] (spLawT K Ts) := by
  refine U.ok sc_law (fun vs H Q E h => ?_) (fun cdv A outer s H vs Q E hr h => ?_)
  · obtain ⟨a, ns, rfl, _⟩ := h
    rfl
  · obtain ⟨a, ns, rfl, hS, hT, q⟩ := h
    refine ⟨_, pss_cons (ps_set (i := 1) sc_law.nd rfl (.inl rfl) (Lc.pe_dn C_deck (hr.mono (by decide)) (by rfl) (pa_cons (pv 0) pa_nil))) (pss_rest9 fun d c => hrest d c cdv A outer s H E hr), ?_⟩
    refine ⟨.ref a, rfl, a, ns, rfl, hS, fun d c H' s0 sm ndc dk _ _ => ?_⟩
    exact rest_at9 dk (fun T hm => by obtain ⟨ps, e, t⟩ := hT T hm; exact ⟨ps, sm _ _ e, t⟩) (by decide) (law_true (s := s0)) q
end
theorem all_mk {l : PySem.W.OpenLaw} {w : World} {K : PySem.W.Frag} {h : Heap} {mg mb : Str → Option Value} {fa : Addr} {q : Program} {loose : List Str} {mean : ExcName → Option Value} (Tp : Top q (PySem.W.looseW q loose) mean mg mb h) (X : K.In h) (hfa : mg "law" = some (.ref fa))
    {f0 : Addr} {od0 an0 : Option Addr} {sl0 : Array (Option Value)} {oc0 kV0 dc0 pm0 cd0 ct0 : Value}
    {f1 : Addr} {od1 an1 : Option Addr} {sl1 : Array (Option Value)} {oc1 kV1 dc1 pm1 cd1 ct1 : Value}
    {f2 : Addr} {od2 an2 : Option Addr} {sl2 : Array (Option Value)} {oc2 kV2 dc2 pm2 cd2 ct2 : Value}
    {f3 : Addr} {od3 an3 : Option Addr} {sl3 : Array (Option Value)} {oc3 kV3 dc3 pm3 cd3 ct3 : Value}
    {f4 : Addr} {od4 an4 : Option Addr} {sl4 : Array (Option Value)} {oc4 kV4 dc4 pm4 cd4 ct4 : Value}
    {f5 : Addr} {od5 an5 : Option Addr} {sl5 : Array (Option Value)} {oc5 kV5 dc5 pm5 cd5 ct5 : Value}
    {f6 : Addr} {od6 an6 : Option Addr} {sl6 : Array (Option Value)} {oc6 kV6 dc6 pm6 cd6 ct6 : Value}
    {f7 : Addr} {od7 an7 : Option Addr} {sl7 : Array (Option Value)} {oc7 kV7 dc7 pm7 cd7 ct7 : Value}
    {f8 : Addr} {od8 an8 : Option Addr} {sl8 : Array (Option Value)} {oc8 kV8 dc8 pm8 cd8 ct8 : Value}
    {f9 : Addr} {od9 an9 : Option Addr} {sl9 : Array (Option Value)} {oc9 kV9 dc9 pm9 cd9 ct9 : Value}
    {f10 : Addr} {od10 an10 : Option Addr} {sl10 : Array (Option Value)} {oc10 kV10 dc10 pm10 cd10 ct10 : Value}
    {f11 : Addr} {od11 an11 : Option Addr} {sl11 : Array (Option Value)} {oc11 kV11 dc11 pm11 cd11 ct11 : Value}
    {f12 : Addr} {od12 an12 : Option Addr} {sl12 : Array (Option Value)} {oc12 kV12 dc12 pm12 cd12 ct12 : Value}
    {f13 : Addr} {od13 an13 : Option Addr} {sl13 : Array (Option Value)} {oc13 kV13 dc13 pm13 cd13 ct13 : Value}
    {c_puts T_puts : Addr} {d_puts : DefRec}
    {f14 : Addr} {od14 an14 : Option Addr} {sl14 : Array (Option Value)} {oc14 kV14 dc14 pm14 ct14 : Value}
    {f15 : Addr} {od15 an15 : Option Addr} {sl15 : Array (Option Value)} {oc15 kV15 dc15 pm15 cd15 ct15 : Value}
    {f16 : Addr} {od16 an16 : Option Addr} {sl16 : Array (Option Value)} {oc16 kV16 dc16 pm16 cd16 ct16 : Value}
    {f17 : Addr} {od17 an17 : Option Addr} {sl17 : Array (Option Value)} {oc17 kV17 dc17 pm17 cd17 ct17 : Value}
    {f18 : Addr} {od18 an18 : Option Addr} {sl18 : Array (Option Value)} {oc18 kV18 dc18 pm18 cd18 ct18 : Value}
    {f19 : Addr} {od19 an19 : Option Addr} {sl19 : Array (Option Value)} {oc19 kV19 dc19 pm19 cd19 ct19 : Value}
    {f20 : Addr} {od20 an20 : Option Addr} {sl20 : Array (Option Value)} {oc20 kV20 dc20 pm20 cd20 ct20 : Value}
    {f21 : Addr} {od21 an21 : Option Addr} {sl21 : Array (Option Value)} {oc21 kV21 dc21 pm21 cd21 ct21 : Value}
    {f22 : Addr} {od22 an22 : Option Addr} {sl22 : Array (Option Value)} {oc22 kV22 dc22 pm22 cd22 ct22 : Value}
    {f23 : Addr} {od23 an23 : Option Addr} {sl23 : Array (Option Value)} {oc23 kV23 dc23 pm23 cd23 ct23 : Value}
    {f24 : Addr} {od24 an24 : Option Addr} {sl24 : Array (Option Value)} {oc24 kV24 dc24 pm24 cd24 ct24 : Value}
    {f25 : Addr} {od25 an25 : Option Addr} {sl25 : Array (Option Value)} {oc25 kV25 dc25 pm25 cd25 ct25 : Value}
    {f26 : Addr} {od26 an26 : Option Addr} {sl26 : Array (Option Value)} {oc26 kV26 dc26 pm26 cd26 ct26 : Value}
    {f27 : Addr} {od27 an27 : Option Addr} {sl27 : Array (Option Value)} {oc27 kV27 dc27 pm27 cd27 ct27 : Value}
    {f28 : Addr} {od28 an28 : Option Addr} {sl28 : Array (Option Value)} {oc28 kV28 dc28 pm28 cd28 ct28 : Value}
    (a0 : PySem.W.nsIn K mainGlobals "pieces" = some (some (.ref f0))) (l0 : K.lookup f0 = some ⟨oc0, od0, .func (PySem.W.fnOf "pieces" "pieces" (defArgs s_pieces) (defBody s_pieces) (defScope s_pieces) .none kV0 dc0 pm0 an0 cd0 ct0), sl0⟩) (c0 : PySem.W.codeIn K cd0 "pieces" = true) (k0 : PySem.W.keepIn K (.ref f0) = true)
    (a1 : PySem.W.nsIn K mainGlobals "is_again" = some (some (.ref f1))) (l1 : K.lookup f1 = some ⟨oc1, od1, .func (PySem.W.fnOf "is_again" "is_again" (defArgs s_is_again) (defBody s_is_again) (defScope s_is_again) .none kV1 dc1 pm1 an1 cd1 ct1), sl1⟩) (c1 : PySem.W.codeIn K cd1 "is_again" = true) (k1 : PySem.W.keepIn K (.ref f1) = true)
    (a2 : PySem.W.nsIn K mainGlobals "is_itself" = some (some (.ref f2))) (l2 : K.lookup f2 = some ⟨oc2, od2, .func (PySem.W.fnOf "is_itself" "is_itself" (defArgs s_is_itself) (defBody s_is_itself) (defScope s_is_itself) .none kV2 dc2 pm2 an2 cd2 ct2), sl2⟩) (c2 : PySem.W.codeIn K cd2 "is_itself" = true) (k2 : PySem.W.keepIn K (.ref f2) = true)
    (a3 : PySem.W.nsIn K mainGlobals "is_both" = some (some (.ref f3))) (l3 : K.lookup f3 = some ⟨oc3, od3, .func (PySem.W.fnOf "is_both" "is_both" (defArgs s_is_both) (defBody s_is_both) (defScope s_is_both) .none kV3 dc3 pm3 an3 cd3 ct3), sl3⟩) (c3 : PySem.W.codeIn K cd3 "is_both" = true) (k3 : PySem.W.keepIn K (.ref f3) = true)
    (a4 : PySem.W.nsIn K mainGlobals "is_left" = some (some (.ref f4))) (l4 : K.lookup f4 = some ⟨oc4, od4, .func (PySem.W.fnOf "is_left" "is_left" (defArgs s_is_left) (defBody s_is_left) (defScope s_is_left) .none kV4 dc4 pm4 an4 cd4 ct4), sl4⟩) (c4 : PySem.W.codeIn K cd4 "is_left" = true) (k4 : PySem.W.keepIn K (.ref f4) = true)
    (a5 : PySem.W.nsIn K mainGlobals "is_right_side" = some (some (.ref f5))) (l5 : K.lookup f5 = some ⟨oc5, od5, .func (PySem.W.fnOf "is_right_side" "is_right_side" (defArgs s_is_right_side) (defBody s_is_right_side) (defScope s_is_right_side) .none kV5 dc5 pm5 an5 cd5 ct5), sl5⟩) (c5 : PySem.W.codeIn K cd5 "is_right_side" = true) (k5 : PySem.W.keepIn K (.ref f5) = true)
    (a6 : PySem.W.nsIn K mainGlobals "is_or_left" = some (some (.ref f6))) (l6 : K.lookup f6 = some ⟨oc6, od6, .func (PySem.W.fnOf "is_or_left" "is_or_left" (defArgs s_is_or_left) (defBody s_is_or_left) (defScope s_is_or_left) .none kV6 dc6 pm6 an6 cd6 ct6), sl6⟩) (c6 : PySem.W.codeIn K cd6 "is_or_left" = true) (k6 : PySem.W.keepIn K (.ref f6) = true)
    (a7 : PySem.W.nsIn K mainGlobals "is_or_right" = some (some (.ref f7))) (l7 : K.lookup f7 = some ⟨oc7, od7, .func (PySem.W.fnOf "is_or_right" "is_or_right" (defArgs s_is_or_right) (defBody s_is_or_right) (defScope s_is_or_right) .none kV7 dc7 pm7 an7 cd7 ct7), sl7⟩) (c7 : PySem.W.codeIn K cd7 "is_or_right" = true) (k7 : PySem.W.keepIn K (.ref f7) = true)
    (a8 : PySem.W.nsIn K mainGlobals "is_then" = some (some (.ref f8))) (l8 : K.lookup f8 = some ⟨oc8, od8, .func (PySem.W.fnOf "is_then" "is_then" (defArgs s_is_then) (defBody s_is_then) (defScope s_is_then) .none kV8 dc8 pm8 an8 cd8 ct8), sl8⟩) (c8 : PySem.W.codeIn K cd8 "is_then" = true) (k8 : PySem.W.keepIn K (.ref f8) = true)
    (a9 : PySem.W.nsIn K mainGlobals "is_absurd" = some (some (.ref f9))) (l9 : K.lookup f9 = some ⟨oc9, od9, .func (PySem.W.fnOf "is_absurd" "is_absurd" (defArgs s_is_absurd) (defBody s_is_absurd) (defScope s_is_absurd) .none kV9 dc9 pm9 an9 cd9 ct9), sl9⟩) (c9 : PySem.W.codeIn K cd9 "is_absurd" = true) (k9 : PySem.W.keepIn K (.ref f9) = true)
    (a10 : PySem.W.nsIn K mainGlobals "is_of_nothing" = some (some (.ref f10))) (l10 : K.lookup f10 = some ⟨oc10, od10, .func (PySem.W.fnOf "is_of_nothing" "is_of_nothing" (defArgs s_is_of_nothing) (defBody s_is_of_nothing) (defScope s_is_of_nothing) .none kV10 dc10 pm10 an10 cd10 ct10), sl10⟩) (c10 : PySem.W.codeIn K cd10 "is_of_nothing" = true) (k10 : PySem.W.keepIn K (.ref f10) = true)
    (a11 : PySem.W.nsIn K mainGlobals "is_at" = some (some (.ref f11))) (l11 : K.lookup f11 = some ⟨oc11, od11, .func (PySem.W.fnOf "is_at" "is_at" (defArgs s_is_at) (defBody s_is_at) (defScope s_is_at) .none kV11 dc11 pm11 an11 cd11 ct11), sl11⟩) (c11 : PySem.W.codeIn K cd11 "is_at" = true) (k11 : PySem.W.keepIn K (.ref f11) = true)
    (a12 : PySem.W.nsIn K mainGlobals "is_such" = some (some (.ref f12))) (l12 : K.lookup f12 = some ⟨oc12, od12, .func (PySem.W.fnOf "is_such" "is_such" (defArgs s_is_such) (defBody s_is_such) (defScope s_is_such) .none kV12 dc12 pm12 an12 cd12 ct12), sl12⟩) (c12 : PySem.W.codeIn K cd12 "is_such" = true) (k12 : PySem.W.keepIn K (.ref f12) = true)
    (a13 : PySem.W.nsIn K mainGlobals "is_put" = some (some (.ref f13))) (l13 : K.lookup f13 = some ⟨oc13, od13, .func (PySem.W.fnOf "is_put" "is_put" (defArgs s_is_put) (defBody s_is_put) (defScope s_is_put) .none kV13 dc13 pm13 an13 cd13 ct13), sl13⟩) (c13 : PySem.W.codeIn K cd13 "is_put" = true) (k13 : PySem.W.keepIn K (.ref f13) = true)
    (a14 : PySem.W.nsIn K mainGlobals "puts" = some (some (.ref f14))) (l14 : K.lookup f14 = some ⟨oc14, od14, .func (PySem.W.fnOf "puts" "puts" (defArgs s_puts) (defBody s_puts) (defScope s_puts) .none kV14 dc14 pm14 an14 (.ref c_puts) ct14), sl14⟩) (c14 : PySem.W.codeIn K (.ref c_puts) "puts" = true) (k14 : PySem.W.keepIn K (.ref f14) = true)
    (hrec_puts : (recsOf q).find? (fun e => e.name == ("puts" : Str)) = some d_puts) (htab_puts : PySem.W.tabIn K "puts" = some (c_puts, T_puts))
    (a15 : PySem.W.nsIn K mainGlobals "puts_at" = some (some (.ref f15))) (l15 : K.lookup f15 = some ⟨oc15, od15, .func (PySem.W.fnOf "puts_at" "puts_at" (defArgs s_puts_at) (defBody s_puts_at) (defScope s_puts_at) .none kV15 dc15 pm15 an15 cd15 ct15), sl15⟩) (c15 : PySem.W.codeIn K cd15 "puts_at" = true) (k15 : PySem.W.keepIn K (.ref f15) = true)
    {dt16 : Addr} {dC16 : Value} {dD16 : Option Addr} {dI16 : Array Value} {dN16 : Nat} {dS16 : Array (Option Value)} (a16 : PySem.W.nsIn K mainGlobals "follows" = some (some (.ref f16))) (l16 : K.lookup f16 = some ⟨oc16, od16, .func (PySem.W.fnOf "follows" "follows" (defArgs s_follows) (defBody s_follows) (defScope s_follows) (.ref dt16) kV16 dc16 pm16 an16 cd16 ct16), sl16⟩) (c16 : PySem.W.codeIn K cd16 "follows" = true) (k16 : PySem.W.keepIn K (.ref f16) = true) (ld16 : K.lookup dt16 = some ⟨dC16, dD16, .seq dI16 dN16, dS16⟩) (vd16 : dI16 = #[.none])
    (a17 : PySem.W.nsIn K mainGlobals "_law_deck" = some (some (.ref f17))) (l17 : K.lookup f17 = some ⟨oc17, od17, .func (PySem.W.fnOf "_law_deck" "_law_deck" (defArgs s_w_deck) (defBody s_w_deck) (defScope s_w_deck) .none kV17 dc17 pm17 an17 cd17 ct17), sl17⟩) (c17 : PySem.W.codeIn K cd17 "_law_deck" = true) (k17 : PySem.W.keepIn K (.ref f17) = true)
    (a18 : PySem.W.nsIn K mainGlobals "_law_draw" = some (some (.ref f18))) (l18 : K.lookup f18 = some ⟨oc18, od18, .func (PySem.W.fnOf "_law_draw" "_law_draw" (defArgs s_w_draw) (defBody s_w_draw) (defScope s_w_draw) .none kV18 dc18 pm18 an18 cd18 ct18), sl18⟩) (c18 : PySem.W.codeIn K cd18 "_law_draw" = true) (k18 : PySem.W.keepIn K (.ref f18) = true)
    (a19 : PySem.W.nsIn K mainGlobals "_law_word" = some (some (.ref f19))) (l19 : K.lookup f19 = some ⟨oc19, od19, .func (PySem.W.fnOf "_law_word" "_law_word" (defArgs s_w_word) (defBody s_w_word) (defScope s_w_word) .none kV19 dc19 pm19 an19 cd19 ct19), sl19⟩) (c19 : PySem.W.codeIn K cd19 "_law_word" = true) (k19 : PySem.W.keepIn K (.ref f19) = true)
    (a20 : PySem.W.nsIn K mainGlobals "_law_some" = some (some (.ref f20))) (l20 : K.lookup f20 = some ⟨oc20, od20, .func (PySem.W.fnOf "_law_some" "_law_some" (defArgs s_w_some) (defBody s_w_some) (defScope s_w_some) .none kV20 dc20 pm20 an20 cd20 ct20), sl20⟩) (c20 : PySem.W.codeIn K cd20 "_law_some" = true) (k20 : PySem.W.keepIn K (.ref f20) = true)
    (a21 : PySem.W.nsIn K mainGlobals "_law_vocabulary" = some (some (.ref f21))) (l21 : K.lookup f21 = some ⟨oc21, od21, .func (PySem.W.fnOf "_law_vocabulary" "_law_vocabulary" (defArgs s_w_vocabulary) (defBody s_w_vocabulary) (defScope s_w_vocabulary) .none kV21 dc21 pm21 an21 cd21 ct21), sl21⟩) (c21 : PySem.W.codeIn K cd21 "_law_vocabulary" = true) (k21 : PySem.W.keepIn K (.ref f21) = true)
    (a22 : PySem.W.nsIn K mainGlobals "_law_sum" = some (some (.ref f22))) (l22 : K.lookup f22 = some ⟨oc22, od22, .func (PySem.W.fnOf "_law_sum" "_law_sum" (defArgs s_w_sum) (defBody s_w_sum) (defScope s_w_sum) .none kV22 dc22 pm22 an22 cd22 ct22), sl22⟩) (c22 : PySem.W.codeIn K cd22 "_law_sum" = true) (k22 : PySem.W.keepIn K (.ref f22) = true)
    (a23 : PySem.W.nsIn K mainGlobals "_law_atom" = some (some (.ref f23))) (l23 : K.lookup f23 = some ⟨oc23, od23, .func (PySem.W.fnOf "_law_atom" "_law_atom" (defArgs s_w_atom) (defBody s_w_atom) (defScope s_w_atom) .none kV23 dc23 pm23 an23 cd23 ct23), sl23⟩) (c23 : PySem.W.codeIn K cd23 "_law_atom" = true) (k23 : PySem.W.keepIn K (.ref f23) = true)
    (a24 : PySem.W.nsIn K mainGlobals "_law_form" = some (some (.ref f24))) (l24 : K.lookup f24 = some ⟨oc24, od24, .func (PySem.W.fnOf "_law_form" "_law_form" (defArgs s_w_form) (defBody s_w_form) (defScope s_w_form) .none kV24 dc24 pm24 an24 cd24 ct24), sl24⟩) (c24 : PySem.W.codeIn K cd24 "_law_form" = true) (k24 : PySem.W.keepIn K (.ref f24) = true)
    (a25 : PySem.W.nsIn K mainGlobals "_law_terms" = some (some (.ref f25))) (l25 : K.lookup f25 = some ⟨oc25, od25, .func (PySem.W.fnOf "_law_terms" "_law_terms" (defArgs s_w_terms) (defBody s_w_terms) (defScope s_w_terms) .none kV25 dc25 pm25 an25 cd25 ct25), sl25⟩) (c25 : PySem.W.codeIn K cd25 "_law_terms" = true) (k25 : PySem.W.keepIn K (.ref f25) = true)
    (a26 : PySem.W.nsIn K mainGlobals "_law_variants" = some (some (.ref f26))) (l26 : K.lookup f26 = some ⟨oc26, od26, .func (PySem.W.fnOf "_law_variants" "_law_variants" (defArgs s_w_variants) (defBody s_w_variants) (defScope s_w_variants) .none kV26 dc26 pm26 an26 cd26 ct26), sl26⟩) (c26 : PySem.W.codeIn K cd26 "_law_variants" = true) (k26 : PySem.W.keepIn K (.ref f26) = true)
    (a27 : PySem.W.nsIn K mainGlobals "_law_deepened" = some (some (.ref f27))) (l27 : K.lookup f27 = some ⟨oc27, od27, .func (PySem.W.fnOf "_law_deepened" "_law_deepened" (defArgs s_w_deepened) (defBody s_w_deepened) (defScope s_w_deepened) .none kV27 dc27 pm27 an27 cd27 ct27), sl27⟩) (c27 : PySem.W.codeIn K cd27 "_law_deepened" = true) (k27 : PySem.W.keepIn K (.ref f27) = true)
    (a28 : PySem.W.nsIn K mainGlobals "law" = some (some (.ref f28))) (l28 : K.lookup f28 = some ⟨oc28, od28, .func (PySem.W.fnOf "law" "law" (defArgs s_law) (defBody s_law) (defScope s_law) .none kV28 dc28 pm28 an28 cd28 ct28), sl28⟩) (c28 : PySem.W.codeIn K cd28 "law" = true) (k28 : PySem.W.keepIn K (.ref f28) = true)
    (z_all : PySem.W.nsIn K mainGlobals "all" = some none)
    (z_bool : PySem.W.nsIn K mainGlobals "bool" = some none)
    (z_int : PySem.W.nsIn K mainGlobals "int" = some none)
    (z_isinstance : PySem.W.nsIn K mainGlobals "isinstance" = some none)
    (z_len : PySem.W.nsIn K mainGlobals "len" = some none)
    (z_list : PySem.W.nsIn K mainGlobals "list" = some none)
    (z_range : PySem.W.nsIn K mainGlobals "range" = some none)
    (z_sorted : PySem.W.nsIn K mainGlobals "sorted" = some none)
    (z_sum : PySem.W.nsIn K mainGlobals "sum" = some none)
    (z_tuple : PySem.W.nsIn K mainGlobals "tuple" = some none)
    (z_zip : PySem.W.nsIn K mainGlobals "zip" = some none)
    {aa_REASONS : Addr} {es_REASONS : Array DictEntry} {nn_REASONS : Nat} (gg_REASONS : PySem.W.nsIn K mainGlobals "REASONS" = some (some (.ref aa_REASONS))) (ll_REASONS : K.lookup aa_REASONS = some ⟨.type "dict", none, .dict es_REASONS nn_REASONS, #[]⟩) (kl_REASONS : PySem.W.KeysLit w.params es_REASONS.toList) (tt_REASONS : tblIn t_REASONS es_REASONS.toList = true) (lo_REASONS : (aa_REASONS == sysModules) = false)
    {aa_SHAPES : Addr} {es_SHAPES : Array DictEntry} {nn_SHAPES : Nat} (gg_SHAPES : PySem.W.nsIn K mainGlobals "SHAPES" = some (some (.ref aa_SHAPES))) (ll_SHAPES : K.lookup aa_SHAPES = some ⟨.type "dict", none, .dict es_SHAPES nn_SHAPES, #[]⟩) (kl_SHAPES : PySem.W.KeysLit w.params es_SHAPES.toList) (tt_SHAPES : tblIn t_SHAPES es_SHAPES.toList = true) (lo_SHAPES : (aa_SHAPES == sysModules) = false)
    {aa_RULES : Addr} {es_RULES : Array DictEntry} {nn_RULES : Nat} (gg_RULES : PySem.W.nsIn K mainGlobals "RULES" = some (some (.ref aa_RULES))) (ll_RULES : K.lookup aa_RULES = some ⟨.type "dict", none, .dict es_RULES nn_RULES, #[]⟩) (kl_RULES : PySem.W.KeysLit w.params es_RULES.toList) (ft_RULES : fblIn [(("again" : Str), f1), (("itself" : Str), f2), (("both" : Str), f3), (("left" : Str), f4), (("right" : Str), f5), (("orleft" : Str), f6), (("orright" : Str), f7), (("then" : Str), f8), (("absurd" : Str), f9), (("nothing" : Str), f10), (("at" : Str), f11), (("such" : Str), f12), (("put" : Str), f13)] es_RULES.toList = true) (lo_RULES : (aa_RULES == sysModules) = false)
    (hno : PySem.W.noTabs K = true) :
    LamX.LawAtS l w K CX0 52 63 "_law_script" mg fa h := by
  have G := Tp.g
  have e := hfa.symm.trans (PySem.W.mg_of X G a28)
  cases e
  have F_pieces := fun_mk (st := s_pieces) l0 c0 k0
  have b_pieces := F_pieces.binds (ps := ["form", "wanted"]) fun _ _ _ _ _ _ us hl => match us, hl with | [_, _], _ => rfl
  have F_is_again := fun_mk (st := s_is_again) l1 c1 k1
  have b_is_again := F_is_again.binds (ps := ["form", "forms", "name"]) fun _ _ _ _ _ _ us hl => match us, hl with | [_, _, _], _ => rfl
  have F_is_itself := fun_mk (st := s_is_itself) l2 c2 k2
  have b_is_itself := F_is_itself.binds (ps := ["form", "forms", "name"]) fun _ _ _ _ _ _ us hl => match us, hl with | [_, _, _], _ => rfl
  have F_is_both := fun_mk (st := s_is_both) l3 c3 k3
  have b_is_both := F_is_both.binds (ps := ["form", "forms", "name"]) fun _ _ _ _ _ _ us hl => match us, hl with | [_, _, _], _ => rfl
  have F_is_left := fun_mk (st := s_is_left) l4 c4 k4
  have b_is_left := F_is_left.binds (ps := ["form", "forms", "name"]) fun _ _ _ _ _ _ us hl => match us, hl with | [_, _, _], _ => rfl
  have F_is_right_side := fun_mk (st := s_is_right_side) l5 c5 k5
  have b_is_right_side := F_is_right_side.binds (ps := ["form", "forms", "name"]) fun _ _ _ _ _ _ us hl => match us, hl with | [_, _, _], _ => rfl
  have F_is_or_left := fun_mk (st := s_is_or_left) l6 c6 k6
  have b_is_or_left := F_is_or_left.binds (ps := ["form", "forms", "name"]) fun _ _ _ _ _ _ us hl => match us, hl with | [_, _, _], _ => rfl
  have F_is_or_right := fun_mk (st := s_is_or_right) l7 c7 k7
  have b_is_or_right := F_is_or_right.binds (ps := ["form", "forms", "name"]) fun _ _ _ _ _ _ us hl => match us, hl with | [_, _, _], _ => rfl
  have F_is_then := fun_mk (st := s_is_then) l8 c8 k8
  have b_is_then := F_is_then.binds (ps := ["form", "forms", "name"]) fun _ _ _ _ _ _ us hl => match us, hl with | [_, _, _], _ => rfl
  have F_is_absurd := fun_mk (st := s_is_absurd) l9 c9 k9
  have b_is_absurd := F_is_absurd.binds (ps := ["form", "forms", "name"]) fun _ _ _ _ _ _ us hl => match us, hl with | [_, _, _], _ => rfl
  have F_is_of_nothing := fun_mk (st := s_is_of_nothing) l10 c10 k10
  have b_is_of_nothing := F_is_of_nothing.binds (ps := ["form", "forms", "name"]) fun _ _ _ _ _ _ us hl => match us, hl with | [_, _, _], _ => rfl
  have F_is_at := fun_mk (st := s_is_at) l11 c11 k11
  have b_is_at := F_is_at.binds (ps := ["form", "forms", "name"]) fun _ _ _ _ _ _ us hl => match us, hl with | [_, _, _], _ => rfl
  have F_is_such := fun_mk (st := s_is_such) l12 c12 k12
  have b_is_such := F_is_such.binds (ps := ["form", "forms", "name"]) fun _ _ _ _ _ _ us hl => match us, hl with | [_, _, _], _ => rfl
  have F_is_put := fun_mk (st := s_is_put) l13 c13 k13
  have b_is_put := F_is_put.binds (ps := ["form", "forms", "name"]) fun _ _ _ _ _ _ us hl => match us, hl with | [_, _, _], _ => rfl
  have F_puts := fun_mk (st := s_puts) l14 c14 k14
  have b_puts := F_puts.binds (ps := ["t", "u", "old", "new"]) fun _ _ _ _ _ _ us hl => match us, hl with | [_, _, _, _], _ => rfl
  have F_puts_at := fun_mk (st := s_puts_at) l15 c15 k15
  have b_puts_at := F_puts_at.binds (ps := ["place", "t", "u", "old", "new"]) fun _ _ _ _ _ _ us hl => match us, hl with | [_, _, _, _, _], _ => rfl
  subst vd16
  have F_follows : FunDf K "follows" "follows" s_follows [V.non] [] f16 (PySem.W.fnOf "follows" "follows" (defArgs s_follows) (defBody s_follows) (defScope s_follows) (.ref dt16) kV16 dc16 pm16 an16 cd16 ct16) := ⟨⟨_, _, _, _, _, _, _, _, _, _, rfl, l16, c16, .inr ⟨by simp, dt16, _, [.none], dN16, rfl, ld16, rfl, .cons rfl .nil⟩, .inl rfl⟩, k16⟩
  obtain ⟨ds16, rd16, b_follows⟩ := F_follows.binds1 (ps := ["word", "form", "forms", "name"]) 4 1 (by simp) rfl fun T kV doc pm an cdv ct us its hl hi => match us, hl, its, hi with | [_, _, _, _], _, [_], _ => ⟨_, rfl, rfl⟩
  have rd16 : Vals [] ds16 := rd16
  cases rd16
  obtain ⟨ds1_16, rd1_16, b1_follows⟩ := F_follows.binds1 (ps := ["word", "form", "forms", "name"]) 3 0 (by simp) rfl fun T kV doc pm an cdv ct us its hl hi => match us, hl, its, hi with | [_, _, _], _, [_], _ => ⟨_, rfl, rfl⟩
  have F_w_deck := fun_mk (st := s_w_deck) l17 c17 k17
  have b_w_deck := F_w_deck.binds (ps := ["_law_script"]) fun _ _ _ _ _ _ us hl => match us, hl with | [_], _ => rfl
  have F_w_draw := fun_mk (st := s_w_draw) l18 c18 k18
  have b_w_draw := F_w_draw.binds (ps := ["_law_deck_here", "_law_most"]) fun _ _ _ _ _ _ us hl => match us, hl with | [_, _], _ => rfl
  have F_w_word := fun_mk (st := s_w_word) l19 c19 k19
  have b_w_word := F_w_word.binds (ps := ["_law_deck_here", "_law_most"]) fun _ _ _ _ _ _ us hl => match us, hl with | [_, _], _ => rfl
  have F_w_some := fun_mk (st := s_w_some) l20 c20 k20
  have b_w_some := F_w_some.binds (ps := ["_law_deck_here", "_law_many", "_law_heads", "_law_tail", "_law_most"]) fun _ _ _ _ _ _ us hl => match us, hl with | [_, _, _, _, _], _ => rfl
  have F_w_vocabulary := fun_mk (st := s_w_vocabulary) l21 c21 k21
  have b_w_vocabulary := F_w_vocabulary.binds (ps := ["_law_deck_here", "_law_names", "_law_kinds", "_law_doings"]) fun _ _ _ _ _ _ us hl => match us, hl with | [_, _, _, _], _ => rfl
  have F_w_sum := fun_mk (st := s_w_sum) l22 c22 k22
  have b_w_sum := F_w_sum.binds (ps := ["_law_deck_here", "_law_kinds"]) fun _ _ _ _ _ _ us hl => match us, hl with | [_, _], _ => rfl
  have F_w_atom := fun_mk (st := s_w_atom) l23 c23 k23
  have b_w_atom := F_w_atom.binds (ps := ["_law_deck_here", "_law_vocabulary_here", "_law_letters"]) fun _ _ _ _ _ _ us hl => match us, hl with | [_, _, _], _ => rfl
  have F_w_form := fun_mk (st := s_w_form) l24 c24 k24
  have b_w_form := F_w_form.binds (ps := ["_law_deck_here", "_law_vocabulary_here", "_law_letters", "_law_deep"]) fun _ _ _ _ _ _ us hl => match us, hl with | [_, _, _, _], _ => rfl
  have F_w_terms := fun_mk (st := s_w_terms) l25 c25 k25
  have b_w_terms := F_w_terms.binds (ps := ["_law_form_here"]) fun _ _ _ _ _ _ us hl => match us, hl with | [_], _ => rfl
  have F_w_variants := fun_mk (st := s_w_variants) l26 c26 k26
  have b_w_variants := F_w_variants.binds (ps := ["_law_form_here", "_law_one", "_law_other"]) fun _ _ _ _ _ _ us hl => match us, hl with | [_, _, _], _ => rfl
  have F_w_deepened := fun_mk (st := s_w_deepened) l27 c27 k27
  have b_w_deepened := F_w_deepened.binds (ps := ["_law_deck_here", "_law_form_here", "_law_letters"]) fun _ _ _ _ _ _ us hl => match us, hl with | [_, _, _], _ => rfl
  have F_law := fun_mk (st := s_law) l28 c28 k28
  have m_all := PySem.W.mg_none_of X G z_all
  have m_bool := PySem.W.mg_none_of X G z_bool
  have m_int := PySem.W.mg_none_of X G z_int
  have m_isinstance := PySem.W.mg_none_of X G z_isinstance
  have m_len := PySem.W.mg_none_of X G z_len
  have m_list := PySem.W.mg_none_of X G z_list
  have m_range := PySem.W.mg_none_of X G z_range
  have m_sorted := PySem.W.mg_none_of X G z_sorted
  have m_sum := PySem.W.mg_none_of X G z_sum
  have m_tuple := PySem.W.mg_none_of X G z_tuple
  have m_zip := PySem.W.mg_none_of X G z_zip
  have g_REASONS := PySem.W.mg_of X G gg_REASONS
  have wd_REASONS : WD K w aa_REASONS t_REASONS := ⟨⟨_, _, ll_REASONS, kl_REASONS, tt_REASONS⟩, lo_REASONS⟩
  have g_SHAPES := PySem.W.mg_of X G gg_SHAPES
  have wd_SHAPES : WD K w aa_SHAPES t_SHAPES := ⟨⟨_, _, ll_SHAPES, kl_SHAPES, tt_SHAPES⟩, lo_SHAPES⟩
  have g_RULES := PySem.W.mg_of X G gg_RULES
  have fd_RULES : FD K w aa_RULES [(("again" : Str), f1), (("itself" : Str), f2), (("both" : Str), f3), (("left" : Str), f4), (("right" : Str), f5), (("orleft" : Str), f6), (("orright" : Str), f7), (("then" : Str), f8), (("absurd" : Str), f9), (("nothing" : Str), f10), (("at" : Str), f11), (("such" : Str), f12), (("put" : Str), f13)] := ⟨⟨_, _, ll_RULES, kl_RULES, ft_RULES⟩⟩
  refine law_many [(c_puts, T_puts)] Tp X (fun p hp => ?_) hno (fd := PySem.W.fnOf "law" "law" (defArgs s_law) (defBody s_law) (defScope s_law) .none kV28 dc28 pm28 an28 cd28 ct28) (sp := spLawT K [T_puts]) (fun s v => .of_eq rfl) (fun H a ns t hS => ⟨a, ns, rfl, hS, fun T hT => ?_, fun _ => rfl⟩) (fun base hb hg hTB => ?_)
  · simp only [List.mem_cons, List.not_mem_nil, or_false] at hp
    subst hp
    exact ⟨_, _, hrec_puts, htab_puts⟩
  · have h9 : T ∈ ([(c_puts, T_puts)] : List (Addr × Addr)).map (·.2) := hT
    obtain ⟨p, hp, rfl⟩ := List.mem_map.mp h9
    exact t p hp
  have C_pieces : ∀ d c, Lc.Dn l.prog w K mg base "pieces" ["form", "wanted"] 1 (spD ⟨K, hdD d⟩ (Zt9 d c [T_puts]) 2 K_pieces) := fun d c => ⟨f0, _, F_pieces.kp, PySem.W.mg_of X G a0, b_pieces, P_pieces (k := 0) F_pieces m_zip g_SHAPES wd_SHAPES⟩
  have C_puts : ∀ d c, Lc.Dn l.prog w K mg base "puts" ["t", "u", "old", "new"] 49 (spD ⟨K, hdD d⟩ (Zt9 d c [T_puts]) 4 (Fpu 16)) := fun d c => ⟨f14, _, F_puts.kp, PySem.W.mg_of X G a14, b_puts, R_puts F_puts (funC_mk (st := s_puts) l14 c14) (hTB (c_puts, T_puts) (by simp)) (ztab9 (by simp)) (PySem.W.mg_of X G a14) b_puts F_puts_at (PySem.W.mg_of X G a15) b_puts_at (C_pieces d c) m_all m_zip g_SHAPES wd_SHAPES 16⟩
  have Q_is_put : ∀ d c, FnOk l.prog w K mg base CX0 50 f13 _ ["form", "forms", "name"] (spD ⟨K, hdD d⟩ (Zt9 d c [T_puts]) 3 (K_is_put (Fpu 16))) := fun d c => P_is_put (k := 49) F_is_put (C_puts d c) (by decide)
  have C_is_put : ∀ d c, Lc.Dn l.prog w K mg base "is_put" ["form", "forms", "name"] 50 (spD ⟨K, hdD d⟩ (Zt9 d c [T_puts]) 3 (K_is_put (Fpu 16))) := fun d c => ⟨f13, _, F_is_put.kp, PySem.W.mg_of X G a13, b_is_put, P_is_put (k := 49) F_is_put (C_puts d c) (by decide)⟩
  have ok_RULES : ∀ d c, TbOk l.prog w K mg base 50 ⟨K, hdD d⟩ (Zt9 d c [T_puts]) 3 [(("again" : Str), (fun _ _ => none)), (("itself" : Str), (fun _ _ => none)), (("both" : Str), (fun _ _ => none)), (("left" : Str), (fun _ _ => none)), (("right" : Str), (fun _ _ => none)), (("orleft" : Str), (fun _ _ => none)), (("orright" : Str), (fun _ _ => none)), (("then" : Str), (fun _ _ => none)), (("absurd" : Str), (fun _ _ => none)), (("nothing" : Str), (fun _ _ => none)), (("at" : Str), (fun _ _ => none)), (("such" : Str), (fun _ _ => none)), (("put" : Str), (K_is_put (Fpu 16)))] [(("again" : Str), f1), (("itself" : Str), f2), (("both" : Str), f3), (("left" : Str), f4), (("right" : Str), f5), (("orleft" : Str), f6), (("orright" : Str), f7), (("then" : Str), f8), (("absurd" : Str), f9), (("nothing" : Str), f10), (("at" : Str), f11), (("such" : Str), f12), (("put" : Str), f13)] := fun d c => ⟨rfl, ⟨_, _, _, F_is_again.kp, b_is_again, Nat.le_refl _, fn_no⟩, rfl, ⟨_, _, _, F_is_itself.kp, b_is_itself, Nat.le_refl _, fn_no⟩, rfl, ⟨_, _, _, F_is_both.kp, b_is_both, Nat.le_refl _, fn_no⟩, rfl, ⟨_, _, _, F_is_left.kp, b_is_left, Nat.le_refl _, fn_no⟩, rfl, ⟨_, _, _, F_is_right_side.kp, b_is_right_side, Nat.le_refl _, fn_no⟩, rfl, ⟨_, _, _, F_is_or_left.kp, b_is_or_left, Nat.le_refl _, fn_no⟩, rfl, ⟨_, _, _, F_is_or_right.kp, b_is_or_right, Nat.le_refl _, fn_no⟩, rfl, ⟨_, _, _, F_is_then.kp, b_is_then, Nat.le_refl _, fn_no⟩, rfl, ⟨_, _, _, F_is_absurd.kp, b_is_absurd, Nat.le_refl _, fn_no⟩, rfl, ⟨_, _, _, F_is_of_nothing.kp, b_is_of_nothing, Nat.le_refl _, fn_no⟩, rfl, ⟨_, _, _, F_is_at.kp, b_is_at, Nat.le_refl _, fn_no⟩, rfl, ⟨_, _, _, F_is_such.kp, b_is_such, Nat.le_refl _, fn_no⟩, rfl, ⟨_, _, _, F_is_put.kp, b_is_put, (by decide), Q_is_put d c⟩, trivial⟩
  have D_follows : ∀ d c, Dn1 l.prog w K mg base "follows" ["word", "form", "forms", "name"] 51 (spD ⟨K, hdD d⟩ (Zt9 d c [T_puts]) 4 (K_follows (fun _ _ => none) (fun _ _ => none) (fun _ _ => none) (fun _ _ => none) (fun _ _ => none) (fun _ _ => none) (fun _ _ => none) (fun _ _ => none) (fun _ _ => none) (fun _ _ => none) (fun _ _ => none) (fun _ _ => none) (K_is_put (Fpu 16)))) := fun d c => ⟨f16, _, F_follows.kp, PySem.W.mg_of X G a16, ds1_16, rd1_16, b1_follows, P_follows (k := 50) F_follows g_RULES fd_RULES lo_RULES (ok_RULES d c) m_len g_REASONS wd_REASONS⟩
  have C_follows : ∀ d c, Lc.Dn l.prog w K mg base "follows" ["word", "form", "forms", "name"] 51 (spD ⟨K, hdD d⟩ (Zt9 d c [T_puts]) 4 (K_follows (fun _ _ => none) (fun _ _ => none) (fun _ _ => none) (fun _ _ => none) (fun _ _ => none) (fun _ _ => none) (fun _ _ => none) (fun _ _ => none) (fun _ _ => none) (fun _ _ => none) (fun _ _ => none) (fun _ _ => none) (K_is_put (Fpu 16)))) := fun d c => ⟨f16, _, F_follows.kp, PySem.W.mg_of X G a16, b_follows, P_follows (k := 50) F_follows g_RULES fd_RULES lo_RULES (ok_RULES d c) m_len g_REASONS wd_REASONS⟩
  have C_deck : Lc.Dn l.prog w K mg base "_law_deck" ["_law_script"] 1 (spDeck K) := ⟨f17, _, F_w_deck.kp, PySem.W.mg_of X G a17, b_w_deck, ok_w_deck F_w_deck m_list m_sum⟩
  have C_w_draw : ∀ d c, Lc.Dn l.prog w K mg base "_law_draw" ["_law_deck_here", "_law_most"] 1 (spD ⟨K, hdD d⟩ (Zt9 d c [T_puts]) 2 Fdraw9) := fun d c => ⟨f18, _, F_w_draw.kp, PySem.W.mg_of X G a18, b_w_draw, fn_zt9 (D_draw F_w_draw)⟩
  have C_w_word : ∀ d c, Lc.Dn l.prog w K mg base "_law_word" ["_law_deck_here", "_law_most"] 2 (spD ⟨K, hdD d⟩ (Zt9 d c [T_puts]) 2 (K_w_word Fdraw9)) := fun d c => ⟨f19, _, F_w_word.kp, PySem.W.mg_of X G a19, b_w_word, P_w_word (k := 1) F_w_word (C_w_draw d c) (by decide) m_range⟩
  have C_w_some : ∀ d c, Lc.Dn l.prog w K mg base "_law_some" ["_law_deck_here", "_law_many", "_law_heads", "_law_tail", "_law_most"] 3 (spD ⟨K, hdD d⟩ (Zt9 d c [T_puts]) 5 (K_w_some Fdraw9 (K_w_word Fdraw9))) := fun d c => ⟨f20, _, F_w_some.kp, PySem.W.mg_of X G a20, b_w_some, P_w_some (k := 2) F_w_some (C_w_draw d c) (by decide) (C_w_word d c) (by decide) m_range m_len m_list m_tuple m_sorted⟩
  have C_w_vocabulary : ∀ d c, Lc.Dn l.prog w K mg base "_law_vocabulary" ["_law_deck_here", "_law_names", "_law_kinds", "_law_doings"] 4 (spD ⟨K, hdD d⟩ (Zt9 d c [T_puts]) 4 (K_w_vocabulary (K_w_some Fdraw9 (K_w_word Fdraw9)) Fdraw9)) := fun d c => ⟨f21, _, F_w_vocabulary.kp, PySem.W.mg_of X G a21, b_w_vocabulary, P_w_vocabulary (k := 3) F_w_vocabulary (C_w_some d c) (by decide) (C_w_draw d c) (by decide)⟩
  have C_w_sum : ∀ d c, Lc.Dn l.prog w K mg base "_law_sum" ["_law_deck_here", "_law_kinds"] 2 (spD ⟨K, hdD d⟩ (Zt9 d c [T_puts]) 2 (K_w_sum Fdraw9)) := fun d c => ⟨f22, _, F_w_sum.kp, PySem.W.mg_of X G a22, b_w_sum, P_w_sum (k := 1) F_w_sum (C_w_draw d c) (by decide) m_tuple⟩
  have C_w_atom : ∀ d c, Lc.Dn l.prog w K mg base "_law_atom" ["_law_deck_here", "_law_vocabulary_here", "_law_letters"] 3 (spD ⟨K, hdD d⟩ (Zt9 d c [T_puts]) 3 (K_w_atom Fdraw9 (K_w_sum Fdraw9))) := fun d c => ⟨f23, _, F_w_atom.kp, PySem.W.mg_of X G a23, b_w_atom, P_w_atom (k := 2) F_w_atom (C_w_draw d c) (by decide) (C_w_sum d c) (by decide) m_list m_len⟩
  have C_w_form : ∀ d c, Lc.Dn l.prog w K mg base "_law_form" ["_law_deck_here", "_law_vocabulary_here", "_law_letters", "_law_deep"] 7 (spD ⟨K, hdD d⟩ (Zt9 d c [T_puts]) 4 (Fform 4)) := fun d c => ⟨f24, _, F_w_form.kp, PySem.W.mg_of X G a24, b_w_form, R_w_form F_w_form (PySem.W.mg_of X G a24) b_w_form (C_w_draw d c) (C_w_atom d c) 4⟩
  have C_w_terms : ∀ d c, Lc.Dn l.prog w K mg base "_law_terms" ["_law_form_here"] 1 (spD ⟨K, hdD d⟩ (Zt9 d c [T_puts]) 1 K_w_terms) := fun d c => ⟨f25, _, F_w_terms.kp, PySem.W.mg_of X G a25, b_w_terms, P_w_terms (k := 0) F_w_terms⟩
  have C_w_variants : ∀ d c, Lc.Dn l.prog w K mg base "_law_variants" ["_law_form_here", "_law_one", "_law_other"] 17 (spD ⟨K, hdD d⟩ (Zt9 d c [T_puts]) 3 (Fva 16)) := fun d c => ⟨f26, _, F_w_variants.kp, PySem.W.mg_of X G a26, b_w_variants, R_w_variants F_w_variants (PySem.W.mg_of X G a26) b_w_variants (C_w_terms d c) 16⟩
  have C_w_deepened : ∀ d c, Lc.Dn l.prog w K mg base "_law_deepened" ["_law_deck_here", "_law_form_here", "_law_letters"] 2 (spD ⟨K, hdD d⟩ (Zt9 d c [T_puts]) 3 (K_w_deepened Fdraw9)) := fun d c => ⟨f27, _, F_w_deepened.kp, PySem.W.mg_of X G a27, b_w_deepened, P_w_deepened (k := 1) F_w_deepened (C_w_draw d c) (by decide) m_range m_len⟩
  exact ok_law F_law C_deck fun d c cdv A outer s H E hr => P_law (C_w_draw d c) (by decide) (C_w_vocabulary d c) (by decide) (C_w_deepened d c) (by decide) (C_w_form d c) (by decide) (C_w_variants d c) (by decide) (C_follows d c) (by decide) (D_follows d c) m_range m_int m_len m_isinstance m_bool hr
end K32
open PySem PySem.W PyProof.Rows
set_option maxHeartbeats 0 in
theorem PySem.Challenge.cw_linecourt_k32_put_in_its_place_holds : PySem.Challenge.rw_linecourt_k32_put_in_its_place.Holds := by
  w_on; o_law; k_head; (case hw => w_witness2)
  k_fill
  refine Lc.walk_tab (l := PySem.Challenge.rw_linecourt_k32_put_in_its_place) (n := 63) (k := 52) (x := "_law_script") (CX := fun _ => L2.CX0) rfl (by decide) rfl ⟨rfl, by decide, by decide⟩ (fun w h Y => PySem.W.kIn_of Y) ?F (fun _ _ _ _ _ h => h)
  case F =>
    intro w mean mg mb fa h Tp KX hmg
    refine' K32.all_mk Tp KX hmg ?a0 ?l0 ?c0 ?k0 ?a1 ?l1 ?c1 ?k1 ?a2 ?l2 ?c2 ?k2 ?a3 ?l3 ?c3 ?k3 ?a4 ?l4 ?c4 ?k4 ?a5 ?l5 ?c5 ?k5 ?a6 ?l6 ?c6 ?k6 ?a7 ?l7 ?c7 ?k7 ?a8 ?l8 ?c8 ?k8 ?a9 ?l9 ?c9 ?k9 ?a10 ?l10 ?c10 ?k10 ?a11 ?l11 ?c11 ?k11 ?a12 ?l12 ?c12 ?k12 ?a13 ?l13 ?c13 ?k13 ?a14 ?l14 ?c14 ?k14 ?hrec_puts ?htab_puts ?a15 ?l15 ?c15 ?k15 ?a16 ?l16 ?c16 ?k16 ?ld16 ?vd16 ?a17 ?l17 ?c17 ?k17 ?a18 ?l18 ?c18 ?k18 ?a19 ?l19 ?c19 ?k19 ?a20 ?l20 ?c20 ?k20 ?a21 ?l21 ?c21 ?k21 ?a22 ?l22 ?c22 ?k22 ?a23 ?l23 ?c23 ?k23 ?a24 ?l24 ?c24 ?k24 ?a25 ?l25 ?c25 ?k25 ?a26 ?l26 ?c26 ?k26 ?a27 ?l27 ?c27 ?k27 ?a28 ?l28 ?c28 ?k28 ?z_all ?z_bool ?z_int ?z_isinstance ?z_len ?z_list ?z_range ?z_sorted ?z_sum ?z_tuple ?z_zip ?gg_REASONS ?ll_REASONS ?kl_REASONS ?tt_REASONS ?lo_REASONS ?gg_SHAPES ?ll_SHAPES ?kl_SHAPES ?tt_SHAPES ?lo_SHAPES ?gg_RULES ?ll_RULES ?kl_RULES ?ft_RULES ?lo_RULES ?hno
    (case a0 => k_is); (case l0 => k_is); (case c0 => k_is); (case k0 => k_is); (case a1 => k_is); (case l1 => k_is); (case c1 => k_is); (case k1 => k_is); (case a2 => k_is); (case l2 => k_is); (case c2 => k_is); (case k2 => k_is); (case a3 => k_is); (case l3 => k_is); (case c3 => k_is); (case k3 => k_is); (case a4 => k_is); (case l4 => k_is); (case c4 => k_is); (case k4 => k_is); (case a5 => k_is); (case l5 => k_is); (case c5 => k_is); (case k5 => k_is); (case a6 => k_is); (case l6 => k_is); (case c6 => k_is); (case k6 => k_is); (case a7 => k_is); (case l7 => k_is); (case c7 => k_is); (case k7 => k_is); (case a8 => k_is); (case l8 => k_is); (case c8 => k_is); (case k8 => k_is); (case a9 => k_is); (case l9 => k_is); (case c9 => k_is); (case k9 => k_is); (case a10 => k_is); (case l10 => k_is); (case c10 => k_is); (case k10 => k_is); (case a11 => k_is); (case l11 => k_is); (case c11 => k_is); (case k11 => k_is); (case a12 => k_is); (case l12 => k_is); (case c12 => k_is); (case k12 => k_is); (case a13 => k_is); (case l13 => k_is); (case c13 => k_is); (case k13 => k_is); (case a14 => k_is); (case l14 => k_is); (case c14 => k_is); (case k14 => k_is); (case a15 => k_is); (case l15 => k_is); (case c15 => k_is); (case k15 => k_is); (case a16 => k_is); (case l16 => k_is); (case c16 => k_is); (case k16 => k_is); (case ld16 => k_is); (case a17 => k_is); (case l17 => k_is); (case c17 => k_is); (case k17 => k_is); (case a18 => k_is); (case l18 => k_is); (case c18 => k_is); (case k18 => k_is); (case a19 => k_is); (case l19 => k_is); (case c19 => k_is); (case k19 => k_is); (case a20 => k_is); (case l20 => k_is); (case c20 => k_is); (case k20 => k_is); (case a21 => k_is); (case l21 => k_is); (case c21 => k_is); (case k21 => k_is); (case a22 => k_is); (case l22 => k_is); (case c22 => k_is); (case k22 => k_is); (case a23 => k_is); (case l23 => k_is); (case c23 => k_is); (case k23 => k_is); (case a24 => k_is); (case l24 => k_is); (case c24 => k_is); (case k24 => k_is); (case a25 => k_is); (case l25 => k_is); (case c25 => k_is); (case k25 => k_is); (case a26 => k_is); (case l26 => k_is); (case c26 => k_is); (case k26 => k_is); (case a27 => k_is); (case l27 => k_is); (case c27 => k_is); (case k27 => k_is); (case a28 => k_is); (case l28 => k_is); (case c28 => k_is); (case k28 => k_is); (case z_all => k_is); (case z_bool => k_is); (case z_int => k_is); (case z_isinstance => k_is); (case z_len => k_is); (case z_list => k_is); (case z_range => k_is); (case z_sorted => k_is); (case z_sum => k_is); (case z_tuple => k_is); (case z_zip => k_is); (case gg_REASONS => k_is); (case ll_REASONS => k_is); (case gg_SHAPES => k_is); (case ll_SHAPES => k_is); (case gg_RULES => k_is); (case ll_RULES => k_is)
    (case hrec_puts => rfl)
    (case htab_puts => (first | rfl | k_is))
    (case vd16 => rfl)
    (case kl_REASONS => exact He.keysLit_of (ks := [("given" : PySem.Str), ("supposed" : PySem.Str), ("any" : PySem.Str), ("called" : PySem.Str), ("again" : PySem.Str), ("itself" : PySem.Str), ("both" : PySem.Str), ("left" : PySem.Str), ("right" : PySem.Str), ("orleft" : PySem.Str), ("orright" : PySem.Str), ("then" : PySem.Str), ("absurd" : PySem.Str), ("nothing" : PySem.Str), ("at" : PySem.Str), ("such" : PySem.Str), ("put" : PySem.Str), ("soif" : PySem.Str), ("not" : PySem.Str), ("contrary" : PySem.Str), ("cases" : PySem.Str), ("forany" : PySem.Str), ("forsome" : PySem.Str), ("meaning" : PySem.Str), ("earlier" : PySem.Str), ("asmany" : PySem.Str), ("one" : PySem.Str), ("two" : PySem.Str), ("someof" : PySem.Str), ("none" : PySem.Str), ("nomore" : PySem.Str), ("apart" : PySem.Str), ("cover" : PySem.Str), ("turned" : PySem.Str), ("sums" : PySem.Str), ("by" : PySem.Str), ("clearly" : PySem.Str)]) rfl)
    (case tt_REASONS => (first | rfl | decide +kernel | k_is))
    (case lo_REASONS => (first | rfl | decide | decide +kernel))
    (case kl_SHAPES => exact He.keysLit_of (ks := [("is" : PySem.Str), ("does" : PySem.Str), ("same" : PySem.Str), ("least" : PySem.Str), ("false" : PySem.Str), ("not" : PySem.Str), ("and" : PySem.Str), ("or" : PySem.Str), ("if" : PySem.Str), ("every" : PySem.Str), ("some" : PySem.Str)]) rfl)
    (case tt_SHAPES => (first | rfl | decide +kernel | k_is))
    (case lo_SHAPES => (first | rfl | decide | decide +kernel))
    (case kl_RULES => exact He.keysLit_of (ks := [("again" : PySem.Str), ("itself" : PySem.Str), ("both" : PySem.Str), ("left" : PySem.Str), ("right" : PySem.Str), ("orleft" : PySem.Str), ("orright" : PySem.Str), ("then" : PySem.Str), ("absurd" : PySem.Str), ("nothing" : PySem.Str), ("at" : PySem.Str), ("such" : PySem.Str), ("put" : PySem.Str)]) rfl)
    (case ft_RULES => (first | rfl | decide +kernel | k_is))
    (case lo_RULES => (first | rfl | decide | decide +kernel))
    (case hno => (first | rfl | decide +kernel | k_is))
