import PyProof.Rows.All
import Wide.All
import OpenK.AllK
import Wide.FinOn
import HandS.SetFor
import HandS.SetTxt0
import HandS.Strs
import PyProof.Rows.SortShellAny
import KE.GoesSet
import PyProof.MeetsSeq2
import HandS.Zip
import HandS.ForMost
import HandS.More
import HandS.Wide
import HandS.IsInst
import HandS.Flow
import HandS.Replace
import HandS.Evl
import HandS.Walk
import HandS.TupAny
import HandS.Deep
import HandS.FStr
import PyProof.NeData
import PyProof.EnumIter
import PyProof.EnumMake
import PyProof.EnumFor
import PyProof.TupleIter
import PyProof.WalksMore
import HandS.Zip0
import PyProof.ListStr
import HandS.AnyAll
import HandS.Nested
import HandS.EndTab
import HandS.GenOver
import HandS.Conv
import KE.GoesMore
import KE.GoesEnum
import HandS.Style
import KE.KRevSl
import HandS.WordsDict
import HandS.Star
import HandS.Dict
import HandS.ListItems
import KE.KDictPairs
import HandS.Rev
import KE.KDictList
import HandS.HeadHook3
import PySem.Challenge.RW_linecourt_k42_whole_summed_kind_by_kind
set_option Elab.async false
set_option linter.all false
set_option maxRecDepth 100000
set_option maxHeartbeats 4000000
/-! sets of texts that can be walked -/
namespace Ds
open PySem PySem.Spec PyProof.Rows PySem.Froz
/-- the table rises, and its order is told or led -/
def Wlk (w : World) (t : SetTable) : Prop := L2.Ris t.place.toList ∧ (w.params.followText "set-order" = true ∨ t.led = true)
/-- the set at a has the members l, each once -/
def TSet (P : Program) (w : World) (h : Heap) (a : Addr) (l : List Str) : Prop :=
  ∃ D : SD, h.get? a = some (sObj "set" D) ∧ TxOk P w D l ∧ l.Nodup ∧ l.length < scanBound ∧ Wlk w D.2.2
section
variable {P : Program} {w : World} {h h' : Heap} {a : Addr} {l : List Str}
theorem TSet.mv (T : TSet P w h a l) (k : ∀ o, h.get? a = some o → h'.get? a = some o) : TSet P w h' a l := by
  obtain ⟨D, e, r⟩ := T
  exact ⟨D, k _ e, r⟩
theorem wlk_add {D : SD} {hs : Int} {v : Value} (k : Wlk w D.2.2) : Wlk w (addTx hs v D).2.2 := by
  obtain ⟨r, e⟩ := k
  have r1 := L2.layNew_ris D.2.2 D.1 hs v r
  have e1 := L2.layNew_led D.2.2 D.1 hs v
  have k1 : ∀ t : SetTable, t = (if (layNew D.2.2 D.1 hs v).2.1.plain = true then { (layNew D.2.2 D.1 hs v).2.1 with plain := false } else (layNew D.2.2 D.1 hs v).2.1) → Wlk w t := fun t ht => by
    subst ht
    split
    · exact ⟨r1, e.imp id fun z => e1.trans z⟩
    · exact ⟨r1, e.imp id fun z => e1.trans z⟩
  unfold addTx tailTx
  have k2 := k1 _ rfl
  generalize (if (layNew D.2.2 D.1 hs v).2.1.plain = true then { (layNew D.2.2 D.1 hs v).2.1 with plain := false } else (layNew D.2.2 D.1 hs v).2.1) = t at k2 ⊢
  split
  · exact ⟨L2.relayAll_ris _ _ _, k2.2.imp id fun z => (L2.relayAll_led _ _ _).trans z⟩
  · exact k2
end
section
variable {P : Program} {w : World} {A : Around} {E : Value → Shared → Prop} {s : Shared} {a : Addr} {l : List Str}
/-- the members behind an add -/
def plus (l : List Str) (k : Str) : List Str := if k ∈ l then l else k :: l
/-- what is there already is found -/
theorem add_there {T : String} {D : SD} {k : Str} {u : Tok} {Q : Bool → Shared → Prop} (ho : s.heap.get? a = some (sObj T D)) (F : TxOk P w D l) (hk : k ∈ l) (hb : l.length < scanBound) (h : Q false s) : wpAny (model P w) A (setAddHashed a (.str k u) (hashStr w k)) Q E s := by
  obtain ⟨es, ep, t⟩ := D
  have hsz : es.size = l.length := F.sz
  have hd : (sObj T (es, ep, t)).data = .set es ep t := rfl
  obtain ⟨e, he, hq⟩ := (F.mem k).mp hk
  unfold setAddHashed setAddHashedIn
  refine wpAny_holding (wpAny_bind (wpAny_setState_of ho hd F.fit ?_))
  dsimp only
  have hb0 : es.size < scanBound := by omega
  have hel : ElemsOf (strKind P w) es.toList := F.el
  rw [byScan_of rfl hb0 hel]
  simp only [↓reduceIte]
  unfold setAddByScan
  refine wpAny_bind (wpAny_bind (wpAny_rule (wpAny_bind (wpAny_setScan_of (knd := strKind P w) (k := k) (is_str k u) ho hd F.fit F.el ?_))))
  cases q : List.findIdx? (fun e => (strKind P w).is k e.2) es.toList with
  | some j =>
    dsimp only
    exact wpAny_pure (wpAny_pure h)
  | none =>
    have c := List.findIdx?_eq_none_iff.mp q e he
    rw [hq] at c
    cases c
theorem TSet.add {k : Str} {u : Tok} {Q : Bool → Shared → Prop} (T : TSet P w s.heap a l) (hb : l.length + 1 < scanBound) (h : ∀ b h', Heap.SameBut a s.heap h' → TSet P w h' a (plus l k) → Q b { s with heap := h' }) :
    wpAny (model P w) A (setAddHashed a (.str k u) (hashStr w k)) Q E s := by
  obtain ⟨D, e, F, nd, hl, wk⟩ := T
  unfold plus at h
  by_cases c : k ∈ l
  · rw [if_pos c] at h
    exact add_there e F c hl (h false s.heap (Heap.SameBut.refl a s.heap) ⟨D, e, F, nd, hl, wk⟩)
  · rw [if_neg c] at h
    refine add_x e F c hb (h true _ (Heap.SameBut.update s.heap a _) ⟨_, get_upd _ e rfl, add_ok u F, List.nodup_cons.mpr ⟨c, nd⟩, hb, wlk_add wk⟩)
end
end Ds
set_option Elab.async false
set_option linter.all false
set_option maxRecDepth 100000
set_option maxHeartbeats 4000000
namespace Ds
open PySem PySem.Spec PyProof.Rows PySem.Froz
def gath (xs : List Str) : List Str := xs.foldl plus []
section
variable {P : Program} {w : World} {A : Around} {E : Value → Shared → Prop} {s : Shared}
variable {x : Addr} {items : Array Value} {xs : List Str} {Q : Value → Shared → Prop}
end
end Ds
set_option Elab.async false
set_option linter.all false
set_option maxRecDepth 100000
set_option maxHeartbeats 4000000
namespace Ds
open PySem PySem.Spec PyProof.Rows PySem.Froz
theorem perm_of : ∀ (l ks : List Str), l.Nodup → (∀ x ∈ l, x ∈ ks) → ks.length ≤ l.length → l.Perm ks
  | [], ks, _, _, hn => by
    have : ks = [] := List.length_eq_zero_iff.mp (Nat.le_zero.mp hn)
    rw [this]
  | a :: l, ks, nd, hs, hn => by
    obtain ⟨n1, n2⟩ := List.nodup_cons.mp nd
    have ha : a ∈ ks := hs a List.mem_cons_self
    have hp := List.perm_cons_erase ha
    have hl := hp.length_eq
    rw [List.length_cons] at hl hn
    refine List.Perm.trans (List.Perm.cons a (perm_of l (ks.erase a) n2 (fun x hx => ?_) (by omega))) hp.symm
    exact (List.mem_erase_of_ne (fun z : x = a => n1 (z ▸ hx))).mpr (hs x (List.mem_cons_of_mem _ hx))
def strOf : Value → Str
  | .str k _ => k
  | _ => Str.empty
theorem str_is {k : Str} {v : Value} (h : Value.isStrOf k v = true) : ∃ t, v = .str k t := by
  unfold Value.isStrOf at h
  split at h
  · rename_i y t
    exact ⟨t, by rw [show y = k from by simpa using h]⟩
  · cases h
section
variable {P : Program} {w : World} {A : Around} {E : Value → Shared → Prop} {s : Shared} {a : Addr} {l : List Str}
theorem elem_str {es : List (Int × Value)} (h : ElemsOf (strKind P w) es) : ∀ e ∈ es, ∃ k t, e.2 = .str k t ∧ e.1 = hashStr w k := fun e he => by
  obtain ⟨⟨k, h1, h2⟩, _⟩ := h e he
  obtain ⟨t, e1⟩ := str_is h1
  exact ⟨k, t, e1, h2⟩
theorem keys_perm {D : SD} (F : TxOk P w D l) (nd : l.Nodup) : l.Perm (D.1.toList.map fun e => strOf e.2) := by
  refine perm_of l _ nd (fun x hx => ?_) ?_
  · obtain ⟨e, he, q⟩ := (F.mem x).mp hx
    obtain ⟨t, e1⟩ := str_is q
    exact List.mem_map.mpr ⟨e, he, by rw [e1]; rfl⟩
  · rw [List.length_map, Array.length_toList, F.sz]
    exact Nat.le_refl _
theorem strs_of : ∀ (vs : List Value), (∀ v ∈ vs, ∃ k t, v = Value.str k t) → StrsAre vs (vs.map strOf)
  | [], _ => .nil
  | v :: vs, h => by
    obtain ⟨k, t, rfl⟩ := h v List.mem_cons_self
    exact .cons k t (strs_of vs fun u hu => h u (List.mem_cons_of_mem _ hu))
/-- sorted(x), x a set of texts -/
theorem TSet.sorted {Q : Value → Shared → Prop} (T : TSet P w s.heap a l) (hh : A.handled = none)
    (q : ∀ s' p (out : Array Value) (c : Nat) (ys : List Str), (∀ b o, s.heap.get? b = some o → s'.heap.get? b = some o) → s'.gens = s.gens → s'.os = s.os → s.heap.objs.size ≤ p → s'.heap.get? p = some (seqObj "list" out c) → StrsAre out.toList ys → ys.Perm l → sortedS ys = true → Q (.ref p) s') :
    wpAny (model P w) A (call (.builtin "sorted") [.ref a]) Q E s := by
  obtain ⟨D, e, F, nd, hl, r, ld⟩ := T
  obtain ⟨es, ep, t⟩ := D
  have hsz : es.size = l.length := F.sz
  have hb : es.size < scanBound := by omega
  have kp := keys_perm F nd
  refine Calls.call_function_entry kind_sorted plain_sorted entry_sorted (args_sorted1 _) ?_
  unfold Builtin.«sorted»
  refine wpAny_bind (m := checkCount "sorted" 1 1 _) (wpAny_pure (wpAny_bind (L2.collect_set (A := A.in1) hh ⟨_, e, rfl, rfl⟩ F.fit hb r ld fun s1 vs k1 z1 g1 o1 pm => ?_)))
  have hS := strs_of vs fun v hv => by
    obtain ⟨x, hx, e2⟩ := List.mem_map.mp (pm.mem_iff.mp hv)
    obtain ⟨k, u, h1, _⟩ := elem_str F.el x hx
    exact ⟨k, u, e2.symm.trans h1⟩
  have pk : (vs.map strOf).Perm l := by
    have p2 := pm.map strOf
    rw [List.map_map] at p2
    exact p2.trans kp.symm
  have hvl : vs.length ≤ sizeLine := by
    have := pk.length_eq
    rw [List.length_map] at this
    rw [this]
    exact fits_of_scanBound hl
  refine wpAny_bind (wpAny_newList ?_ hvl)
  have hoL : (s1.heap.push (seqObj "list" vs.toArray 0)).get? s1.heap.objs.size = some (seqObj "list" vs.toArray 0) := Heap.get?_push_size _ rfl
  refine wpAny_bind (wpAny_holding (wpAny_call_entry slot_list_sort ⟨_, hoL, rfl⟩ entry_list_sort (list_sort_treeKAny strKind_oneLt hoL hS.keysOf (fun v₁ v₂ rest e => keyKind_strs (by rw [← e]; exact hS)) hvl fun st hp hs => ⟨_, rfl, ?_⟩) (args_list_sort _)))
  obtain ⟨ys, y1, y2, y3⟩ := sorted_out_str hS hp hs
  obtain ⟨c, hc⟩ := sortedHeap_at (vs := vs) (out := (arrOf st).map (·.2)) hoL
  refine wpAny_pure ⟨_, rfl, q _ s1.heap.objs.size _ c ys (fun b o hbo => ?_) g1 o1 z1 hc y1 (y2.trans pk) y3⟩
  have h2 := k1 b o hbo
  have hlt := Heap.lt_size h2
  show (sortedHeap (s1.heap.push (seqObj "list" vs.toArray 0)) s1.heap.objs.size vs ((arrOf st).map (·.2))).get? b = some o
  rw [sortedHeap_old (Nat.ne_of_lt hlt) (by rw [size_push']; exact Nat.lt_succ_of_lt hlt)]
  exact Heap.get?_push_of_some _ h2
end
end Ds
set_option Elab.async false
set_option linter.all false
set_option maxRecDepth 100000
set_option maxHeartbeats 4000000
namespace Ds
open PySem PySem.Spec PyProof.Rows PySem.Froz
section
variable {P : Program} {w : World} {A : Around} {E : Value → Shared → Prop} {s : Shared} {a b r : Addr} {l la lb : List Str}
theorem TSet.ty (T : TSet P w s.heap a l) : s.TypeIs (.ref a) "set" := by
  obtain ⟨D, e, _⟩ := T
  exact ⟨_, e, rfl⟩
end
end Ds
set_option Elab.async false
set_option linter.all false
set_option maxRecDepth 100000
set_option maxHeartbeats 4000000
namespace Ds
open PySem PySem.Spec PyProof.Rows PySem.Froz
section
variable {P : Program} {w : World} {A : Around} {E : Value → Shared → Prop} {s : Shared} {a b r : Addr} {l la lb : List Str}
theorem TSet.size {Q : Nat → Shared → Prop} (T : TSet P w s.heap a l) (q : Q l.length s) : wpAny (model P w) A (Builtin.Frozenset.sizeOf a) Q E s := by
  obtain ⟨D, e, F, _⟩ := T
  unfold Builtin.Frozenset.sizeOf
  have hz := F.sz
  refine wpAny_bind (wpAny_setEntries_of e rfl F.fit (wpAny_pure ?_))
  show Q D.1.size s
  rw [hz]
  exact q
end
end Ds
set_option Elab.async false
set_option linter.all false
set_option maxRecDepth 100000
set_option maxHeartbeats 4000000
namespace Ds
open PySem PySem.Spec PyProof.Rows PySem.Froz L2
section
variable {X : Cx}
end
end Ds
set_option Elab.async false
set_option linter.all false
set_option maxRecDepth 100000
set_option maxHeartbeats 4000000
namespace Lc
open PySem PySem.Spec PyProof.Rows L2
/-! ### a def that is called -/
structure Dn (P : Program) (w : World) (K : PySem.W.Frag) (mg : Str → Option Value) (base : Heap) (x : Str) (ps : List Str) (k : Nat) (sp : Sp) where
  f : Addr
  fd : FuncData
  kp : PySem.W.keepIn K (.ref f) = true
  g : mg x = some (.ref f)
  b : Binds K fd ps []
  G : FnOk P w K mg base CX0 k f fd ps sp
section
variable {X : Cx} {x : Str} {ps : List Str} {k : Nat} {sp : Sp} {e : Expr} {es : List Expr} {t : TA} {p pos : Pos}
theorem pe_dn (C : Dn X.prog X.w X.K X.mg X.base x ps k sp) (hr : Room k X.A) (hg : Gl X x) (ha : PA X (e :: es) t) (hdb : (x == ("__debug__" : Str)) = false := by decide)
    (he : starEach (e :: es) X.env = (false, eval e X.env) :: starEach es X.env := by rfl) (hpl : (backTo pos (starEach es X.env)).any (·.1) = false := by rfl) :
    PE X (.Call (.Name x p) (e :: es) [] pos) (tCall sp [] E0 t) := pe_call C.G hr hg C.g C.kp C.b .nil pass0 ha hdb he hpl
end
/-! ### frames: what is not in M stays as it is -/
def Fr (M : Addr → Prop) (H H' : Hp) : Prop := ∀ b o, H b = some o → ∃ o', H' b = some o' ∧ (¬ M b → o' = o)
theorem Fr.refl {M : Addr → Prop} (H : Hp) : Fr M H H := fun _ o h => ⟨o, h, fun _ => rfl⟩
theorem Fr.trans {M : Addr → Prop} {H H1 H2 : Hp} (a : Fr M H H1) (b : Fr M H1 H2) : Fr M H H2 := fun c o h => by
  obtain ⟨o1, h1, e1⟩ := a c o h
  obtain ⟨o2, h2, e2⟩ := b c o1 h1
  exact ⟨o2, h2, fun n => (e2 n).trans (e1 n)⟩
theorem Fr.new {M : Addr → Prop} {H : Hp} {p : Addr} {o : HO} (h : H p = none) : Fr M H (upd H p o) := fun b u e => ⟨u, by rw [upd_ne (ne_of_none e h)]; exact e, fun _ => rfl⟩
theorem Fr.mut {M : Addr → Prop} {H : Hp} {p : Addr} {o : HO} (h : M p) : Fr M H (upd H p o) := fun b u e => by
  by_cases q : b = p
  · subst q
    exact ⟨o, upd_same, fun n => absurd h n⟩
  · exact ⟨u, by rw [upd_ne q]; exact e, fun _ => rfl⟩
/-- what H does not know may change -/
theorem Fr.own {M : Addr → Prop} {H H' : Hp} {p : Addr} {o : HO} (e : Fr M H H') (h : H p = none) : Fr M H (upd H' p o) := fun b u q => by
  obtain ⟨o', h1, h2⟩ := e b u q
  exact ⟨o', by rw [upd_ne (ne_of_none q h)]; exact h1, h2⟩
theorem Fr.free {M : Addr → Prop} {H H' : Hp} {p : Addr} (e : Fr M H H') (h : H' p = none) : H p = none := by
  cases q : H p with
  | none => rfl
  | some o =>
    obtain ⟨o', h1, _⟩ := e p o q
    rw [h1] at h
    cases h
theorem Fr.at {M : Addr → Prop} {H H' : Hp} {b : Addr} {o : HO} (e : Fr M H H') (h : H b = some o) (n : ¬ M b) : H' b = some o := by
  obtain ⟨o', h1, h2⟩ := e b o h
  rw [h2 n] at h1
  exact h1
theorem Fr.of {M : Addr → Prop} {H H' : Hp} (e : Same H H') : Fr M H H' := fun b o h => ⟨o, e b o h, fun _ => rfl⟩
theorem Fr.seq {M : Addr → Prop} {K : PySem.W.Frag} {H H' : Hp} {a : Addr} {xs : List V} (e : Fr M H H') (n : ¬ M a) (h : SqL K H a xs) : SqL K H' a xs := by
  rcases h with (h | ⟨o, h⟩) | h
  · exact .inl (.inl (e.at h n))
  · exact .inl (.inr ⟨o, e.at h n⟩)
  · exact .inr h
theorem same_new {H : Hp} {p : Addr} {o : HO} (h : H p = none) : Same H (upd H p o) := fun b x e => by
  rw [upd_ne (ne_of_none e h)]
  exact e
theorem sz {n : Nat} (h : n ≤ 100000) : n ≤ sizeLine := Nat.le_trans h (by decide)
theorem szl {n : Nat} (h : n < 100000) : n < sizeLine := Nat.lt_of_lt_of_le h (by decide)
/-! ### powers by squares -/
/-! ### pigeons -/
end Lc
namespace Lc
open PySem PySem.Spec PyProof.Rows L2
/-! ### data -/
theorem lay_strs : ∀ ns : List Str, (∀ x ∈ ns, PyData.canLay0 (.str x) = true) → PyData.canLayAll0 (ns.map PyData.str) = true
  | [], _ => rfl
  | n :: r, h => by
    show (PyData.canLay0 (.str n) && PyData.canLayAll0 (r.map PyData.str)) = true
    rw [lay_strs r fun x hx => h x (List.mem_cons_of_mem _ hx), h n List.mem_cons_self]
    rfl
theorem dep_strs : ∀ ns : List Str, PyData.depthAll (ns.map PyData.str) = 0
  | [] => rfl
  | n :: r => by
    show max (PyData.depth (.str n)) (PyData.depthAll (r.map PyData.str)) = 0
    rw [dep_strs r]
    rfl
theorem cut_to (xs : List V) (k : Nat) : cutV xs none (some (k : Int)) = xs.take k := by
  unfold cutV
  rw [HT.sIx_none, HT.sIx_nat, List.drop_zero, Nat.sub_zero]
  by_cases h : k ≤ xs.length
  · rw [Nat.min_eq_left h]
  · rw [Nat.min_eq_right (by omega), List.take_length, List.take_of_length_le (by omega)]
theorem cut_from (xs : List V) (k : Nat) : cutV xs (some (k : Int)) none = xs.drop k := by
  unfold cutV
  rw [HT.sIx_none, HT.sIx_nat]
  by_cases h : k ≤ xs.length
  · rw [Nat.min_eq_left h, List.take_of_length_le]
    rw [List.length_drop]
    exact Nat.le_refl _
  · rw [Nat.min_eq_right (by omega), Nat.sub_self, List.take_zero, List.drop_of_length_le (by omega)]
end Lc
namespace Lc
open PySem PySem.Spec PyProof.Rows L2
/-! ### texts by their codes -/
def tx (l : List Nat) : Str := ⟨l.toArray⟩
theorem in_strs {x : Str} : ∀ {xs : List Str}, inV (.str x) (xs.map V.str) = decide (x ∈ xs)
  | [] => by simp [inV]
  | y :: r => by
    have ih := in_strs (x := x) (xs := r)
    unfold inV at ih ⊢
    rw [List.map_cons, List.any_cons, ih]
    show ((y == x) || decide (x ∈ r)) = decide (x ∈ y :: r)
    by_cases h : y = x
    · subst h
      simp
    · have h2 : ¬ x = y := fun e => h e.symm
      simp [h, h2]
/-- small signs alone -/
def Low (l : List Nat) : Prop := ∀ c ∈ l, 97 ≤ c ∧ c ≤ 122
theorem Low.take {a : List Nat} (h : Low a) (k : Nat) : Low (a.take k) := fun c hc => h c (List.mem_of_mem_take hc)
theorem Low.drop {a : List Nat} (h : Low a) (k : Nat) : Low (a.drop k) := fun c hc => h c (List.mem_of_mem_drop hc)
end Lc
namespace Lc
open PySem PySem.Spec PyProof.Rows L2
/-! ### the rules with the written part told, for use inside a comprehension -/
section
variable {X : Cx} (K : PySem.W.Frag)
def rLenQ (K : PySem.W.Frag) : List V → Hp → VK → Prop := fun xs H Q => ∃ p ys, xs = [.ref p] ∧ (SqL K H p ys ∨ SqT K H p ys) ∧ Q (.int ys.length) H
variable {o e : Expr} {es : List Expr} {to : TE} {t : TA} {name : Str} {apos cpos : Pos} {T id : String} {r : V → List V → Hp → VK → Prop}
end
end Lc
namespace Lc
open PySem PySem.Spec PyProof.Rows L2
end Lc
set_option Elab.async false
set_option linter.all false
set_option maxRecDepth 100000
set_option maxHeartbeats 4000000
/-! tuples made anew, told with their object: it has no dict of its own -/
namespace Dl
open PySem PySem.Spec PyProof.Rows L2
/-- the object of a new tuple -/
abbrev tpO (its : List Value) : Obj := { cls := .type "tuple", data := .seq its.toArray }
/-- what is asked of a new tuple's place -/
def NewT (H : Hp) (xs : List V) (Q : VK) : Prop := ∀ (p : Addr) (o : Obj), H p = none → o.dict = none → Q (.ref p) (upd H p (.frz o (.tup xs)))
section
variable {X : Cx} {pins : List (Addr × Obj)} {σ : L2.St} {H : Hp} {s : Shared}
/-- a tuple laid at the heap's end -/
theorem laid_new {vs : List V} {us : List Value} {Q : VK} {h' : Heap} (I : Inv X pins σ H { s with heap := h' }) (r : Vals vs us) (z : vs.length ≤ sizeLine) (q : NewT H vs Q) :
    EP X pins σ Q (.ref h'.objs.size) { s with heap := h'.push (tpO us) } := by
  have new : ObjOk X.prog X.w (upd H h'.objs.size (.frz (tpO us) (.tup vs))) (h'.push (tpO us)) h'.objs.size (.frz (tpO us) (.tup vs)) :=
    ⟨Heap.get?_push_size _ rfl, z, us, r, IsTup.new _ _⟩
  exact ⟨.ref h'.objs.size, _, I.laid (t' := s.toks) (fun b ob e => Heap.get?_push_of_some _ e) (Nat.le_refl _) new, rfl, q _ _ (I.hok.fresh (Nat.le_refl _)) rfl⟩
end
def tTupF (t : TA) : TE := fun σ H Q => t σ H fun xs H1 => xs.length ≤ sizeLine ∧ NewT H1 xs Q
theorem pe_tupF {X : Cx} {es : List Expr} {t : TA} {pos : Pos} {x1} (h : PA X es t) : PE X (.Tuple es x1 pos) (tTupF t) := by
  constructor
  intro pins s σ H Q I hq
  refine wpAny_Tuple_spliced (thn (h.run pos pins s σ H _ I hq) ?_)
  rintro us s1 ⟨xs, H1, I1, r, z, q⟩
  exact ⟨r.length ▸ z, laid_new (h' := s1.heap) I1 r z q⟩
/-- tuple(x) -/
def rTupF (K : PySem.W.Frag) : List V → Hp → VK → Prop := fun xs H Q => ∃ p ys, xs = [.ref p] ∧ ((SqL K H p ys ∧ NewT H ys Q) ∨ (SqT K H p ys ∧ Q (.ref p) H))
theorem call_tupF {X : Cx} : CallR X (.type "tuple") (rTupF X.K) := by
  intro pins s σ H xs us Q I r h
  obtain ⟨p, ys, ex, h⟩ := h
  subst ex
  obtain ⟨u, eu, rx⟩ := vals1 r
  subst eu
  cases rx
  rcases h with ⟨hq, q⟩ | ⟨hq, q⟩
  · obtain ⟨its, rv, pl, hz⟩ := I.list hq
    refine call_tuple_list pl.isList (fun h' kp => laid_new (I.kept (t' := s.toks) kp) rv hz q) ?_
    have := rv.length
    simp only [List.size_toArray]
    omega
  · obtain ⟨its, _, p1, _⟩ := I.tuple hq
    exact call_tuple_same p1 ⟨.ref p, H, I, rfl, q⟩
/-- t[lo:hi] -/
def rSlF (K : PySem.W.Frag) : V → Option Int → Option Int → Hp → VK → Prop := fun x lo hi H Q => ∃ a xs, x = .ref a ∧ SqT K H a xs ∧
  (HT.sIx xs.length 0 lo = 0 ∧ HT.sIx xs.length xs.length hi = xs.length → Q (.ref a) H) ∧ (¬ (HT.sIx xs.length 0 lo = 0 ∧ HT.sIx xs.length xs.length hi = xs.length) → NewT H (cutV xs lo hi) Q)
theorem sl_tupF {X : Cx} : SlR X (rSlF X.K) := by
  intro pins s σ H x v vl vu lo hi sl Q I rx hs pl pu ⟨a, xs, ex, hx, q1, q2⟩
  subst ex
  cases rx
  obtain ⟨its, r, ht, hz⟩ := I.tuple hx
  have hn : its.toArray.size = xs.length := by simp only [List.size_toArray]; exact r.length.symm
  refine ⟨"tuple", _, PyProof.Rows.slot_tuple_getitem.lookup, ht.typeIs, ?_⟩
  by_cases hw : HT.sIx xs.length 0 lo = 0 ∧ HT.sIx xs.length xs.length hi = xs.length
  · exact getItem_tuple_whole ht hs pl pu (hn ▸ hw) ⟨.ref a, H, I, rfl, q1 hw⟩
  · refine HT.getItem_tuple_cut ht hs pl pu (hn ▸ hw) ?_ (hn ▸ hz)
    rw [hn]
    exact laid_new (h' := s.heap) I ((r.drop _).take _) (Nat.le_trans (cutV_length xs lo hi) hz) (q2 hw)
/-- t + u -/
def rCatF (K : PySem.W.Frag) : R2 := fun x y H Q => ∃ a b xs ys, x = .ref a ∧ y = .ref b ∧ SqT K H a xs ∧ SqT K H b ys ∧ xs.length + ys.length ≤ sizeLine ∧
  (xs = [] → Q (.ref b) H) ∧ (xs ≠ [] → ys = [] → Q (.ref a) H) ∧ (xs ≠ [] → ys ≠ [] → NewT H (xs ++ ys) Q)
theorem op_catF {X : Cx} : OpR X (binaryOp .Add) (rCatF X.K) := by
  intro pins s σ H x y v u Q I rx ry ⟨a, b, xs, ys, ex, ey, ha, hb, hz, q0, q1, q2⟩
  subst ex ey
  cases rx
  cases ry
  obtain ⟨us, r1, p1, _⟩ := I.tuple ha
  obtain ⟨ws, r2, p2, _⟩ := I.tuple hb
  by_cases hx : xs = []
  · subst hx
    cases r1
    exact cat_tup0 p1 p2 ⟨.ref b, H, I, rfl, q0 rfl⟩
  · refine HT.cat_tup p1 p2 (fun z => hx (r1.nil_iff.mp z)) (fun z => ⟨.ref a, H, I, rfl, q1 hx (r2.nil_iff.mp z)⟩) (fun z => ?_) (by rw [← r1.length, ← r2.length]; exact hz)
    exact laid_new (h' := s.heap) I (r1.append r2) (by rw [List.length_append]; exact hz) (q2 hx fun w => z (r2.nil_iff.mpr w))
end Dl
set_option Elab.async false
set_option linter.all false
set_option maxRecDepth 100000
set_option maxHeartbeats 4000000
/-! values as data: what a value in the heap stands for, and readings by functions on data -/
namespace Dl
open PySem PySem.Spec PyProof.Rows L2
abbrev D := PyData
abbrev Bar := Addr → Prop
/-- the written part, and the handles of what is shared -/
structure Kx where
  K : PySem.W.Frag
  hd : Nat → Addr → Prop
def KT (K : PySem.W.Frag) (a : Addr) (xs : List V) : Prop :=
  ∃ (o : Obj) (its : Array Value) (n : Nat), K.lookup a = some o ∧ o.cls = .type "tuple" ∧ o.data = .seq its n ∧ its.size ≤ sizeLine ∧ Vals xs its.toList ∧ o.dict = none
theorem KT.sq {K : PySem.W.Frag} {a : Addr} {xs : List V} {H : Hp} (h : KT K a xs) : SqT K H a xs := by
  obtain ⟨o, its, n, h1, h2, h3, h4, h5, _⟩ := h
  exact .inr ⟨o, its, n, h1, h2, h3, h4, h5⟩
/-- all are tuples -/
def allTup : List D → Bool
  | [] => true
  | .tuple _ :: r => allTup r
  | _ => false
/-- a tuple in the heap; its object is told, but where it is one of a walk's pairs -/
def TpAt (H : Hp) (a : Addr) (ds : List D) (vs : List V) : Prop := (H a = some (.tup vs) ∧ allTup ds = false) ∨ ∃ o : Obj, H a = some (.frz o (.tup vs)) ∧ o.dict = none
theorem TpAt.sq {K : PySem.W.Frag} {H : Hp} {a : Addr} {ds : List D} {vs : List V} (h : TpAt H a ds vs) : SqT K H a vs := by
  rcases h with ⟨h, _⟩ | ⟨o, h, _⟩
  · exact .inl (.inl h)
  · exact .inl (.inr ⟨o, h⟩)
theorem TpAt.mv {H H' : Hp} {a : Addr} {ds : List D} {vs : List V} (h : TpAt H a ds vs) (k : ∀ o, H a = some o → H' a = some o) : TpAt H' a ds vs := by
  rcases h with ⟨h, z⟩ | ⟨o, h, z⟩
  · exact .inl ⟨k _ h, z⟩
  · exact .inr ⟨o, k _ h, z⟩
theorem TpAt.ex {H : Hp} {a : Addr} {ds : List D} {vs : List V} (h : TpAt H a ds vs) : ∃ o, H a = some o := by
  rcases h with ⟨h, z⟩ | ⟨o, h, z⟩
  · exact ⟨_, h⟩
  · exact ⟨_, h⟩
/-- a handle as data -/
def isHn : List (D × D) → Bool
  | [(.int _, .none)] => true
  | _ => false
def keyD : D → Option Key
  | .str x => some (.inr x)
  | .int i => some (.inl i)
  | _ => none
/-- a handle: a thing that is shared and may change, told by its number -/
def hnd (n : Nat) : D := .dict [(.int n, .none)]
mutual
def Rep (G : Kx) (B : Bar) (H : Hp) : D → V → Prop
  | .none, v => v = .non
  | .bool b, v => v = .bl b
  | .int i, v => v = .int i
  | .str x, v => v = .str x
  | .list ds, v => ∃ a vs, v = .ref a ∧ H a = some (.lst vs) ∧ ¬ B a ∧ Reps G B H ds vs
  | .tuple ds, v => ∃ a vs, v = .ref a ∧ ((TpAt H a ds vs ∧ ¬ B a) ∨ KT G.K a vs) ∧ Reps G B H ds vs
  | .dict kvs, v => ∃ a, v = .ref a ∧ ((∃ n, kvs = [(.int (n : Nat), .none)] ∧ G.hd n a) ∨ (isHn kvs = false ∧ ∃ kv, H a = some (.dK kv) ∧ ¬ B a ∧ Repk G B H kvs kv))
def Reps (G : Kx) (B : Bar) (H : Hp) : List D → List V → Prop
  | [], vs => vs = []
  | d :: ds, vs => ∃ v r, vs = v :: r ∧ Rep G B H d v ∧ Reps G B H ds r
def Repk (G : Kx) (B : Bar) (H : Hp) : List (D × D) → List (Key × V) → Prop
  | [], kv => kv = []
  | (k, d) :: r, kv => ∃ q v t, kv = (q, v) :: t ∧ keyD k = some q ∧ Rep G B H d v ∧ Repk G B H r t
end
section
variable {G : Kx} {B B' : Bar} {H H' : Hp}
mutual
theorem Rep.mv (k : ∀ a o, H a = some o → ¬ B a → H' a = some o ∧ ¬ B' a) : ∀ (d : D) (v : V), Rep G B H d v → Rep G B' H' d v
  | .none, _, h => by simpa only [Rep] using h
  | .bool _, _, h => by simpa only [Rep] using h
  | .int _, _, h => by simpa only [Rep] using h
  | .str _, _, h => by simpa only [Rep] using h
  | .list ds, v, h => by
    simp only [Rep] at h ⊢
    obtain ⟨a, vs, e, h1, h2, h3⟩ := h
    exact ⟨a, vs, e, (k a _ h1 h2).1, (k a _ h1 h2).2, Reps.mv k ds vs h3⟩
  | .tuple ds, v, h => by
    simp only [Rep] at h ⊢
    obtain ⟨a, vs, e, h1, h3⟩ := h
    refine ⟨a, vs, e, ?_, Reps.mv k ds vs h3⟩
    rcases h1 with ⟨h1, h2⟩ | h1
    · obtain ⟨o, e1⟩ := h1.ex
      exact .inl ⟨h1.mv fun o e => (k a _ e h2).1, (k a _ e1 h2).2⟩
    · exact .inr h1
  | .dict kvs, _, h => by
    simp only [Rep] at h ⊢
    obtain ⟨a, e, h⟩ := h
    refine ⟨a, e, h.imp id fun ⟨h1, kv, h2, h3, h4⟩ => ⟨h1, kv, (k a _ h2 h3).1, (k a _ h2 h3).2, Repk.mv k kvs kv h4⟩⟩
theorem Reps.mv (k : ∀ a o, H a = some o → ¬ B a → H' a = some o ∧ ¬ B' a) : ∀ (ds : List D) (vs : List V), Reps G B H ds vs → Reps G B' H' ds vs
  | [], _, h => by simpa only [Reps] using h
  | d :: ds, vs, h => by
    simp only [Reps] at h ⊢
    obtain ⟨v, r, e, h1, h2⟩ := h
    exact ⟨v, r, e, Rep.mv k d v h1, Reps.mv k ds r h2⟩
theorem Repk.mv (k : ∀ a o, H a = some o → ¬ B a → H' a = some o ∧ ¬ B' a) : ∀ (ds : List (D × D)) (vs : List (Key × V)), Repk G B H ds vs → Repk G B' H' ds vs
  | [], _, h => by simpa only [Repk] using h
  | (_, d) :: ds, vs, h => by
    simp only [Repk] at h ⊢
    obtain ⟨q, v, r, e, h0, h1, h2⟩ := h
    exact ⟨q, v, r, e, h0, Rep.mv k d v h1, Repk.mv k ds r h2⟩
end
theorem Rep.same {d : D} {v : V} (h : Rep G B H d v) (s : Same H H') : Rep G B H' d v := h.mv fun a o e n => ⟨s a o e, n⟩
theorem Reps.same {d : List D} {v : List V} (h : Reps G B H d v) (s : Same H H') : Reps G B H' d v := h.mv fun a o e n => ⟨s a o e, n⟩
theorem Rep.fr {M : Bar} {d : D} {v : V} (h : Rep G B H d v) (f : Lc.Fr M H H') (m : ∀ a, M a → B a) : Rep G B H' d v := h.mv fun a o e n => ⟨f.at e fun z => n (m a z), n⟩
theorem Reps.fr {M : Bar} {d : List D} {v : List V} (h : Reps G B H d v) (f : Lc.Fr M H H') (m : ∀ a, M a → B a) : Reps G B H' d v := h.mv fun a o e n => ⟨f.at e fun z => n (m a z), n⟩
theorem Repk.same {d : List (D × D)} {v : List (Key × V)} (h : Repk G B H d v) (s : Same H H') : Repk G B H' d v := h.mv fun a o e n => ⟨s a o e, n⟩
theorem Repk.fr {M : Bar} {d : List (D × D)} {v : List (Key × V)} (h : Repk G B H d v) (f : Lc.Fr M H H') (m : ∀ a, M a → B a) : Repk G B H' d v := h.mv fun a o e n => ⟨f.at e fun z => n (m a z), n⟩
theorem Repk.sub {d : List (D × D)} {v : List (Key × V)} (h : Repk G B H d v) (k : ∀ a, B' a → H a ≠ none → B a) : Repk G B' H d v := h.mv fun a o e n => ⟨e, fun z => n (k a z (by rw [e]; simp))⟩
theorem Rep.sub {d : D} {v : V} (h : Rep G B H d v) (k : ∀ a, B' a → H a ≠ none → B a) : Rep G B' H d v := h.mv fun a o e n => ⟨e, fun z => n (k a z (by rw [e]; simp))⟩
theorem Reps.sub {d : List D} {v : List V} (h : Reps G B H d v) (k : ∀ a, B' a → H a ≠ none → B a) : Reps G B' H d v := h.mv fun a o e n => ⟨e, fun z => n (k a z (by rw [e]; simp))⟩
theorem Reps.len : ∀ {ds : List D} {vs : List V}, Reps G B H ds vs → vs.length = ds.length
  | [], _, h => by simp only [Reps] at h; subst h; rfl
  | d :: ds, vs, h => by
    simp only [Reps] at h
    obtain ⟨v, r, rfl, _, h2⟩ := h
    simp [Reps.len h2]
theorem Reps.nil : Reps G B H [] [] := by simp only [Reps]
theorem Reps.cons {d : D} {ds : List D} {v : V} {vs : List V} (h : Rep G B H d v) (t : Reps G B H ds vs) : Reps G B H (d :: ds) (v :: vs) := by
  simp only [Reps]
  exact ⟨v, vs, rfl, h, t⟩
theorem Reps.get : ∀ {ds : List D} {vs : List V} {i : Nat} {d : D}, Reps G B H ds vs → ds[i]? = some d → ∃ v, vs[i]? = some v ∧ Rep G B H d v
  | [], _, _, _, _, e => by simp at e
  | d :: ds, vs, i, x, h, e => by
    simp only [Reps] at h
    obtain ⟨v, r, rfl, h1, h2⟩ := h
    cases i with
    | zero =>
      simp at e
      subst e
      exact ⟨v, rfl, h1⟩
    | succ i => exact Reps.get (i := i) h2 (by simpa using e)
theorem Reps.append : ∀ {ds es : List D} {vs us : List V}, Reps G B H ds vs → Reps G B H es us → Reps G B H (ds ++ es) (vs ++ us)
  | [], _, _, _, h, t => by simp only [Reps] at h; subst h; exact t
  | d :: ds, es, vs, us, h, t => by
    simp only [Reps] at h
    obtain ⟨v, r, rfl, h1, h2⟩ := h
    exact Reps.cons h1 (Reps.append h2 t)
theorem Reps.take : ∀ {ds : List D} {vs : List V} (n : Nat), Reps G B H ds vs → Reps G B H (ds.take n) (vs.take n)
  | _, _, 0, _ => by simp [Reps]
  | [], _, n + 1, h => by simp only [Reps] at h; subst h; simp [Reps]
  | d :: ds, vs, n + 1, h => by
    simp only [Reps] at h
    obtain ⟨v, r, rfl, h1, h2⟩ := h
    exact Reps.cons h1 (Reps.take n h2)
theorem Reps.drop : ∀ {ds : List D} {vs : List V} (n : Nat), Reps G B H ds vs → Reps G B H (ds.drop n) (vs.drop n)
  | _, _, 0, h => h
  | [], _, n + 1, h => by simp only [Reps] at h; subst h; simp [Reps]
  | d :: ds, vs, n + 1, h => by
    simp only [Reps] at h
    obtain ⟨v, r, rfl, h1, h2⟩ := h
    exact Reps.drop n h2
theorem Reps.ints : ∀ {ns : List Int} {vs : List V}, Reps G B H (ns.map PyData.int) vs → vs = ns.map V.int
  | [], _, h => by simpa only [Reps, List.map_nil] using h
  | n :: ns, vs, h => by
    simp only [Reps, Rep, List.map_cons] at h
    obtain ⟨v, r, rfl, rfl, h2⟩ := h
    rw [Reps.ints h2]
    rfl
theorem Reps.strs : ∀ {ns : List Str} {vs : List V}, Reps G B H (ns.map PyData.str) vs → vs = ns.map V.str
  | [], _, h => by simpa only [Reps, List.map_nil] using h
  | n :: ns, vs, h => by
    simp only [Reps, Rep, List.map_cons] at h
    obtain ⟨v, r, rfl, rfl, h2⟩ := h
    rw [Reps.strs h2]
    rfl
theorem reps_strs : ∀ {ns : List Str}, Reps G B H (ns.map PyData.str) (ns.map V.str)
  | [] => Reps.nil
  | n :: ns => Reps.cons (by simp only [Rep]) reps_strs
/-- a tuple is to be read -/
theorem Rep.sqT {ds : List D} {v : V} (h : Rep G B H (.tuple ds) v) : ∃ a vs, v = .ref a ∧ SqT G.K H a vs ∧ Reps G B H ds vs := by
  simp only [Rep] at h
  obtain ⟨a, vs, e, h1, h3⟩ := h
  refine ⟨a, vs, e, ?_, h3⟩
  rcases h1 with ⟨h1, _⟩ | h1
  · exact h1.sq
  · exact h1.sq
theorem Rep.sqL {ds : List D} {v : V} (h : Rep G B H (.list ds) v) : ∃ a vs, v = .ref a ∧ H a = some (.lst vs) ∧ SqL G.K H a vs ∧ Reps G B H ds vs := by
  simp only [Rep] at h
  obtain ⟨a, vs, e, h1, h2, h3⟩ := h
  exact ⟨a, vs, e, h1, .inl (.inl h1), h3⟩
mutual
theorem Rep.dp : ∀ (d : D) (v : V), PyData.canLay0 d = true → Rep G B H d v → Dp G.K H v d
  | .none, _, _, h => by simp only [Rep] at h; subst h; exact .non
  | .bool _, _, _, h => by simp only [Rep] at h; subst h; exact .bl _
  | .int _, _, _, h => by simp only [Rep] at h; subst h; exact .int _
  | .str _, _, _, h => by simp only [Rep] at h; subst h; exact .str _
  | .list ds, v, c, h => by
    obtain ⟨a, vs, rfl, _, h1, h2⟩ := h.sqL
    exact .lst h1 (Reps.dp ds vs (by simpa [PyData.canLay0] using c) h2)
  | .tuple ds, v, c, h => by
    obtain ⟨a, vs, rfl, h1, h2⟩ := h.sqT
    exact .tup h1 (Reps.dp ds vs (by simpa [PyData.canLay0] using c) h2)
  | .dict _, _, c, _ => by simp [PyData.canLay0] at c
theorem Reps.dp : ∀ (ds : List D) (vs : List V), PyData.canLayAll0 ds = true → Reps G B H ds vs → DpAll G.K H vs ds
  | [], vs, _, h => by simp only [Reps] at h; subst h; exact .nil
  | d :: ds, vs, c, h => by
    simp only [Reps] at h
    obtain ⟨v, r, rfl, h1, h2⟩ := h
    have c' : d.canLay0 = true ∧ PyData.canLayAll0 ds = true := by simpa [PyData.canLayAll0] using c
    exact .cons (Rep.dp d v c'.1 h1) (Reps.dp ds r c'.2 h2)
end
end
/-- an own thing at P: a list or a dict -/
def OwnAt (G : Kx) (B : Bar) (H : Hp) (P : Addr) : D → Prop
  | .list ds => ∃ vs, H P = some (.lst vs) ∧ Reps G B H ds vs
  | .dict kvs => isHn kvs = false ∧ ∃ kv, H P = some (.dK kv) ∧ Repk G B H kvs kv
  | _ => False
/-- what stands where something of one's own is -/
def LoD (H : Hp) (a : Addr) : Prop := (∃ vs, H a = some (.lst vs)) ∨ ∃ kv, H a = some (.dK kv)
theorem LoD.ne {H : Hp} {a : Addr} (h : LoD H a) : H a ≠ none := by
  rcases h with ⟨vs, h⟩ | ⟨kv, h⟩ <;> rw [h] <;> simp
theorem LoD.k {H H' : Hp} {a : Addr} (h : LoD H a) (k : ∀ o, H a = some o → H' a = some o) : LoD H' a := h.imp (fun ⟨vs, h⟩ => ⟨vs, k _ h⟩) fun ⟨kv, h⟩ => ⟨kv, k _ h⟩
theorem OwnAt.mv {G : Kx} {B B' : Bar} {H H' : Hp} {P : Addr} {d : D} (h : OwnAt G B H P d) (k : ∀ a o, H a = some o → ¬ B a → H' a = some o ∧ ¬ B' a) (hp : ∀ o, H P = some o → H' P = some o) : OwnAt G B' H' P d := by
  cases d with
  | list ds =>
    obtain ⟨vs, h1, h2⟩ := h
    exact ⟨vs, hp _ h1, h2.mv k⟩
  | dict kvs =>
    obtain ⟨h0, kv, h1, h2⟩ := h
    exact ⟨h0, kv, hp _ h1, h2.mv k⟩
  | _ => exact h.elim
theorem OwnAt.ne {G : Kx} {B : Bar} {H : Hp} {P : Addr} : ∀ {d : D}, OwnAt G B H P d → H P ≠ none
  | .list ds, ⟨vs, h1, h2⟩ => by rw [h1]; simp
  | .dict kvs, ⟨h0, kv, h1, h2⟩ => by rw [h1]; simp
  | .none, h => h.elim
  | .bool _, h => h.elim
  | .int _, h => h.elim
  | .str _, h => h.elim
  | .tuple _, h => h.elim
/-- read as plain data -/
theorem OwnAt.rep {G : Kx} {B : Bar} {H : Hp} {P : Addr} (n : ¬ B P) : ∀ {d : D}, OwnAt G B H P d → Rep G B H d (.ref P)
  | .list ds, ⟨vs, h1, h2⟩ => by simp only [Rep]; exact ⟨P, vs, rfl, h1, n, h2⟩
  | .dict kvs, ⟨h0, kv, h1, h2⟩ => by simp only [Rep]; exact ⟨P, rfl, .inr ⟨h0, kv, h1, n, h2⟩⟩
  | .none, h => h.elim
  | .bool _, h => h.elim
  | .int _, h => h.elim
  | .str _, h => h.elim
  | .tuple _, h => h.elim
/-! ### what is shared, and the slots -/
structure Zk (S : Type) where
  M : Bar
  R : Hp → S → Prop
  dom : ∀ H s a, R H s → M a → H a ≠ none
  loc : ∀ H H' s, R H s → (∀ a, M a → H' a = H a) → R H' s
theorem Zk.same {S : Type} (Z : Zk S) {H H' : Hp} {s : S} (r : Z.R H s) (e : Same H H') : Z.R H' s := Z.loc H H' s r fun a m => by
  cases q : H a with
  | none => exact absurd q (Z.dom H s a r m)
  | some o => exact e a o q
abbrev Rho := List (Option D)
abbrev Ev (S : Type) := Rho → S → Option (D × S)
abbrev Ea (S : Type) := Rho → S → Option (List D × S)
structure Er (G : Kx) (W : List Nat) (B O : Bar) (H : Hp) (σ : L2.St) (ρ : Rho) : Prop where
  len : σ.length = ρ.length
  pl : ∀ i d, i ∉ W → ρ[i]? = some (some d) → ∃ v, σ[i]? = some (some v) ∧ Rep G (fun a => B a ∨ O a) H d v
  ow : ∃ om : Nat → Addr, (∀ i j d e, i ∈ W → j ∈ W → ρ[i]? = some (some d) → ρ[j]? = some (some e) → om i = om j → i = j) ∧
    ∀ i d, i ∈ W → ρ[i]? = some (some d) → σ[i]? = some (some (.ref (om i))) ∧ O (om i) ∧ OwnAt G (fun a => B a ∨ O a) H (om i) d
structure Eo {S : Type} (G : Kx) (Z : Zk S) (W : List Nat) (B O : Bar) (H : Hp) (σ : L2.St) (ρ : Rho) : Prop where
  er : Er G W B O H σ ρ
  bd : ∀ a, B a → H a ≠ none
  ol : ∀ a, O a → LoD H a
  mb : ∀ a, Z.M a → B a
  ob : ∀ a, O a → ¬ B a
section
variable {S : Type} {G : Kx} {Z : Zk S} {W : List Nat} {B O : Bar} {H H' : Hp} {σ : L2.St} {ρ : Rho}
theorem some_of_ne {α : Type} {o : Option α} (h : o ≠ none) : ∃ x, o = some x := by
  cases o with
  | none => exact absurd rfl h
  | some x => exact ⟨x, rfl⟩
theorem ne_fr {M : Bar} {a : Addr} (f : Lc.Fr M H H') (h : H a ≠ none) : H' a ≠ none := by
  obtain ⟨o, e⟩ := some_of_ne h
  obtain ⟨o', e', _⟩ := f a o e
  rw [e']
  simp
theorem Er.fr {M : Bar} (e : Er G W B O H σ ρ) (f : Lc.Fr M H H') (m : ∀ a, M a → B a) (ob : ∀ a, O a → ¬ B a) : Er G W B O H' σ ρ where
  len := e.len
  pl := fun i d hi hd => by
    obtain ⟨v, h1, h2⟩ := e.pl i d hi hd
    exact ⟨v, h1, h2.fr f fun a z => .inl (m a z)⟩
  ow := by
    obtain ⟨om, h1, h2⟩ := e.ow
    refine ⟨om, h1, fun i d hi hd => ?_⟩
    obtain ⟨a2, a3, a5⟩ := h2 i d hi hd
    exact ⟨a2, a3, a5.mv (fun a o e n => ⟨f.at e fun z => n (.inl (m a z)), n⟩) fun o e => f.at e fun z => ob _ a3 (m _ z)⟩
theorem Eo.od (e : Eo G Z W B O H σ ρ) : ∀ a, O a → H a ≠ none := fun a h => (e.ol a h).ne
theorem Eo.fr (e : Eo G Z W B O H σ ρ) (f : Lc.Fr Z.M H H') : Eo G Z W B O H' σ ρ where
  er := e.er.fr f e.mb e.ob
  bd := fun a h => ne_fr f (e.bd a h)
  ol := fun a h => (e.ol a h).k fun o h2 => f.at h2 fun z => e.ob a h (e.mb a z)
  mb := e.mb
  ob := e.ob
theorem Eo.new (e : Eo G Z W B O H σ ρ) {p : Addr} (h : H p = none) : ¬ (B p ∨ O p) := fun z => z.elim (fun z => e.bd p z h) fun z => e.od p z h
end
/-! ### readings of expressions by functions on data -/
def tEx {S : Type} (G : Kx) (Z : Zk S) (W : List Nat) (f : Ev S) : TE := fun σ H Q =>
  ∃ (B O : Bar) (ρ : Rho) (s : S) (d : D) (s' : S), Eo G Z W B O H σ ρ ∧ Z.R H s ∧ f ρ s = some (d, s') ∧
    ∀ v H', Lc.Fr Z.M H H' → Rep G (fun a => B a ∨ O a) H' d v → Z.R H' s' → Q v H'
def tEa {S : Type} (G : Kx) (Z : Zk S) (W : List Nat) (f : Ea S) : TA := fun σ H Q =>
  ∃ (B O : Bar) (ρ : Rho) (s : S) (d : List D) (s' : S), Eo G Z W B O H σ ρ ∧ Z.R H s ∧ f ρ s = some (d, s') ∧
    ∀ v H', Lc.Fr Z.M H H' → Reps G (fun a => B a ∨ O a) H' d v → Z.R H' s' → Q v H'
def tEt {S : Type} (G : Kx) (Z : Zk S) (W : List Nat) (f : Rho → S → Option (Bool × S)) : TT := fun σ H Q =>
  ∃ (B O : Bar) (ρ : Rho) (s : S) (d : Bool) (s' : S), Eo G Z W B O H σ ρ ∧ Z.R H s ∧ f ρ s = some (d, s') ∧
    ∀ H', Lc.Fr Z.M H H' → Z.R H' s' → Q d H'
theorem imp_pe {X : Cx} {e : Expr} {t t' : TE} (h : PE X e t) (m : ∀ σ H Q, t' σ H Q → t σ H Q) : PE X e t' := ⟨fun pins s σ H Q I q => h.run pins s σ H Q I (m σ H Q q)⟩
theorem imp_pa {X : Cx} {e : List Expr} {t t' : TA} (h : PA X e t) (m : ∀ σ H Q, t' σ H Q → t σ H Q) : PA X e t' := ⟨fun pos pins s σ H Q I q => h.run pos pins s σ H Q I (m σ H Q q)⟩
theorem imp_pt {X : Cx} {e : Expr} {t t' : TT} (h : PT X e t) (m : ∀ σ H Q, t' σ H Q → t σ H Q) : PT X e t' := ⟨fun pins s σ H Q I q => h.run pins s σ H Q I (m σ H Q q)⟩
theorem imp_pw {X : Cx} {e : Expr} {t t' : TT} (h : PW X e t) (m : ∀ σ H Q, t' σ H Q → t σ H Q) : PW X e t' := ⟨fun wh pins s σ H Q I q => h.run wh pins s σ H Q I (m σ H Q q)⟩
theorem imp_ps {X : Cx} {e : Stmt} {t t' : TS} (h : PS X e t) (m : ∀ D σ H, t' D σ H → t D σ H) : PS X e t' := ⟨fun pins s σ H D I q => h.run pins s σ H D I (m D σ H q)⟩
theorem imp_pss {X : Cx} {e : List Stmt} {t t' : TS} (h : PSs X e t) (m : ∀ D σ H, t' D σ H → t D σ H) : PSs X e t' := ⟨fun pins s σ H D I q => h.run pins s σ H D I (m D σ H q)⟩
end Dl
set_option Elab.async false
set_option linter.all false
set_option maxRecDepth 100000
set_option maxHeartbeats 4000000
namespace Dl
open PySem PySem.Spec PyProof.Rows L2
def bnd {S α β : Type} (f : Option (α × S)) (k : α → S → Option (β × S)) : Option (β × S) := match f with
  | none => none
  | some (a, s) => k a s
theorem bnd_some {S α β : Type} {f : Option (α × S)} {k : α → S → Option (β × S)} {r : β × S} (h : bnd f k = some r) : ∃ a s, f = some (a, s) ∧ k a s = some r := by
  unfold bnd at h
  split at h
  · cases h
  · exact ⟨_, _, rfl, h⟩
@[simp] theorem bnd_of {S α β : Type} {a : α} {s : S} {k : α → S → Option (β × S)} : bnd (some (a, s)) k = k a s := rfl
@[simp] theorem bnd_no {S α β : Type} {k : α → S → Option (β × S)} : bnd (none : Option (α × S)) k = none := rfl
/-- a value without a change of what is shared -/
def put {S α : Type} (o : Option α) (s : S) : Option (α × S) := match o with
  | none => none
  | some a => some (a, s)
@[simp] theorem put_of {S α : Type} {a : α} {s : S} : put (some a) s = some (a, s) := rfl
@[simp] theorem put_no {S α : Type} {s : S} : put (none : Option α) s = none := rfl
theorem put_some {S α : Type} {o : Option α} {s s' : S} {a : α} (h : put o s = some (a, s')) : o = some a ∧ s' = s := by
  unfold put at h
  split at h
  · cases h
  · cases h
    exact ⟨rfl, rfl⟩
section
variable {S : Type}
def cVar (i : Nat) : Ev S := fun ρ s => match ρ[i]? with
  | some (some d) => some (d, s)
  | _ => none
def cK (d : D) : Ev S := fun _ s => some (d, s)
def cB (p : D → D → Option D) (f g : Ev S) : Ev S := fun ρ s => bnd (f ρ s) fun x s => bnd (g ρ s) fun y s => put (p x y) s
def cU (p : D → Option D) (f : Ev S) : Ev S := fun ρ s => bnd (f ρ s) fun x s => put (p x) s
def aNil : Ea S := fun _ s => some ([], s)
def aCons (f : Ev S) (g : Ea S) : Ea S := fun ρ s => bnd (f ρ s) fun x s => bnd (g ρ s) fun xs s => some (x :: xs, s)
def cN (p : List D → Option D) (f : Ea S) : Ev S := fun ρ s => bnd (f ρ s) fun xs s => put (p xs) s
def pTup (ds : List D) : Option D := if ds.length ≤ sizeLine then some (.tuple ds) else none
def pLst (ds : List D) : Option D := if ds.length ≤ sizeLine then some (.list ds) else none
abbrev Fn (S : Type) := List D → S → Option (D × S)
def cCall (n : Nat) (F : Fn S) (f : Ea S) : Ev S := fun ρ s => bnd (f ρ s) fun xs s => if xs.length = n then F xs s else none
end
def truth : D → Option Bool
  | .none => some false
  | .bool b => some b
  | .int i => some (i != 0)
  | .str x => if x.length ≤ sizeLine then some ((x.length : Int) != 0) else none
  | .list ds => some (!ds.isEmpty)
  | .tuple ds => some (!ds.isEmpty)
  | .dict _ => none
section
variable {S : Type}
abbrev Et (S : Type) := Rho → S → Option (Bool × S)
def qT (f : Ev S) : Et S := fun ρ s => bnd (f ρ s) fun x s => put (truth x) s
def qNot (f : Et S) : Et S := fun ρ s => bnd (f ρ s) fun b s => some (!b, s)
def qAnd (f g : Et S) : Et S := fun ρ s => bnd (f ρ s) fun b s => if b = true then g ρ s else some (false, s)
def qOr (f g : Et S) : Et S := fun ρ s => bnd (f ρ s) fun b s => if b = true then some (true, s) else g ρ s
def cAnd (f g : Ev S) : Ev S := fun ρ s => bnd (f ρ s) fun x s => bnd (put (truth x) s) fun b s => if b = true then g ρ s else some (x, s)
def cOr (f g : Ev S) : Ev S := fun ρ s => bnd (f ρ s) fun x s => bnd (put (truth x) s) fun b s => if b = true then some (x, s) else g ρ s
def cNot (f : Ev S) : Ev S := fun ρ s => bnd (f ρ s) fun x s => bnd (put (truth x) s) fun b s => some (.bool (!b), s)
def cIf (c : Et S) (f g : Ev S) : Ev S := fun ρ s => bnd (c ρ s) fun b s => if b = true then f ρ s else g ρ s
def asB : D → Option Bool
  | .bool b => some b
  | _ => none
/-- a < b < c -/
def cCh (p q : D → D → Option D) (f g h : Ev S) : Ev S := fun ρ s => bnd (f ρ s) fun x s => bnd (g ρ s) fun y s => bnd (put (p x y) s) fun z s => bnd (put (asB z) s) fun b s =>
  if b = true then bnd (h ρ s) fun w s => put (q y w) s else some (.bool false, s)
end
/-! ### the rules -/
section
variable {S : Type} {X : Cx} {G : Kx} {Z : Zk S} {W : List Nat} {f g : Ev S} {fa : Ea S} {a b c e : Expr} {es : List Expr} {pos p : Pos} {x : Str}
theorem ex_var (i : Nat) (hw : W.contains i = false := by rfl) (hN : X.N[i]? = some x := by rfl) (hv : Vis X.env.scope x := by first | exact Or.inl rfl | exact Or.inr (Or.inl rfl) | exact Or.inr (Or.inr rfl)) (hd : (x == ("__debug__" : Str)) = false := by decide)
    (hcd : (x == ("__classdict__" : Str)) = false := by decide) : PE X (.Name x pos) (tEx G Z W (cVar i)) :=
  imp_pe (pe_var hN hv hd hcd) fun σ H Q ⟨B, O, ρ, s, d, s', eo, hR, hf, q⟩ => by
    unfold cVar at hf
    split at hf
    · rename_i e
      cases hf
      obtain ⟨v, h1, h2⟩ := eo.er.pl i d (by simpa using hw) e
      exact ⟨v, h1, q v H (Lc.Fr.refl H) h2 hR⟩
    · cases hf
theorem ex_of {v : V} {d : D} (h : PE X e (tC v)) (r : ∀ B H, Rep G B H d v) : PE X e (tEx G Z W (cK d)) :=
  imp_pe h fun σ H Q ⟨B, O, ρ, s, d', s', eo, hR, hf, q⟩ => by
    cases hf
    exact q v H (Lc.Fr.refl H) (r _ H) hR
theorem ex_int {i : Int} {j} : PE X (.Constant (.int i) j pos) (tEx G Z W (cK (.int i))) := ex_of pe_int fun B H => by simp only [Rep]
theorem ex_str {i : Str} {j} : PE X (.Constant (.str i) j pos) (tEx G Z W (cK (.str i))) := ex_of pe_str fun B H => by simp only [Rep]
theorem ex_bl {i : Bool} {j} : PE X (.Constant (.bool i) j pos) (tEx G Z W (cK (.bool i))) := ex_of pe_bl fun B H => by simp only [Rep]
/-- an operation on values, by one on data -/
def OpS (G : Kx) (r : R2) (p : D → D → Option D) : Prop := ∀ (B : Bar) (H : Hp) (x y : V) (dx dy d : D) (Q : VK), (∀ a, B a → H a ≠ none) → Rep G B H dx x → Rep G B H dy y → p dx dy = some d →
  (∀ v H', Same H H' → Rep G B H' d v → Q v H') → r x y H Q
theorem top_ex {r : R2} {p : D → D → Option D} (hs : OpS G r p) {σ : L2.St} {H : Hp} {Q : VK} (h : tEx G Z W (cB p f g) σ H Q) : tOp r (tEx G Z W f) (tEx G Z W g) σ H Q := by
  obtain ⟨B, O, ρ, s, d, s', eo, hR, hf, q⟩ := h
  unfold cB at hf
  obtain ⟨x, s1, h1, hf⟩ := bnd_some hf
  obtain ⟨y, s2, h2, hf⟩ := bnd_some hf
  obtain ⟨h3, rfl⟩ := put_some hf
  refine ⟨B, O, ρ, s, x, s1, eo, hR, h1, fun v H1 f1 r1 R1 => ⟨B, O, ρ, s1, y, _, eo.fr f1, R1, h2, fun u H2 f2 r2 R2 => ?_⟩⟩
  have e2 := (eo.fr f1).fr f2
  refine hs _ H2 v u x y d Q (fun a z => z.elim (e2.bd a) (e2.od a)) (r1.fr f2 fun a z => .inl (eo.mb a z)) r2 h3 fun w H3 sm r3 => ?_
  exact q w H3 ((f1.trans f2).trans (Lc.Fr.of sm)) r3 (Z.same R2 sm)
theorem ex_bin {op : Operator} {r : R2} {q : D → D → Option D} (ho : OpR X (binaryOp op) r) (hs : OpS G r q) (ha : PE X a (tEx G Z W f)) (hb : PE X b (tEx G Z W g)) : PE X (.BinOp a op b pos) (tEx G Z W (cB q f g)) :=
  imp_pe (pe_op ho ha hb) fun σ H Q h => top_ex hs h
theorem ex_cmp {op : CmpOp} {r : R2} {q : D → D → Option D} (ho : OpR X (compareOp op) r) (hs : OpS G r q) (ha : PE X a (tEx G Z W f)) (hb : PE X b (tEx G Z W g)) (hm : behindInMarks op b = false) : PE X (.Compare a [op] [b] pos) (tEx G Z W (cB q f g)) :=
  imp_pe (pe_cmpR ho ha hb hm) fun σ H Q h => top_ex hs h
theorem ex_ix {r : R2} {q : D → D → Option D} (ho : IxR X r) (hs : OpS G r q) (ha : PE X a (tEx G Z W f)) (hb : PE X b (tEx G Z W g)) (hp : PlainIx b) : PE X (.Subscript a b pos) (tEx G Z W (cB q f g)) :=
  imp_pe (pe_ix ho ha hb hp) fun σ H Q h => top_ex hs h
def UnS (G : Kx) (r : V → Hp → VK → Prop) (p : D → Option D) : Prop := ∀ (B : Bar) (H : Hp) (x : V) (dx d : D) (Q : VK), (∀ a, B a → H a ≠ none) → Rep G B H dx x → p dx = some d →
  (∀ v H', Same H H' → Rep G B H' d v → Q v H') → r x H Q
theorem tun_ex {r : V → Hp → VK → Prop} {p : D → Option D} (hs : UnS G r p) {σ : L2.St} {H : Hp} {Q : VK} (h : tEx G Z W (cU p f) σ H Q) : tUn r (tEx G Z W f) σ H Q := by
  obtain ⟨B, O, ρ, s, d, s', eo, hR, hf, q⟩ := h
  unfold cU at hf
  obtain ⟨x, s1, h1, hf⟩ := bnd_some hf
  obtain ⟨h3, rfl⟩ := put_some hf
  refine ⟨B, O, ρ, s, x, _, eo, hR, h1, fun v H1 f1 r1 R1 => ?_⟩
  have e2 := eo.fr f1
  refine hs _ H1 v x d Q (fun a z => z.elim (e2.bd a) (e2.od a)) r1 h3 fun w H3 sm r3 => ?_
  exact q w H3 (f1.trans (Lc.Fr.of sm)) r3 (Z.same R1 sm)
theorem ex_un {op : UnaryOp} {r : V → Hp → VK → Prop} {q : D → Option D} (ho : UnR X (unaryOp op) r) (hs : UnS G r q) (ha : PE X a (tEx G Z W f)) : PE X (.UnaryOp op a pos) (tEx G Z W (cU q f)) :=
  imp_pe (pe_un ho ha) fun σ H Q h => tun_ex hs h
/-! arguments -/
theorem ea_nil : PA X [] (tEa G Z W aNil) := imp_pa pa_nil fun σ H Q ⟨B, O, ρ, s, d, s', eo, hR, hf, q⟩ => by
  cases hf
  exact q [] H (Lc.Fr.refl H) Reps.nil hR
theorem ea_cons (ha : PE X e (tEx G Z W f)) (hr : PA X es (tEa G Z W fa)) (hs : starEach (e :: es) X.env = (false, eval e X.env) :: starEach es X.env := by rfl) : PA X (e :: es) (tEa G Z W (aCons f fa)) :=
  imp_pa (pa_cons ha hr hs) fun σ H Q ⟨B, O, ρ, s, d, s', eo, hR, hf, q⟩ => by
    unfold aCons at hf
    obtain ⟨x, s1, h1, hf⟩ := bnd_some hf
    obtain ⟨y, s2, h2, hf⟩ := bnd_some hf
    cases hf
    refine ⟨B, O, ρ, s, x, s1, eo, hR, h1, fun v H1 f1 r1 R1 => ⟨B, O, ρ, s1, y, _, eo.fr f1, R1, h2, fun u H2 f2 r2 R2 => ?_⟩⟩
    exact q _ H2 (f1.trans f2) (Reps.cons (r1.fr f2 fun a z => .inl (eo.mb a z)) r2) R2
/-- a call of something built in, by a function on data -/
def CaS (G : Kx) (r : List V → Hp → VK → Prop) (p : List D → Option D) : Prop := ∀ (B : Bar) (H : Hp) (xs : List V) (ds : List D) (d : D) (Q : VK), (∀ a, B a → H a ≠ none) → Reps G B H ds xs → p ds = some d →
  (∀ v H', Same H H' → Rep G B H' d v → Q v H') → r xs H Q
theorem tcb_ex {r : List V → Hp → VK → Prop} {p : List D → Option D} (hs : CaS G r p) {σ : L2.St} {H : Hp} {Q : VK} (h : tEx G Z W (cN p fa) σ H Q) : tCB r (tEa G Z W fa) σ H Q := by
  obtain ⟨B, O, ρ, s, d, s', eo, hR, hf, q⟩ := h
  unfold cN at hf
  obtain ⟨x, s1, h1, hf⟩ := bnd_some hf
  obtain ⟨h3, rfl⟩ := put_some hf
  refine ⟨B, O, ρ, s, x, _, eo, hR, h1, fun v H1 f1 r1 R1 => ?_⟩
  have e2 := eo.fr f1
  refine hs _ H1 v x d Q (fun a z => z.elim (e2.bd a) (e2.od a)) r1 h3 fun w H3 sm r3 => ?_
  exact q w H3 (f1.trans (Lc.Fr.of sm)) r3 (Z.same R1 sm)
theorem ex_callB {id : String} {r : List V → Hp → VK → Prop} {q : List D → Option D} (hc : CallR X (.builtin id) r) (hS : CaS G r q) (hg : Gl X x) (hm : X.mg x = none) (hv : bootBuiltins x = some (.builtin id)) (ha : PA X (e :: es) (tEa G Z W fa)) (hn : x ≠ "__name__" := by decide) (hdb : (x == ("__debug__" : Str)) = false := by decide)
    (he : starEach (e :: es) X.env = (false, eval e X.env) :: starEach es X.env := by rfl) (hpl : (backTo pos (starEach es X.env)).any (·.1) = false := by rfl) : PE X (.Call (.Name x p) (e :: es) [] pos) (tEx G Z W (cN q fa)) :=
  imp_pe (pe_callB hc hg hm hv ha hn hdb he hpl) fun σ H Q h => tcb_ex hS h
theorem ex_callTy {T : String} {r : List V → Hp → VK → Prop} {q : List D → Option D} (hc : CallR X (.type T) r) (hS : CaS G r q) (hg : Gl X x) (hm : X.mg x = none) (hv : bootBuiltins x = some (.type T)) (ha : PA X (e :: es) (tEa G Z W fa)) (hn : x ≠ "__name__" := by decide) (hdb : (x == ("__debug__" : Str)) = false := by decide)
    (he : starEach (e :: es) X.env = (false, eval e X.env) :: starEach es X.env := by rfl) (hpl : (backTo pos (starEach es X.env)).any (·.1) = false := by rfl) : PE X (.Call (.Name x p) (e :: es) [] pos) (tEx G Z W (cN q fa)) :=
  imp_pe (pe_callTy hc hg hm hv ha hn hdb he hpl) fun σ H Q h => tcb_ex hS h
theorem ttup_ex {σ : L2.St} {H : Hp} {Q : VK} (h : tEx G Z W (cN pTup fa) σ H Q) : tTupF (tEa G Z W fa) σ H Q := by
  obtain ⟨B, O, ρ, s, d, s', eo, hR, hf, q⟩ := h
  unfold cN at hf
  obtain ⟨x, s1, h1, hf⟩ := bnd_some hf
  obtain ⟨h3, rfl⟩ := put_some hf
  unfold pTup at h3
  split at h3
  · cases h3
    refine ⟨B, O, ρ, s, x, _, eo, hR, h1, fun v H1 f1 r1 R1 => ⟨by rw [r1.len]; assumption, fun p o hp ho => ?_⟩⟩
    have e2 := eo.fr f1
    refine q _ _ (f1.trans (Lc.Fr.new hp)) ?_ (Z.same R1 (Lc.same_new hp))
    simp only [Rep]
    exact ⟨p, v, rfl, .inl ⟨.inr ⟨o, upd_same, ho⟩, e2.new hp⟩, r1.same (Lc.same_new hp)⟩
  · cases h3
theorem ex_tup {x1} (h : PA X es (tEa G Z W fa)) : PE X (.Tuple es x1 pos) (tEx G Z W (cN pTup fa)) := imp_pe (pe_tupF h) fun σ H Q h => ttup_ex h
theorem tlst_ex {σ : L2.St} {H : Hp} {Q : VK} (h : tEx G Z W (cN pLst fa) σ H Q) : tLst (tEa G Z W fa) σ H Q := by
  obtain ⟨B, O, ρ, s, d, s', eo, hR, hf, q⟩ := h
  unfold cN at hf
  obtain ⟨x, s1, h1, hf⟩ := bnd_some hf
  obtain ⟨h3, rfl⟩ := put_some hf
  unfold pLst at h3
  split at h3
  · cases h3
    refine ⟨B, O, ρ, s, x, _, eo, hR, h1, fun v H1 f1 r1 R1 => ⟨by rw [r1.len]; assumption, fun p hp => ?_⟩⟩
    have e2 := eo.fr f1
    refine q _ _ (f1.trans (Lc.Fr.new hp)) ?_ (Z.same R1 (Lc.same_new hp))
    simp only [Rep]
    exact ⟨p, v, rfl, upd_same, e2.new hp, r1.same (Lc.same_new hp)⟩
  · cases h3
theorem ex_lst (h : PA X es (tEa G Z W fa)) : PE X (.List es pos) (tEx G Z W (cN pLst fa)) := imp_pe (pe_lst h) fun σ H Q h => tlst_ex h
/-! a def by a function on data -/
def spD (G : Kx) (Z : Zk S) (n : Nat) (F : Fn S) : Sp := fun vs H Q _ => ∃ (B : Bar) (ds : List D) (s : S) (d : D) (s' : S), ds.length = n ∧ (∀ a, B a → H a ≠ none) ∧ (∀ a, Z.M a → B a) ∧ Reps G B H ds vs ∧ Z.R H s ∧ F ds s = some (d, s') ∧
  ∀ v H', Lc.Fr Z.M H H' → Rep G B H' d v → Z.R H' s' → Q v H'
theorem tcall_ex {n : Nat} {F : Fn S} {σ : L2.St} {H : Hp} {Q : VK} (h : tEx G Z W (cCall n F fa) σ H Q) : tCall (spD G Z n F) [] E0 (tEa G Z W fa) σ H Q := by
  obtain ⟨B, O, ρ, s, d, s', eo, hR, hf, q⟩ := h
  unfold cCall at hf
  obtain ⟨x, s1, h1, hf⟩ := bnd_some hf
  split at hf
  · refine ⟨B, O, ρ, s, x, s1, eo, hR, h1, fun v H1 f1 r1 R1 => ?_⟩
    have e2 := eo.fr f1
    show spD G Z n F (v ++ []) H1 Q E0
    rw [List.append_nil]
    exact ⟨_, x, s1, d, s', by assumption, fun a z => z.elim (e2.bd a) (e2.od a), fun a z => .inl (eo.mb a z), r1, R1, hf, fun w H2 f2 r2 R2 => q w H2 (f1.trans f2) r2 R2⟩
  · cases hf
theorem ex_call {ps : List Str} {k n : Nat} {F : Fn S} (C : Lc.Dn X.prog X.w X.K X.mg X.base x ps k (spD G Z n F)) (hr : Room k X.A) (hg : Gl X x) (ha : PA X (e :: es) (tEa G Z W fa)) (hdb : (x == ("__debug__" : Str)) = false := by decide)
    (he : starEach (e :: es) X.env = (false, eval e X.env) :: starEach es X.env := by rfl) (hpl : (backTo pos (starEach es X.env)).any (·.1) = false := by rfl) : PE X (.Call (.Name x p) (e :: es) [] pos) (tEx G Z W (cCall n F fa)) :=
  imp_pe (Lc.pe_dn C hr hg ha hdb he hpl) fun σ H Q h => tcall_ex h
/-! tests -/
theorem tru_of {B : Bar} {H : Hp} : ∀ {d : D} {v : V} {k : Bool}, Rep G B H d v → truth d = some k → TruV G.K v H k
  | .none, v, k, h, e => by simp only [Rep] at h; subst h; cases e; rfl
  | .bool b, v, k, h, e => by simp only [Rep] at h; subst h; cases e; rfl
  | .int i, v, k, h, e => by simp only [Rep] at h; subst h; cases e; rfl
  | .str x, v, k, h, e => by
    simp only [Rep] at h
    subst h
    have e : (if x.length ≤ sizeLine then some ((x.length : Int) != 0) else none) = some k := e
    split at e
    · cases e
      exact ⟨by assumption, rfl⟩
    · cases e
  | .list ds, v, k, h, e => by
    obtain ⟨a, vs, rfl, _, h1, h2⟩ := h.sqL
    cases e
    refine .inl ⟨vs, h1, ?_⟩
    have := h2.len
    cases ds <;> cases vs <;> simp_all
  | .tuple ds, v, k, h, e => by
    obtain ⟨a, vs, rfl, h1, h2⟩ := h.sqT
    cases e
    refine .inr (.inl ⟨vs, h1, ?_⟩)
    have := h2.len
    cases ds <;> cases vs <;> simp_all
  | .dict _, v, k, h, e => by cases e
theorem et_val (ha : PE X a (tEx G Z W f)) (he : ∀ whole, isTrue a X.env whole = (do let v ← whole; standAt a.pos; holding [v] (truthy v)) := by intro _; rfl) (hK : X.K = G.K := by rfl) : PT X a (tEt G Z W (qT f)) :=
  imp_pt (pt_truth ha he) fun σ H Q ⟨B, O, ρ, s, d, s', eo, hR, hf, q⟩ => by
    unfold qT at hf
    obtain ⟨x, s1, h1, hf⟩ := bnd_some hf
    obtain ⟨h3, rfl⟩ := put_some hf
    refine ⟨B, O, ρ, s, x, _, eo, hR, h1, fun v H1 f1 r1 R1 => ⟨d, ?_, q H1 f1 R1⟩⟩
    rw [hK]
    exact tru_of r1 h3
theorem et_cmp {op : CmpOp} {r : R2} {q : D → D → Option D} (ho : OpR X (compareOp op) r) (hs : OpS G r q) (ha : PE X a (tEx G Z W f)) (hb : PE X b (tEx G Z W g)) (hm : behindInMarks op b = false) (hq : ∀ x y z, q x y = some z → ∃ k, z = .bool k := by intro x y z h; first | exact qb h | simp_all) :
    PT X (.Compare a [op] [b] pos) (tEt G Z W (qT (cB q f g))) :=
  imp_pt (pt_cmpR ho ha hb hm) fun σ H Q ⟨B, O, ρ, s, d, s', eo, hR, hf, h⟩ => by
    unfold qT at hf
    obtain ⟨x, s1, h1, hf⟩ := bnd_some hf
    obtain ⟨h3, rfl⟩ := put_some hf
    have hx : ∃ k, x = .bool k := by
      unfold cB at h1
      obtain ⟨x', s1, h1, hf⟩ := bnd_some h1
      obtain ⟨y', s2, h2, hf⟩ := bnd_some hf
      obtain ⟨h3, h4⟩ := put_some hf
      exact hq _ _ _ h3
    obtain ⟨k, rfl⟩ := hx
    cases h3
    refine top_ex hs ⟨B, O, ρ, s, .bool d, _, eo, hR, h1, fun v H1 f1 r1 R1 => ?_⟩
    simp only [Rep] at r1
    exact ⟨d, r1, h H1 f1 R1⟩
theorem et_not {t : Et S} (ha : PT X a (tEt G Z W t)) : PT X (.UnaryOp .Not a pos) (tEt G Z W (qNot t)) :=
  imp_pt (pt_not ha) fun σ H Q ⟨B, O, ρ, s, d, s', eo, hR, hf, h⟩ => by
    unfold qNot at hf
    obtain ⟨x, s1, h1, hf⟩ := bnd_some hf
    cases hf
    exact ⟨B, O, ρ, s, x, _, eo, hR, h1, fun H1 f1 R1 => h H1 f1 R1⟩
theorem ew_and {t u : Et S} {rest : List Expr} (ha : PT X a (tEt G Z W t)) (hb : PW X (.BoolOp .And (b :: rest) pos) (tEt G Z W u)) : PW X (.BoolOp .And (a :: b :: rest) pos) (tEt G Z W (qAnd t u)) :=
  imp_pw (pw_and ha hb) fun σ H Q ⟨B, O, ρ, s, d, s', eo, hR, hf, h⟩ => by
    unfold qAnd at hf
    obtain ⟨x, s1, h1, hf⟩ := bnd_some hf
    refine ⟨B, O, ρ, s, x, s1, eo, hR, h1, fun H1 f1 R1 => ?_⟩
    cases x with
    | true => exact ⟨B, O, ρ, s1, d, s', eo.fr f1, R1, hf, fun H2 f2 R2 => h H2 (f1.trans f2) R2⟩
    | false =>
      cases hf
      exact h H1 f1 R1
theorem ew_or {t u : Et S} {rest : List Expr} (ha : PT X a (tEt G Z W t)) (hb : PW X (.BoolOp .Or (b :: rest) pos) (tEt G Z W u)) : PW X (.BoolOp .Or (a :: b :: rest) pos) (tEt G Z W (qOr t u)) :=
  imp_pw (pw_or ha hb) fun σ H Q ⟨B, O, ρ, s, d, s', eo, hR, hf, h⟩ => by
    unfold qOr at hf
    obtain ⟨x, s1, h1, hf⟩ := bnd_some hf
    refine ⟨B, O, ρ, s, x, s1, eo, hR, h1, fun H1 f1 R1 => ?_⟩
    cases x with
    | false => exact ⟨B, O, ρ, s1, d, s', eo.fr f1, R1, hf, fun H2 f2 R2 => h H2 (f1.trans f2) R2⟩
    | true =>
      cases hf
      exact h H1 f1 R1
/-! and, or, not, if as values -/
theorem ex_one {op} (h : PE X a (tEx G Z W f)) : PE X (.BoolOp op [a] pos) (tEx G Z W f) := pe_one h
theorem ex_and {rest : List Expr} (ha : PE X a (tEx G Z W f)) (hb : PE X (.BoolOp .And (b :: rest) pos) (tEx G Z W g)) (hK : X.K = G.K := by rfl) : PE X (.BoolOp .And (a :: b :: rest) pos) (tEx G Z W (cAnd f g)) :=
  imp_pe (pe_andT ha hb) fun σ H Q ⟨B, O, ρ, s, d, s', eo, hR, hf, h⟩ => by
    unfold cAnd at hf
    obtain ⟨x, s1, h1, hf⟩ := bnd_some hf
    obtain ⟨k, s2, h2, hf⟩ := bnd_some hf
    obtain ⟨h3, rfl⟩ := put_some h2
    refine ⟨B, O, ρ, s, x, _, eo, hR, h1, fun v H1 f1 r1 R1 => ⟨k, by rw [hK]; exact tru_of r1 h3, ?_⟩⟩
    cases k with
    | true => exact ⟨B, O, ρ, _, d, s', eo.fr f1, R1, hf, fun w H2 f2 r2 R2 => h w H2 (f1.trans f2) r2 R2⟩
    | false =>
      cases hf
      exact h v H1 f1 r1 R1
end
end Dl
set_option Elab.async false
set_option linter.all false
set_option maxRecDepth 100000
set_option maxHeartbeats 4000000
namespace Dl
open PySem PySem.Spec PyProof.Rows L2
/-! ### flat data: no list within -/
mutual
def flatD : D → Bool
  | .none => true
  | .bool _ => true
  | .int _ => true
  | .str _ => true
  | .list _ => false
  | .tuple ds => flatDs ds
  | .dict kvs => isHn kvs
def flatDs : List D → Bool
  | [] => true
  | d :: ds => flatD d && flatDs ds
end
section
variable {G : Kx} {B O : Bar} {H : Hp}
mutual
theorem Rep.flat (ol : ∀ a, O a → LoD H a) : ∀ (d : D) (v : V), flatD d = true → Rep G B H d v → Rep G (fun a => B a ∨ O a) H d v
  | .none, _, _, h => by simpa only [Rep] using h
  | .bool _, _, _, h => by simpa only [Rep] using h
  | .int _, _, _, h => by simpa only [Rep] using h
  | .str _, _, _, h => by simpa only [Rep] using h
  | .list _, _, c, _ => by simp [flatD] at c
  | .tuple ds, v, c, h => by
    simp only [Rep] at h ⊢
    obtain ⟨a, vs, e, h1, h3⟩ := h
    refine ⟨a, vs, e, ?_, Reps.flat ol ds vs (by simpa only [flatD] using c) h3⟩
    rcases h1 with ⟨h1, h2⟩ | h1
    · refine .inl ⟨h1, fun z => z.elim h2 fun z => ?_⟩
      rcases h1 with ⟨h1, _⟩ | ⟨o, h1, _⟩ <;> rcases ol a z with ⟨us, z⟩ | ⟨us, z⟩ <;> (rw [h1] at z; cases z)
    · exact .inr h1
  | .dict _, _, c, h => by
    simp only [Rep] at h ⊢
    obtain ⟨a, e, h⟩ := h
    refine ⟨a, e, .inl (h.elim id fun ⟨h1, _⟩ => ?_)⟩
    simp only [flatD] at c
    rw [c] at h1
    cases h1
theorem Reps.flat (ol : ∀ a, O a → LoD H a) : ∀ (ds : List D) (vs : List V), flatDs ds = true → Reps G B H ds vs → Reps G (fun a => B a ∨ O a) H ds vs
  | [], _, _, h => by simpa only [Reps] using h
  | d :: ds, vs, c, h => by
    simp only [Reps] at h ⊢
    obtain ⟨v, r, e, h1, h2⟩ := h
    have c' : flatD d = true ∧ flatDs ds = true := by simpa [flatDs] using c
    exact ⟨v, r, e, Rep.flat ol d v c'.1 h1, Reps.flat ol ds r c'.2 h2⟩
end
end
section
variable {S : Type} {G : Kx} {Z : Zk S} {W : List Nat} {B O : Bar} {H : Hp} {σ : L2.St} {ρ : Rho}
theorem Eo.weak (e : Eo G Z W B O H σ ρ) : Eo G Z [] B (fun _ => False) H σ ρ where
  er := by
    refine ⟨e.er.len, fun i d _ hd => ?_, fun _ => 0, (fun _ _ _ _ z => by cases z), (fun _ _ z => by cases z)⟩
    by_cases hi : i ∈ W
    · obtain ⟨om, _, h2⟩ := e.er.ow
      obtain ⟨a2, a3, a5⟩ := h2 i d hi hd
      exact ⟨_, a2, OwnAt.rep (fun z => z.elim (e.ob _ a3) id) (a5.mv (fun a o h n => ⟨h, fun z => n (.inl (z.elim id False.elim))⟩) fun o h => h)⟩
    · obtain ⟨v, h1, h2⟩ := e.er.pl i d hi hd
      exact ⟨v, h1, h2.sub fun a z _ => .inl (z.elim id False.elim)⟩
  bd := e.bd
  ol := fun _ z => z.elim
  mb := e.mb
  ob := fun _ z => z.elim
end
def cFl {S : Type} (f : Ev S) : Ev S := fun ρ s => bnd (f ρ s) fun d s => if flatD d = true then some (d, s) else none
theorem ex_weak {S : Type} {X : Cx} {G : Kx} {Z : Zk S} {W : List Nat} {f : Ev S} {e : Expr} (h : PE X e (tEx G Z [] f)) : PE X e (tEx G Z W (cFl f)) :=
  imp_pe h fun σ H Q ⟨B, O, ρ, s, d, s', eo, hR, hf, q⟩ => by
    unfold cFl at hf
    obtain ⟨x, s1, h1, hf⟩ := bnd_some hf
    split at hf
    · rename_i hfl
      cases hf
      refine ⟨B, fun _ => False, ρ, s, d, _, eo.weak, hR, h1, fun v H' f1 r1 R1 => q v H' f1 ?_ R1⟩
      have e2 := eo.fr f1
      exact Rep.flat e2.ol d v hfl (r1.sub fun a z _ => .inl z)
    · cases hf
/-! ### statements -/
inductive Rs where
  | nx (ρ : Rho) | rt (d : D) | bk (ρ : Rho) | ct (ρ : Rho)
abbrev Sv (S : Type) := Rho → S → Option (Rs × S)
structure Sr {S : Type} (G : Kx) (Z : Zk S) (W : List Nat) (B : Bar) (H0 : Hp) (O : Bar) (H : Hp) (σ : L2.St) (ρ : Rho) (s : S) : Prop where
  eo : Eo G Z W B O H σ ρ
  fr : Lc.Fr Z.M H0 H
  b0 : ∀ a, B a → H0 a ≠ none
  o0 : ∀ a, O a → H0 a = none
  r : Z.R H s
/-- what a statement may have changed: what is shared, the own lists -/
structure Ch {S : Type} (Z : Zk S) (O O' : Bar) (H H' : Hp) : Prop where
  fr : Lc.Fr (fun a => Z.M a ∨ O a) H H'
  up : ∀ a, O a → O' a
  nw : ∀ a, O' a → O a ∨ H a = none
section
variable {S : Type} {G : Kx} {Z : Zk S} {W : List Nat} {B O O1 O2 : Bar} {H H1 H2 H0 : Hp} {σ σ1 : L2.St} {ρ ρ1 : Rho} {s s1 : S}
theorem Ch.refl : Ch Z O O H H := ⟨Lc.Fr.refl H, fun _ h => h, fun _ h => .inl h⟩
theorem Ch.of (f : Lc.Fr Z.M H H1) : Ch Z O O H H1 := ⟨fun b o e => by
  obtain ⟨o', h1, h2⟩ := f b o e
  exact ⟨o', h1, fun n => h2 fun z => n (.inl z)⟩, fun _ h => h, fun _ h => .inl h⟩
theorem Ch.trans (a : Ch Z O O1 H H1) (b : Ch Z O1 O2 H1 H2) : Ch Z O O2 H H2 where
  fr := fun c o e => by
    obtain ⟨o1, e1, k1⟩ := a.fr c o e
    obtain ⟨o2, e2, k2⟩ := b.fr c o1 e1
    refine ⟨o2, e2, fun n => (k2 fun z => ?_).trans (k1 n)⟩
    rcases z with z | z
    · exact n (.inl z)
    · rcases a.nw c z with z | z
      · exact n (.inr z)
      · rw [e] at z; cases z
  up := fun c h => b.up c (a.up c h)
  nw := fun c h => by
    rcases b.nw c h with h | h
    · exact a.nw c h
    · right
      cases q : H c with
      | none => rfl
      | some o =>
        obtain ⟨o1, e1, _⟩ := a.fr c o q
        rw [h] at e1
        cases e1
theorem Sr.mb (r : Sr G Z W B H0 O H σ ρ s) : ∀ a, Z.M a → B a := r.eo.mb
theorem Sr.step (r : Sr G Z W B H0 O H σ ρ s) (f : Lc.Fr Z.M H H1) (hs : Z.R H1 s1) : Sr G Z W B H0 O H1 σ ρ s1 := ⟨r.eo.fr f, r.fr.trans f, r.b0, r.o0, hs⟩
/-- a slot that is no own list is set -/
theorem Er.set (e : Er G W B O H σ ρ) {i : Nat} {d : D} {v : V} (hi : i ∉ W) (h : Rep G (fun a => B a ∨ O a) H d v) : Er G W B O H (σ.set i (some v)) (ρ.set i (some d)) where
  len := by simp [e.len]
  pl := fun j x hj hx => by
    by_cases hij : i = j
    · subst hij
      rw [List.getElem?_set] at hx
      simp only [if_true] at hx
      split at hx
      · cases hx
        refine ⟨v, ?_, h⟩
        rw [List.getElem?_set]
        simp only [if_true]
        rw [if_pos (by rw [e.len]; assumption)]
      · cases hx
    · rw [List.getElem?_set_ne hij] at hx
      obtain ⟨u, h1, h2⟩ := e.pl j x hj hx
      exact ⟨u, by rw [List.getElem?_set_ne hij]; exact h1, h2⟩
  ow := by
    obtain ⟨om, h1, h2⟩ := e.ow
    have ne : ∀ j, j ∈ W → i ≠ j := fun j hj z => hi (z ▸ hj)
    refine ⟨om, fun j k x y hj hk hx hy => ?_, fun j x hj hx => ?_⟩
    · rw [List.getElem?_set_ne (ne j hj)] at hx
      rw [List.getElem?_set_ne (ne k hk)] at hy
      exact h1 j k x y hj hk hx hy
    · rw [List.getElem?_set_ne (ne j hj)] at hx
      obtain ⟨a2, a3⟩ := h2 j x hj hx
      exact ⟨by rw [List.getElem?_set_ne (ne j hj)]; exact a2, a3⟩
theorem Eo.set (e : Eo G Z W B O H σ ρ) {i : Nat} {d : D} {v : V} (hi : i ∉ W) (h : Rep G (fun a => B a ∨ O a) H d v) : Eo G Z W B O H (σ.set i (some v)) (ρ.set i (some d)) := ⟨e.er.set hi h, e.bd, e.ol, e.mb, e.ob⟩
end
def tSt {S : Type} (G : Kx) (Z : Zk S) (W : List Nat) (F : Sv S) : TS := fun E σ H =>
  ∃ (B : Bar) (H0 : Hp) (O : Bar) (ρ : Rho) (s : S) (r : Rs) (s' : S), Sr G Z W B H0 O H σ ρ s ∧ F ρ s = some (r, s') ∧
    match r with
    | .nx ρ' => ∀ O' σ' H', Sr G Z W B H0 O' H' σ' ρ' s' → Ch Z O O' H H' → E.nx σ' H'
    | .rt d => ∀ v H', Lc.Fr Z.M H0 H' → Rep G B H' d v → Z.R H' s' → E.rt v H'
    | .bk ρ' => ∀ O' σ' H', Sr G Z W B H0 O' H' σ' ρ' s' → Ch Z O O' H H' → E.bk σ' H'
    | .ct ρ' => ∀ O' σ' H', Sr G Z W B H0 O' H' σ' ρ' s' → Ch Z O O' H H' → E.ct σ' H'
section
variable {S : Type}
def sNx : Sv S := fun ρ s => some (.nx ρ, s)
def sSeq (F F' : Sv S) : Sv S := fun ρ s => match F ρ s with
  | some (.nx ρ', s') => F' ρ' s'
  | r => r
def sSet (i : Nat) (f : Ev S) : Sv S := fun ρ s => bnd (f ρ s) fun d s => some (.nx (ρ.set i (some d)), s)
def sRet (f : Ev S) : Sv S := fun ρ s => bnd (f ρ s) fun d s => some (.rt d, s)
def sIf (c : Et S) (F F' : Sv S) : Sv S := fun ρ s => bnd (c ρ s) fun b s => if b = true then F ρ s else F' ρ s
/-- a target: how it sets slots -/
abbrev Tg := D → Rho → Option Rho
def gNm (i : Nat) : Tg := fun d ρ => some (ρ.set i (some d))
abbrev Tgs := List D → Rho → Option Rho
def gN0 : Tgs := fun ds ρ => match ds with
  | [] => some ρ
  | _ => none
def gC (t : Tg) (u : Tgs) : Tgs := fun ds ρ => match ds with
  | d :: ds => (t d ρ).bind fun ρ => u ds ρ
  | _ => none
def gTp (u : Tgs) : Tg := fun d ρ => match d with
  | .tuple ds => u ds ρ
  | _ => none
def sAsg (f : Ev S) (t : Tg) : Sv S := fun ρ s => bnd (f ρ s) fun d s => match t d ρ with
  | none => none
  | some ρ' => some (.nx ρ', s)
def loopF (t : Tg) (body : Sv S) : List D → Rho → S → Option (Rs × S)
  | [], ρ, s => some (.nx ρ, s)
  | d :: ds, ρ, s => match t d ρ with
    | none => none
    | some ρ1 => match body ρ1 s with
      | some (.nx ρ', s') => loopF t body ds ρ' s'
      | some (.ct ρ', s') => loopF t body ds ρ' s'
      | some (.bk ρ', s') => some (.nx ρ', s')
      | r => r
def sFor (fi : Ea S) (t : Tg) (body : Sv S) : Sv S := fun ρ s => bnd (fi ρ s) fun ds s => loopF t body ds ρ s
end
section
variable {S : Type} {X : Cx} {G : Kx} {Z : Zk S} {W : List Nat} {f g : Ev S} {F F' : Sv S} {a b c e : Expr} {es : List Expr} {st : Stmt} {rest : List Stmt} {pos p : Pos} {x : Str}
theorem es_nil : PSs X [] (tSt G Z W sNx) := imp_pss pss_nil fun E σ H ⟨B, H0, O, ρ, s, r, s', sr, hf, q⟩ => by
  cases hf
  exact q O σ H sr Ch.refl
theorem es_one (h : PS X st (tSt G Z W F)) : PSs X [st] (tSt G Z W F) := pss_one h
theorem es_cons (h : PS X st (tSt G Z W F)) (h2 : PSs X rest (tSt G Z W F')) : PSs X (st :: rest) (tSt G Z W (sSeq F F')) :=
  imp_pss (pss_cons h h2) fun E σ H ⟨B, H0, O, ρ, s, r, s', sr, hf, q⟩ => by
    unfold sSeq at hf
    split at hf
    · rename_i ρ1 s1 e1
      refine ⟨B, H0, O, ρ, s, .nx ρ1, s1, sr, e1, fun O1 σ1 H1 sr1 ch => ⟨B, H0, O1, ρ1, s1, r, s', sr1, hf, ?_⟩⟩
      cases r with
      | rt d => exact q
      | nx ρ2 => exact fun O2 σ2 H2 sr2 ch2 => q O2 σ2 H2 sr2 (ch.trans ch2)
      | bk ρ2 => exact fun O2 σ2 H2 sr2 ch2 => q O2 σ2 H2 sr2 (ch.trans ch2)
      | ct ρ2 => exact fun O2 σ2 H2 sr2 ch2 => q O2 σ2 H2 sr2 (ch.trans ch2)
    · rename_i hn
      refine ⟨B, H0, O, ρ, s, r, s', sr, hf, ?_⟩
      cases r with
      | rt d => exact q
      | nx ρ2 => exact absurd hf (hn ρ2 s')
      | bk ρ2 => exact q
      | ct ρ2 => exact q
theorem es_set {i : Nat} {pos' : Pos} (hN : X.N.Nodup) (hi : X.N[i]? = some x) (hx : Loc X.env.scope x) (he : PE X e (tEx G Z W f)) (hw : W.contains i = false := by rfl) (hs : swapsWith e (some (.Name x pos')) pos.line X.env = pure false := by rfl) (hf : X.fn x = true ∨ X.env.scope.names.lookup x = some .local := by first | exact .inl rfl | exact .inr rfl | assumption) :
    PS X (.Assign [.Name x pos'] e pos) (tSt G Z W (sSet i f)) :=
  imp_ps (ps_set hN hi hx he hs hf) fun E σ H ⟨B, H0, O, ρ, s, r, s', sr, hf, q⟩ => by
    unfold sSet at hf
    obtain ⟨d, s1, h1, hf⟩ := bnd_some hf
    cases hf
    refine ⟨B, O, ρ, s, d, _, sr.eo, sr.r, h1, fun v H1 f1 r1 R1 => ?_⟩
    have sr1 := sr.step f1 R1
    exact q O _ H1 ⟨sr1.eo.set (by simpa using hw) r1, sr1.fr, sr1.b0, sr1.o0, R1⟩ (Ch.of f1)
theorem es_ret (he : PE X e (tEx G Z [] f)) : PS X (.Return (some e) pos) (tSt G Z W (sRet f)) :=
  imp_ps (ps_ret he) fun E σ H ⟨B, H0, O, ρ, s, r, s', sr, hf, q⟩ => by
    unfold sRet at hf
    obtain ⟨d, s1, h1, hf⟩ := bnd_some hf
    cases hf
    exact ⟨B, fun _ => False, ρ, s, d, _, sr.eo.weak, sr.r, h1, fun v H1 f1 r1 R1 => q v H1 (sr.fr.trans f1) (r1.sub fun a z _ => .inl z) R1⟩
theorem es_if {t : Et S} {body orelse : List Stmt} (hc : PT X c (tEt G Z W t)) (ha : PSs X body (tSt G Z W F)) (hb : PSs X orelse (tSt G Z W F')) : PS X (.If c body orelse pos) (tSt G Z W (sIf t F F')) :=
  imp_ps (ps_if hc ha hb) fun E σ H ⟨B, H0, O, ρ, s, r, s', sr, hf, q⟩ => by
    unfold sIf at hf
    obtain ⟨d, s1, h1, hf⟩ := bnd_some hf
    refine ⟨B, O, ρ, s, d, s1, sr.eo, sr.r, h1, fun H1 f1 R1 => ?_⟩
    have sr1 := sr.step f1 R1
    have go : ∀ F : Sv S, F ρ s1 = some (r, s') → tSt G Z W F E σ H1 := fun F hF => by
      refine ⟨B, H0, O, ρ, s1, r, s', sr1, hF, ?_⟩
      cases r with
      | rt d => exact q
      | nx ρ2 => exact fun O2 σ2 H2 sr2 ch2 => q O2 σ2 H2 sr2 ((Ch.of f1).trans ch2)
      | bk ρ2 => exact fun O2 σ2 H2 sr2 ch2 => q O2 σ2 H2 sr2 ((Ch.of f1).trans ch2)
      | ct ρ2 => exact fun O2 σ2 H2 sr2 ch2 => q O2 σ2 H2 sr2 ((Ch.of f1).trans ch2)
    cases d with
    | true => exact go F hf
    | false => exact go F' hf
/-! targets -/
def tTg (G : Kx) (Z : Zk S) (W vs : List Nat) (t : Tg) : TG := fun v σ H Q => ∃ (B O : Bar) (ρ : Rho) (d : D) (ρ' : Rho), Eo G Z W B O H σ ρ ∧ Rep G (fun a => B a ∨ O a) H d v ∧ t d ρ = some ρ' ∧
  ∀ σ', Eo G Z W B O H σ' ρ' → (σ'.length = σ.length ∧ ∀ i, i ∉ vs → σ'[i]? = σ[i]?) → Q σ' H
def tTgs (G : Kx) (Z : Zk S) (W vs : List Nat) (t : Tgs) : TGs := fun v σ H Q => ∃ (B O : Bar) (ρ : Rho) (d : List D) (ρ' : Rho), Eo G Z W B O H σ ρ ∧ Reps G (fun a => B a ∨ O a) H d v ∧ t d ρ = some ρ' ∧
  ∀ σ', Eo G Z W B O H σ' ρ' → (σ'.length = σ.length ∧ ∀ i, i ∉ vs → σ'[i]? = σ[i]?) → Q σ' H
theorem imp_pg {t t' : TG} (h : PG X e t) (m : ∀ v σ H Q, t' v σ H Q → t v σ H Q) : PG X e t' := ⟨fun pins s σ H v u Q I r q => h.run pins s σ H v u Q I r (m v σ H Q q)⟩
theorem imp_pgs {t t' : TGs} (h : PGs X es t) (m : ∀ v σ H Q, t' v σ H Q → t v σ H Q) : PGs X es t' := ⟨fun pins s σ H v u Q I r q => h.run pins s σ H v u Q I r (m v σ H Q q)⟩
theorem eg_name {i : Nat} (hN : X.N.Nodup) (hi : X.N[i]? = some x) (hx : Loc X.env.scope x) (hw : W.contains i = false := by rfl) (hf : X.fn x = true ∨ X.env.scope.names.lookup x = some .local := by first | exact .inl rfl | exact .inr rfl | assumption) : PG X (.Name x pos) (tTg G Z W [i] (gNm i)) :=
  imp_pg (pg_name hN hi hx hf) fun v σ H Q ⟨B, O, ρ, d, ρ', eo, hr, ht, q⟩ => by
    cases ht
    exact q _ (eo.set (by simpa using hw) hr) ⟨by simp, fun j hj => List.getElem?_set_ne fun z => hj (by simp [z])⟩
theorem egs_nil : PGs X [] (tTgs G Z W [] gN0) := imp_pgs pgs_nil fun v σ H Q ⟨B, O, ρ, d, ρ', eo, hr, ht, q⟩ => by
  unfold gN0 at ht
  split at ht
  · cases ht
    simp only [Reps] at hr
    exact ⟨hr, q σ eo ⟨rfl, fun _ _ => rfl⟩⟩
  · cases ht
theorem egs_cons {t : Tg} {u : Tgs} {vs us : List Nat} (h1 : PG X e (tTg G Z W vs t)) (h2 : PGs X es (tTgs G Z W us u)) (hs : (assignEach (e :: es) X.env).map (·.2) = assign e X.env :: (assignEach es X.env).map (·.2) := by rfl) : PGs X (e :: es) (tTgs G Z W (vs ++ us) (gC t u)) :=
  imp_pgs (pgs_cons h1 h2 hs) fun v σ H Q ⟨B, O, ρ, d, ρ', eo, hr, ht, q⟩ => by
    unfold gC at ht
    split at ht
    · rename_i d ds
      simp only [Reps] at hr
      obtain ⟨w, r, rfl, hr1, hr2⟩ := hr
      cases e1 : t d ρ with
      | none => rw [e1] at ht; cases ht
      | some ρ1 =>
        rw [e1] at ht
        have ht : u ds ρ1 = some ρ' := ht
        refine ⟨w, r, rfl, B, O, ρ, d, ρ1, eo, hr1, e1, fun σ1 eo1 k1 => ⟨B, O, ρ1, ds, ρ', eo1, hr2, ht, fun σ2 eo2 k2 => q σ2 eo2 ⟨k2.1.trans k1.1, fun i hi => ?_⟩⟩⟩
        rw [k2.2 i fun z => hi (List.mem_append_right _ z), k1.2 i fun z => hi (List.mem_append_left _ z)]
    · cases ht
theorem eg_tup {k n : Nat} {u : Tgs} {vs : List Nat} (hc : X.calm = true) (h : PGs X es (tTgs G Z W vs u)) (hl : ∀ ds ρ ρ', u ds ρ = some ρ' → ds.length = n) (hK : X.K = G.K := by rfl)
    (hn : (assignEach es X.env).length = n := by rfl) (hst : (assignEach es X.env).findIdx? (·.1) = none := by rfl) : PG X (.Tuple es k pos) (tTg G Z W vs (gTp u)) :=
  imp_pg (pg_tup hc h hn hst) fun v σ H Q ⟨B, O, ρ, d, ρ', eo, hr, ht, q⟩ => by
    unfold gTp at ht
    split at ht
    · rename_i ds
      obtain ⟨a, xs, rfl, h1, h2⟩ := hr.sqT
      refine ⟨a, xs, rfl, by rw [hK]; exact h1, by rw [h2.len]; exact hl _ _ _ ht, B, O, ρ, ds, ρ', eo, h2, ht, q⟩
    · cases ht
theorem gl0 {ds : List D} {ρ ρ' : Rho} (h : gN0 ds ρ = some ρ') : ds.length = 0 := by
  unfold gN0 at h
  split at h
  · rfl
  · cases h
theorem glC {t : Tg} {u : Tgs} {n : Nat} (hu : ∀ ds ρ ρ', u ds ρ = some ρ' → ds.length = n) {ds : List D} {ρ ρ' : Rho} (h : gC t u ds ρ = some ρ') : ds.length = n + 1 := by
  unfold gC at h
  split at h
  · rename_i d ds
    cases e1 : t d ρ with
    | none => rw [e1] at h; cases h
    | some ρ1 =>
      rw [e1] at h
      have := hu ds ρ1 ρ' h
      simp [this]
  · cases h
end
end Dl
set_option Elab.async false
set_option linter.all false
set_option maxRecDepth 100000
set_option maxHeartbeats 4000000
namespace Dl
open PySem PySem.Spec PyProof.Rows L2
/-! ### what is walked -/
def Wk (G : Kx) (B : Bar) (H1 : Hp) (J : It) (ds : List D) : Prop := ∃ (Gd : Hp → Prop) (Y : Nat → Hp → V → Hp → Prop), Walk J ds.length Gd Y ∧
  ∀ (B2 : Bar) (H2 : Hp), (∀ a o, H1 a = some o → ¬ B a → H2 a = some o ∧ ¬ B2 a) → (∀ a, B2 a → H2 a ≠ none) → Gd H2 ∧ ∀ i d x H3, ds[i]? = some d → Y i H2 x H3 → Same H2 H3 ∧ Rep G B2 H3 d x
def tIt {S : Type} (G : Kx) (Z : Zk S) (W : List Nat) (f : Ea S) : TI := fun σ H R =>
  ∃ (B O : Bar) (ρ : Rho) (s : S) (d : List D) (s' : S), Eo G Z W B O H σ ρ ∧ Z.R H s ∧ f ρ s = some (d, s') ∧
    ∀ J H', Lc.Fr Z.M H H' → Wk G (fun a => B a ∨ O a) H' J d → Z.R H' s' → R J H'
theorem imp_pi {X : Cx} {tg e : Expr} {t t' : TI} (h : PI X tg e t) (m : ∀ σ H Q, t' σ H Q → t σ H Q) : PI X tg e t' := ⟨fun pins s σ H Q I q => h.run pins s σ H Q I (m σ H Q q)⟩
section
variable {S : Type} {X : Cx} {G : Kx} {Z : Zk S} {W : List Nat} {f g : Ev S} {F F' : Sv S} {a b c e tg : Expr} {es : List Expr} {st : Stmt} {rest : List Stmt} {pos p : Pos} {x : Str}
theorem es_for {iter : Expr} {body : List Stmt} {fi : Ea S} {t : Tg} {vs : List Nat} (hp : PassesOwn (model X.prog X.w) X.A X.env X.xe) (hc : X.calm = true) (hi : PI X tg iter (tIt G Z W fi)) (hg : PG X tg (tTg G Z W vs t)) (hb : PSs X body (tSt G Z W F))
    (hs : ∀ x, foldedSetIterable iter X.env x = pure x := by intro _; rfl) : PS X (.For tg iter body [] pos) (tSt G Z W (sFor fi t F)) :=
  imp_ps (ps_for hp hc hi hg hb hs) fun E σ H ⟨B, H0, O, ρ, s, r, s', sr, hf, q⟩ => by
    unfold sFor at hf
    obtain ⟨ds, s1, h1, hf⟩ := bnd_some hf
    refine ⟨B, O, ρ, s, ds, s1, sr.eo, sr.r, h1, fun J H1 f1 wk R1 => ?_⟩
    obtain ⟨Gd, Y, w, k⟩ := wk
    have sr1 := sr.step f1 R1
    have stay : ∀ {O2 : Bar} {H2 : Hp}, Ch Z O O2 H1 H2 → ∀ a o, H1 a = some o → ¬ (B a ∨ O a) → H2 a = some o ∧ ¬ (B a ∨ O2 a) := fun ch a o e n =>
      ⟨ch.fr.at e fun z => n (z.elim (fun z => .inl (sr.mb a z)) .inr), fun z => n (z.elim .inl fun z => (ch.nw a z).elim .inr fun z => by rw [e] at z; cases z)⟩
    have dom : ∀ {O2 : Bar} {H2 : Hp} {σ2 : L2.St} {ρ2 : Rho} {s2 : S}, Sr G Z W B H0 O2 H2 σ2 ρ2 s2 → ∀ a, (B a ∨ O2 a) → H2 a ≠ none := fun r a z => z.elim (r.eo.bd a) (r.eo.od a)
    refine for_it w (fun i σ2 H2 => ∃ O2 ρ2 s2, Sr G Z W B H0 O2 H2 σ2 ρ2 s2 ∧ Ch Z O O2 H1 H2 ∧ loopF t F (ds.drop i) ρ2 s2 = some (r, s')) ⟨O, ρ, s1, sr1, Ch.refl, hf⟩ ?_ ?_ ?_
    · rintro i σ2 H2 hi ⟨O2, ρ2, s2, sr2, ch, _⟩
      exact (k _ H2 (stay ch) (dom sr2)).1
    · rintro i x σ2 H2 H3 hi ⟨O2, ρ2, s2, sr2, ch, hl⟩ y
      have hd : ds[i]? = some ds[i] := by simp [hi]
      obtain ⟨sm, rp⟩ := (k _ H2 (stay ch) (dom sr2)).2 i ds[i] x H3 hd y
      rw [List.drop_eq_getElem_cons hi] at hl
      unfold loopF at hl
      split at hl
      · cases hl
      · rename_i ρ3 e1
        refine ⟨B, O2, ρ2, ds[i], ρ3, sr2.eo.fr (Lc.Fr.of sm), rp, e1, fun σ3 eo3 _ => ?_⟩
        have sr3 : Sr G Z W B H0 O2 H3 σ3 ρ3 s2 := ⟨eo3, sr2.fr.trans (Lc.Fr.of sm), sr2.b0, sr2.o0, Z.same sr2.r sm⟩
        have ch3 : Ch Z O O2 H1 H3 := ch.trans (Ch.of (Lc.Fr.of sm))
        split at hl
        · rename_i ρ4 s4 e4
          exact ⟨B, H0, O2, ρ3, s2, .nx ρ4, s4, sr3, e4, fun O5 σ5 H5 sr5 ch5 => ⟨O5, ρ4, s4, sr5, ch3.trans ch5, hl⟩⟩
        · rename_i ρ4 s4 e4
          exact ⟨B, H0, O2, ρ3, s2, .ct ρ4, s4, sr3, e4, fun O5 σ5 H5 sr5 ch5 => ⟨O5, ρ4, s4, sr5, ch3.trans ch5, hl⟩⟩
        · rename_i ρ4 s4 e4
          cases hl
          exact ⟨B, H0, O2, ρ3, s2, .bk ρ4, _, sr3, e4, fun O5 σ5 H5 sr5 ch5 => q O5 σ5 H5 sr5 ((Ch.of f1).trans (ch3.trans ch5))⟩
        · rename_i n1 n2 n3
          cases r with
          | rt d => exact ⟨B, H0, O2, ρ3, s2, .rt d, s', sr3, hl, q⟩
          | nx ρ4 => exact absurd hl (n1 ρ4 s')
          | ct ρ4 => exact absurd hl (n2 ρ4 s')
          | bk ρ4 => exact absurd hl (n3 ρ4 s')
    · rintro σ2 H2 ⟨O2, ρ2, s2, sr2, ch, hl⟩
      rw [List.drop_length] at hl
      cases hl
      exact q O2 σ2 H2 sr2 ((Ch.of f1).trans ch)
/-! what can be walked -/
def asL : D → Option (List D)
  | .list ds => some ds
  | _ => none
def asT : D → Option (List D)
  | .tuple ds => some ds
  | _ => none
/-- an iterable of an expression's value -/
def iOf (p : D → Option (List D)) (f : Ev S) : Ea S := fun ρ s => bnd (f ρ s) fun d s => put (p d) s
theorem wk_list {B : Bar} {H : Hp} {a : Addr} {vs : List V} {ds : List D} (hK : PySem.W.Frag) (h : H a = some (.lst vs)) (n : ¬ B a) (r : Reps G B H ds vs) : Wk G B H (Itl hK a) ds := by
  refine ⟨fun H => SqL hK H a vs, YAt vs, by rw [← r.len]; exact walk_list, fun B2 H2 st dm => ⟨.inl (.inl (st a _ h n).1), fun i d x H3 hd y => ?_⟩⟩
  obtain ⟨rfl, hx⟩ := y
  obtain ⟨v, h1, h2⟩ := (r.mv (B' := B2) (H' := H3) st).get hd
  rw [hx] at h1
  cases h1
  exact ⟨Same.refl _, h2⟩
theorem wk_tup {B : Bar} {H : Hp} {a : Addr} {vs : List V} {ds : List D} (h : (TpAt H a ds vs ∧ ¬ B a) ∨ KT G.K a vs) (r : Reps G B H ds vs) : Wk G B H (Itt G.K a) ds := by
  refine ⟨fun H => SqT G.K H a vs, YAt vs, by rw [← r.len]; exact walk_tup, fun B2 H2 st dm => ⟨?_, fun i d x H3 hd y => ?_⟩⟩
  · rcases h with ⟨h, n⟩ | h
    · exact (h.mv fun o e => (st a _ e n).1).sq
    · exact h.sq
  · obtain ⟨rfl, hx⟩ := y
    obtain ⟨v, h1, h2⟩ := (r.mv (B' := B2) (H' := H3) st).get hd
    rw [hx] at h1
    cases h1
    exact ⟨Same.refl _, h2⟩
theorem ei_list (he : PE X e (tEx G Z W f)) : PI X tg e (tIt G Z W (iOf asL f)) :=
  imp_pi (pi_list he) fun σ H Q ⟨B, O, ρ, s, d, s', eo, hR, hf, q⟩ => by
    unfold iOf at hf
    obtain ⟨y, s1, h1, hf⟩ := bnd_some hf
    obtain ⟨h3, rfl⟩ := put_some hf
    refine ⟨B, O, ρ, s, y, _, eo, hR, h1, fun v H1 f1 r1 R1 => ?_⟩
    unfold asL at h3
    split at h3
    · cases h3
      simp only [Rep] at r1
      obtain ⟨a, vs, rfl, h4, h5, h6⟩ := r1
      exact ⟨a, rfl, ⟨vs, .inl (.inl h4)⟩, q _ H1 f1 (wk_list _ h4 h5 h6) R1⟩
    · cases h3
theorem ei_tup (he : PE X e (tEx G Z W f)) (hK : X.K = G.K := by rfl) : PI X tg e (tIt G Z W (iOf asT f)) :=
  imp_pi (pi_tup he) fun σ H Q ⟨B, O, ρ, s, d, s', eo, hR, hf, q⟩ => by
    unfold iOf at hf
    obtain ⟨y, s1, h1, hf⟩ := bnd_some hf
    obtain ⟨h3, rfl⟩ := put_some hf
    refine ⟨B, O, ρ, s, y, _, eo, hR, h1, fun v H1 f1 r1 R1 => ?_⟩
    unfold asT at h3
    split at h3
    · cases h3
      obtain ⟨a0, vs0, e0, hT, _⟩ := r1.sqT
      simp only [Rep] at r1
      obtain ⟨a, vs, rfl, h4, h6⟩ := r1
      cases e0
      rw [hK]
      exact ⟨_, rfl, ⟨vs0, hT⟩, q _ H1 f1 (wk_tup h4 h6) R1⟩
    · cases h3
def asS : D → Option (List D)
  | .str z => some (z.cps.toList.map fun c => .str ⟨#[c]⟩)
  | _ => none
theorem wk_str {B : Bar} {H : Hp} {z : Str} : Wk G B H (Its z) (z.cps.toList.map fun c => .str ⟨#[c]⟩) := by
  refine ⟨fun _ => True, _, by rw [List.length_map, Array.length_toList]; exact walk_str, fun B2 H2 st dm => ⟨trivial, fun i d x H3 hd y => ?_⟩⟩
  obtain ⟨rfl, c, hc, rfl⟩ := y
  rw [List.getElem?_map, Array.getElem?_toList, hc] at hd
  cases hd
  exact ⟨Same.refl _, by simp only [Rep]⟩
theorem ei_str (he : PE X e (tEx G Z W f)) : PI X tg e (tIt G Z W (iOf asS f)) :=
  imp_pi (pi_str he) fun σ H Q ⟨B, O, ρ, s, d, s', eo, hR, hf, q⟩ => by
    unfold iOf at hf
    obtain ⟨y, s1, h1, hf⟩ := bnd_some hf
    obtain ⟨h3, rfl⟩ := put_some hf
    refine ⟨B, O, ρ, s, y, _, eo, hR, h1, fun v H1 f1 r1 R1 => ?_⟩
    unfold asS at h3
    split at h3
    · cases h3
      simp only [Rep] at r1
      exact ⟨_, r1, q _ H1 f1 wk_str R1⟩
    · cases h3
def rngD (lo : Int) (n : Nat) : List D := (List.range n).map fun (i : Nat) => .int (lo + i)
theorem wk_range {B : Bar} {H : Hp} {lo : Int} {n : Nat} : Wk G B H (Itr lo n) (rngD lo n) := by
  refine ⟨fun _ => True, _, by simp only [rngD, List.length_map, List.length_range]; exact walk_range, fun B2 H2 st dm => ⟨trivial, fun i d x H3 hd y => ?_⟩⟩
  obtain ⟨rfl, rfl⟩ := y
  simp only [rngD, List.getElem?_map] at hd
  by_cases hi : i < n
  · rw [List.getElem?_range hi] at hd
    cases hd
    exact ⟨Same.refl _, by simp only [Rep]⟩
  · rw [List.getElem?_eq_none (by simpa using hi)] at hd
    cases hd
def pR1 : List D → Option (List D)
  | [.int j] => if -(2 ^ 62) ≤ j ∧ j < 2 ^ 62 then some (rngD 0 j.toNat) else none
  | _ => none
def iOfA (p : List D → Option (List D)) (f : Ea S) : Ea S := fun ρ s => bnd (f ρ s) fun d s => put (p d) s
theorem ei_range1 {fa : Ea S} (h : PI X tg (.Call (.Name "range" p) [a] [] pos) (iRng1 (tEa G Z W fa))) : PI X tg (.Call (.Name "range" p) [a] [] pos) (tIt G Z W (iOfA pR1 fa)) :=
  imp_pi h fun σ H Q ⟨B, O, ρ, s, d, s', eo, hR, hf, q⟩ => by
    unfold iOfA at hf
    obtain ⟨y, s1, h1, hf⟩ := bnd_some hf
    obtain ⟨h3, rfl⟩ := put_some hf
    refine ⟨B, O, ρ, s, y, _, eo, hR, h1, fun v H1 f1 r1 R1 => ?_⟩
    unfold pR1 at h3
    split at h3
    · split at h3
      · rename_i j hj
        cases h3
        simp only [Reps, Rep] at r1
        obtain ⟨v, r, rfl, rfl, rfl⟩ := r1
        exact ⟨j, rfl, hj.1, hj.2, q _ H1 f1 wk_range R1⟩
      · cases h3
    · cases h3
/-! list comprehensions -/
def wipeR (ρ : Rho) : List Nat → Rho
  | [] => ρ
  | v :: vs => (wipeR ρ vs).set v none
def compF (t : Tg) (q : Et S) (f : Ev S) (ρ : Rho) : List D → S → Option (List D × S)
  | [], s => some ([], s)
  | d :: ds, s => match t d ρ with
    | none => none
    | some ρ1 => bnd (q ρ1 s) fun b s => if b = true then bnd (f ρ1 s) fun y s => bnd (compF t q f ρ ds s) fun ys s => some (y :: ys, s) else compF t q f ρ ds s
def lcF (fi : Ea S) (t : Tg) (q : Et S) (f : Ev S) (vs : List Nat) : Ea S := fun ρ s => bnd (fi ρ s) fun ds s => if ds.length ≤ sizeLine then compF t q f (wipeR ρ vs) ds s else none
def qYes : Et S := fun _ s => some (true, s)
theorem wipe_get {σ : L2.St} {i : Nat} : ∀ {vs : List Nat}, i ∉ vs → (wipe σ vs)[i]? = σ[i]?
  | [], _ => rfl
  | v :: vs, h => by
    unfold wipe
    rw [List.getElem?_set_ne fun z => h (by simp [z]), wipe_get fun z => h (List.mem_cons_of_mem _ z)]
theorem wipeR_get {ρ : Rho} {i : Nat} {d : D} : ∀ {vs : List Nat}, (wipeR ρ vs)[i]? = some (some d) → ρ[i]? = some (some d) ∧ i ∉ vs
  | [], h => ⟨h, by simp⟩
  | v :: vs, h => by
    unfold wipeR at h
    by_cases hi : v = i
    · subst hi
      rw [List.getElem?_set] at h
      simp only [if_true] at h
      split at h <;> cases h
    · rw [List.getElem?_set_ne hi] at h
      obtain ⟨h1, h2⟩ := wipeR_get h
      exact ⟨h1, fun z => (List.mem_cons.mp z).elim (fun z => hi z.symm) h2⟩
theorem wipeR_len {ρ : Rho} : ∀ {vs : List Nat}, (wipeR ρ vs).length = ρ.length
  | [] => rfl
  | v :: vs => by unfold wipeR; rw [List.length_set, wipeR_len]
theorem wipe_none {σ : L2.St} {i : Nat} : ∀ {vs : List Nat}, i ∈ vs → i < σ.length → (wipe σ vs)[i]? = some none
  | v :: vs, h, hl => by
    unfold wipe
    by_cases hi : v = i
    · subst hi
      rw [List.getElem?_set_self (by rw [wipe_length]; exact hl)]
    · rw [List.getElem?_set_ne hi]
      exact wipe_none ((List.mem_cons.mp h).elim (fun z => absurd z.symm hi) id) hl
theorem Eo.wipe {B O : Bar} {H : Hp} {σ : L2.St} {ρ : Rho} (e : Eo G Z W B O H σ ρ) (vs : List Nat) : Eo G Z W B O H (L2.wipe σ vs) (wipeR ρ vs) where
  er := by
    refine ⟨by rw [wipe_length, wipeR_len]; exact e.er.len, fun i d hi hd => ?_, ?_⟩
    · obtain ⟨h1, h2⟩ := wipeR_get hd
      rw [wipe_get h2]
      exact e.er.pl i d hi h1
    · obtain ⟨om, h1, h2⟩ := e.er.ow
      refine ⟨om, fun i j d d' hi hj hd hd' => h1 i j d d' hi hj (wipeR_get hd).1 (wipeR_get hd').1, fun i d hi hd => ?_⟩
      obtain ⟨h3, h4⟩ := wipeR_get hd
      rw [wipe_get h4]
      exact h2 i d hi h3
  bd := e.bd
  ol := e.ol
  mb := e.mb
  ob := e.ob
theorem wipe_ext {σ σ2 : L2.St} {us vs : List Nat} (hv : ∀ i ∈ us, i ∈ vs) (hl : σ2.length = σ.length) (k : ∀ i, i ∉ us → σ2[i]? = (wipe σ vs)[i]?) : wipe σ2 vs = wipe σ vs := by
  apply List.ext_getElem?
  intro i
  by_cases hi : i ∈ vs
  · by_cases hl2 : i < σ.length
    · rw [wipe_none hi (by omega), wipe_none hi hl2]
    · rw [List.getElem?_eq_none (by rw [wipe_length]; omega), List.getElem?_eq_none (by rw [wipe_length]; omega)]
  · rw [wipe_get hi, k i fun z => hi (hv i z)]
theorem Eo.bar {B O : Bar} {H : Hp} {σ : L2.St} {ρ : Rho} (e : Eo G Z W B O H σ ρ) {L : Addr} (h : H L = none) (o : HO) : Eo G Z W (fun a => B a ∨ a = L) O (upd H L o) σ ρ := by
  have k : ∀ a u, H a = some u → ¬ (B a ∨ O a) → upd H L o a = some u ∧ ¬ ((B a ∨ a = L) ∨ O a) := fun a u q n => by
    have ne : a ≠ L := ne_of_none q h
    exact ⟨by rw [upd_ne ne]; exact q, fun z => n (z.elim (fun z => z.elim .inl fun z => absurd z ne) .inr)⟩
  refine ⟨⟨e.er.len, fun i d hi hd => ?_, ?_⟩, fun a z => ?_, fun a z => ?_, fun a z => .inl (e.mb a z), fun a z y => ?_⟩
  · obtain ⟨v, h1, h2⟩ := e.er.pl i d hi hd
    exact ⟨v, h1, h2.mv k⟩
  · obtain ⟨om, h1, h2⟩ := e.er.ow
    refine ⟨om, h1, fun i d hi hd => ?_⟩
    obtain ⟨a2, a3, a5⟩ := h2 i d hi hd
    exact ⟨a2, a3, a5.mv k fun o q => by rw [upd_ne (ne_of_none q h)]; exact q⟩
  · rcases z with z | rfl
    · by_cases hq : a = L
      · subst hq; rw [upd_same]; simp
      · rw [upd_ne hq]; exact e.bd a z
    · rw [upd_same]; simp
  · exact (e.ol a z).k fun o q => by rw [upd_ne (ne_of_none q h)]; exact q
  · rcases y with y | rfl
    · exact e.ob a z y
    · exact e.od a z h
theorem Eo.upd {B O : Bar} {H : Hp} {σ : L2.St} {ρ : Rho} (e : Eo G Z W B O H σ ρ) {L : Addr} (h : B L) (o : HO) : Eo G Z W B O (upd H L o) σ ρ := by
  have k : ∀ a u, H a = some u → ¬ (B a ∨ O a) → L2.upd H L o a = some u ∧ ¬ (B a ∨ O a) := fun a u q n => ⟨by rw [upd_ne fun z => n (.inl (by rw [z]; exact h))]; exact q, n⟩
  have nO : ∀ a, O a → a ≠ L := fun a z y => e.ob a z (by rw [y]; exact h)
  refine ⟨⟨e.er.len, fun i d hi hd => ?_, ?_⟩, fun a z => ?_, fun a z => ?_, e.mb, e.ob⟩
  · obtain ⟨v, h1, h2⟩ := e.er.pl i d hi hd
    exact ⟨v, h1, h2.mv k⟩
  · obtain ⟨om, h1, h2⟩ := e.er.ow
    refine ⟨om, h1, fun i d hi hd => ?_⟩
    obtain ⟨a2, a3, a5⟩ := h2 i d hi hd
    exact ⟨a2, a3, a5.mv k fun o q => by rw [upd_ne (nO _ a3)]; exact q⟩
  · by_cases hq : a = L
    · subst hq; rw [upd_same]; simp
    · rw [upd_ne hq]; exact e.bd a z
  · exact (e.ol a z).k fun o q => by rw [upd_ne (nO a z)]; exact q
/-- the core: a comprehension makes a new list -/
theorem lc_new {fi : Ea S} {t : Tg} {us vs : List Nat} {q : Et S} {tt : TT} {B O : Bar} {ρ : Rho} {s s' : S} {ds : List D} {σ : L2.St} {H : Hp} {Q : VK} (hu : ∀ i ∈ us, i ∈ vs) (hq : ∀ σ H Q, tEt G Z W q σ H Q → tt σ H Q) (eo : Eo G Z W B O H σ ρ) (hR : Z.R H s) (hf : lcF fi t q f vs ρ s = some (ds, s'))
    (h : ∀ p vs H', H p = none → Lc.Fr Z.M H H' → H' p = some (.lst vs) → Reps G (fun a => (B a ∨ a = p) ∨ O a) H' ds vs → Z.R H' s' → Q (.ref p) H') :
    tLc (tIt G Z W fi) (tTg G Z W us t) tt (tEx G Z W f) vs σ H Q := by
  unfold lcF at hf
  obtain ⟨xs, s1, h1, hf⟩ := bnd_some hf
  split at hf
  · rename_i hsz
    refine ⟨B, O, ρ, s, xs, s1, eo, hR, h1, fun J H1 f1 wk R1 => fun L hL => ?_⟩
    obtain ⟨Gd, Y, w, k⟩ := wk
    have eo1 := eo.fr f1
    have nL : ¬ (B L ∨ O L) := eo1.new hL
    have nM : ¬ Z.M L := fun z => nL (.inl (eo.mb L z))
    have hL0 : H L = none := f1.free hL
    have dm : ∀ {H2 : Hp}, Eo G Z W (fun a => B a ∨ a = L) O H2 σ ρ → ∀ a, ((B a ∨ a = L) ∨ O a) → H2 a ≠ none := fun e2 a z => z.elim (e2.bd a) (e2.od a)
    have st : ∀ {H2 : Hp}, Lc.Fr Z.M H1 H2 → ∀ a o, H1 a = some o → ¬ (B a ∨ O a) → H2 a = some o ∧ ¬ ((B a ∨ a = L) ∨ O a) := fun f2 a o e n =>
      ⟨f2.at e fun z => n (.inl (eo.mb a z)), fun z => n (z.elim (fun z => z.elim .inl fun z => absurd z (ne_of_none e hL)) .inr)⟩
    refine lc_it w (fun i H2 => ∃ acc as rest s2, Eo G Z W (fun a => B a ∨ a = L) O H2 σ ρ ∧ Lc.Fr Z.M H1 H2 ∧ H2 L = some (.lst as) ∧ Reps G (fun a => (B a ∨ a = L) ∨ O a) H2 acc as ∧ acc.length ≤ i ∧ Z.R H2 s2 ∧ compF t q f (wipeR ρ vs) (xs.drop i) s2 = some (rest, s') ∧ acc ++ rest = ds) ?_ ?_ ?_ ?_
    · exact ⟨[], [], ds, s1, eo1.bar hL _, Lc.Fr.new hL, upd_same, Reps.nil, Nat.le_refl _, Z.same R1 (Lc.same_new hL), hf, rfl⟩
    · rintro i H2 hi ⟨acc, as, rest, s2, eo2, f2, _⟩
      exact (k _ H2 (st f2) (dm eo2)).1
    · rintro i x H2 H3 hi ⟨acc, as, rest, s2, eo2, f2, hLs, ra, hn, R2, hc, hds⟩ y
      have hd : xs[i]? = some xs[i] := by simp [hi]
      obtain ⟨sm, rp⟩ := (k _ H2 (st f2) (dm eo2)).2 i xs[i] x H3 hd y
      rw [List.drop_eq_getElem_cons hi] at hc
      unfold compF at hc
      split at hc
      · cases hc
      · rename_i ρ3 e1
        have eo3 := (eo2.fr (Lc.Fr.of sm)).wipe vs
        refine ⟨_, O, wipeR ρ vs, xs[i], ρ3, eo3, rp, e1, fun σ3 eo4 kk => ⟨wipe_ext hu (by rw [kk.1, wipe_length]) kk.2, ?_⟩⟩
        obtain ⟨b, s3, h3, hc⟩ := bnd_some hc
        refine hq _ _ _ ⟨_, O, ρ3, s2, b, s3, eo4, Z.same R2 sm, h3, fun H4 f4 R4 => ?_⟩
        have f24 : Lc.Fr Z.M H2 H4 := (Lc.Fr.of sm).trans f4
        have mb : ∀ a, Z.M a → (B a ∨ a = L) ∨ O a := fun a z => .inl (.inl (eo.mb a z))
        have hL4 : H4 L = some (.lst as) := f24.at hLs nM
        cases b with
        | false =>
          rw [if_neg (by simp)] at hc
          refine iteF ?_
          exact ⟨acc, as, rest, s3, eo2.fr f24, f2.trans f24, hL4, ra.fr f24 mb, by omega, R4, hc, hds⟩
        | true =>
          rw [if_pos rfl] at hc
          refine iteT ?_
          obtain ⟨y1, s4, h4, hc⟩ := bnd_some hc
          obtain ⟨ys, s5, h5, hc⟩ := bnd_some hc
          cases hc
          refine ⟨_, O, ρ3, s3, y1, s4, eo4.fr f4, R4, h4, fun u H5 f5 r5 R5 => ?_⟩
          have f25 := f24.trans f5
          have hL5 : H5 L = some (.lst as) := f25.at hLs nM
          have ra5 := ra.fr f25 mb
          refine ⟨as, hL5, by have := ra.len; omega, ?_⟩
          have up : ∀ a o, H5 a = some o → ¬ ((B a ∨ a = L) ∨ O a) → L2.upd H5 L (.lst (as ++ [u])) a = some o ∧ ¬ ((B a ∨ a = L) ∨ O a) := fun a o e n => ⟨by rw [upd_ne fun z => n (.inl (.inr z))]; exact e, n⟩
          refine ⟨acc ++ [y1], as ++ [u], ys, s4, (eo2.fr f25).upd (.inr rfl) _, Lc.Fr.own (f2.trans f25) hL, upd_same, (ra5.append (Reps.cons r5 Reps.nil)).mv up, by simp; omega, Z.loc H5 _ s4 R5 fun a z => upd_ne fun e => nM (by rw [← e]; exact z), h5, by simpa using hds⟩
    · rintro H2 ⟨acc, as, rest, s2, eo2, f2, hLs, ra, hn, R2, hc, hds⟩
      rw [List.drop_length] at hc
      cases hc
      rw [List.append_nil] at hds
      subst hds
      exact h L as H2 hL0 (f1.trans f2) hLs ra R2
  · cases hf
end
end Dl
set_option Elab.async false
set_option linter.all false
set_option maxRecDepth 100000
set_option maxHeartbeats 4000000
namespace Dl
open PySem PySem.Spec PyProof.Rows L2
/-! ### new lists, and slots that own them -/
/-- a reading whose value is a new list -/
def tNl {S : Type} (G : Kx) (Z : Zk S) (W : List Nat) (f : Ea S) : TE := fun σ H Q =>
  ∃ (B O : Bar) (ρ : Rho) (s : S) (d : List D) (s' : S), Eo G Z W B O H σ ρ ∧ Z.R H s ∧ f ρ s = some (d, s') ∧
    ∀ p vs H', H p = none → Lc.Fr Z.M H H' → H' p = some (.lst vs) → Reps G (fun a => (B a ∨ a = p) ∨ O a) H' d vs → Z.R H' s' → Q (.ref p) H'
def cNl {S : Type} (f : Ea S) : Ev S := fun ρ s => bnd (f ρ s) fun ds s => some (.list ds, s)
section
variable {S : Type} {X : Cx} {G : Kx} {Z : Zk S} {W : List Nat} {f g : Ev S} {fa : Ea S} {F F' : Sv S} {a b c e tg : Expr} {es : List Expr} {st : Stmt} {rest : List Stmt} {pos p : Pos} {x : Str}
theorem ex_nl (h : PE X e (tNl G Z W fa)) : PE X e (tEx G Z W (cNl fa)) :=
  imp_pe h fun σ H Q ⟨B, O, ρ, s, d, s', eo, hR, hf, q⟩ => by
    unfold cNl at hf
    obtain ⟨y, s1, h1, hf⟩ := bnd_some hf
    cases hf
    refine ⟨B, O, ρ, s, y, _, eo, hR, h1, fun p vs H' hp f1 h2 h3 R1 => q _ H' f1 ?_ R1⟩
    simp only [Rep]
    exact ⟨p, vs, rfl, h2, eo.new hp, h3.sub fun a z _ => z.elim (fun z => .inl (.inl z)) .inr⟩
theorem nl_lc {iter : Expr} {ifs : List Expr} {scope : Scope} {own : List (Str × Nat)} {fi : Ea S} {t : Tg} {us : List Nat} {q : Et S} {tt : TT} (hc : X.calm = true) (hN : X.N.Nodup) (hi : PI X tg iter (tIt G Z W fi)) (ok : BlkOk X.N X.env.scope scope own)
    (hg : ∀ (s : Shared) (H : Hp) (C : Addr) (cl : List (Str × Addr)) (fp : List Addr), PG (X.blk s H scope (compEnvC scope cl C X.env) fp) tg (tTg G Z W us t)) (ht : ∀ (s : Shared) (H : Hp) (C : Addr) (cl : List (Str × Addr)) (fp : List Addr), PTs (X.blk s H scope (compEnvC scope cl C X.env) fp) ifs tt)
    (hq : ∀ σ H Q, tEt G Z W q σ H Q → tt σ H Q)
    (he : ∀ (s : Shared) (H : Hp) (C : Addr) (cl : List (Str × Addr)) (fp : List Addr), PE (X.blk s H scope (compEnvC scope cl C X.env) fp) e (tEx G Z W f)) (hu : ∀ i ∈ us, i ∈ own.map (·.2) := by decide) (hs : ∀ x, foldedSetIterable iter X.env x = pure x := by intro _; rfl) :
    PE X (.ListComp e [⟨tg, iter, ifs, 0⟩] scope pos) (tNl G Z W (lcF fi t q f (own.map (·.2)))) :=
  imp_pe (pe_lc hc hN hi ok hg ht he hs) fun σ H Q ⟨B, O, ρ, s, d, s', eo, hR, hf, k⟩ => lc_new hu hq eo hR hf k
theorem yes_of {σ : L2.St} {H : Hp} {Q : Bool → Hp → Prop} (h : tEt G Z W qYes σ H Q) : tYes σ H Q := by
  obtain ⟨B, O, ρ, s, d, s', eo, hR, hf, q⟩ := h
  cases hf
  exact q H (Lc.Fr.refl H) hR
/-- an own slot is set to a new thing -/
theorem Sr.ownG {B O : Bar} {H0 H H' : Hp} {σ : L2.St} {ρ : Rho} {s s' : S} {P : Addr} {d0 : D} {i : Nat} (sr : Sr G Z W B H0 O H σ ρ s) (hi : i ∈ W) (hp : H P = none) (f1 : Lc.Fr Z.M H H') (h1 : LoD H' P)
    (h2 : OwnAt G (fun a => (B a ∨ a = P) ∨ O a) H' P d0) (R1 : Z.R H' s') : Sr G Z W B H0 (fun a => O a ∨ a = P) H' (σ.set i (some (.ref P))) (ρ.set i (some d0)) s' ∧ Ch Z O (fun a => O a ∨ a = P) H H' := by
  have eo1 := sr.eo.fr f1
  have nB : ¬ B P := fun z => sr.eo.bd P z hp
  have k : ∀ a o, H a = some o → ¬ (B a ∨ O a) → H' a = some o ∧ ¬ (B a ∨ (O a ∨ a = P)) := fun a o e n =>
    ⟨f1.at e fun z => n (.inl (sr.mb a z)), fun z => n (z.elim .inl fun z => z.elim .inr fun z => absurd z (ne_of_none e hp))⟩
  obtain ⟨om, o1, o2⟩ := sr.eo.er.ow
  refine ⟨⟨⟨?_, eo1.bd, fun a z => ?_, sr.mb, fun a z => ?_⟩, sr.fr.trans f1, sr.b0, fun a z => ?_, R1⟩, ⟨fun b o e => ?_, fun _ z => .inl z, fun a z => ?_⟩⟩
  · have e' : Er G W B O H' σ ρ := eo1.er
    refine ⟨by simp [e'.len], fun j d hj hd => ?_, ?_⟩
    · have ne : i ≠ j := fun z => hj (z ▸ hi)
      rw [List.getElem?_set_ne ne] at hd
      obtain ⟨v, h3, h4⟩ := sr.eo.er.pl j d hj hd
      exact ⟨v, by rw [List.getElem?_set_ne ne]; exact h3, h4.mv k⟩
    · have at_ : ∀ j d, (ρ.set i (some d0))[j]? = some (some d) → (j = i ∧ i < ρ.length ∧ d = d0) ∨ (j ≠ i ∧ ρ[j]? = some (some d)) := fun j d hd => by
        by_cases hij : i = j
        · subst hij
          rw [List.getElem?_set] at hd
          simp only [if_true] at hd
          split at hd
          · cases hd
            exact .inl ⟨rfl, by assumption, rfl⟩
          · cases hd
        · rw [List.getElem?_set_ne hij] at hd
          exact .inr ⟨Ne.symm hij, hd⟩
      have old : ∀ j d, j ∈ W → ρ[j]? = some (some d) → om j ≠ P := fun j d hj hd z => by
        obtain ⟨a2, a3, a4⟩ := o2 j d hj hd
        exact a4.ne (by rw [z]; exact hp)
      refine ⟨fun j => if j = i then P else om j, fun j m d d' hj hm hd hd' hh => ?_, fun j d hj hd => ?_⟩
      · rcases at_ j d hd with ⟨z1, z2, z3⟩ | ⟨z1, z2⟩
        · rcases at_ m d' hd' with ⟨y1, y2, y3⟩ | ⟨y1, y2⟩
          · rw [z1, y1]
          · simp only [if_pos z1, if_neg y1] at hh
            exact absurd hh.symm (old m d' hm y2)
        · rcases at_ m d' hd' with ⟨y1, y2, y3⟩ | ⟨y1, y2⟩
          · simp only [if_neg z1, if_pos y1] at hh
            exact absurd hh (old j d hj z2)
          · simp only [if_neg z1, if_neg y1] at hh
            exact o1 j m d d' hj hm z2 y2 hh
      · rcases at_ j d hd with ⟨rfl, z2, rfl⟩ | ⟨z1, z2⟩
        · simp only [if_true]
          refine ⟨?_, (by first | exact .inr rfl | exact .inr trivial), h2.mv (fun a o e n => ⟨e, fun z => n (z.elim (fun z => .inl (.inl z)) fun z => z.elim .inr fun z => .inl (.inr z))⟩) fun o e => e⟩
          rw [List.getElem?_set_self (by rw [e'.len]; exact z2)]
        · simp only [if_neg z1]
          obtain ⟨a2, a3, a5⟩ := o2 j d hj z2
          exact ⟨by rw [List.getElem?_set_ne (Ne.symm z1)]; exact a2, .inl a3, a5.mv k fun o e => f1.at e fun z => sr.eo.ob _ a3 (sr.mb _ z)⟩
  · rcases z with z | rfl
    · exact eo1.ol a z
    · exact h1
  · rcases z with z | rfl
    · exact sr.eo.ob a z
    · exact nB
  · rcases z with z | rfl
    · exact sr.o0 a z
    · exact sr.fr.free hp
  · obtain ⟨o', q1, q2⟩ := f1 b o e
    exact ⟨o', q1, fun n => q2 fun z => n (.inl z)⟩
  · rcases z with z | rfl
    · exact .inl z
    · exact .inr hp
theorem Sr.own {B O : Bar} {H0 H H' : Hp} {σ : L2.St} {ρ : Rho} {s s' : S} {P : Addr} {vs : List V} {ds : List D} {i : Nat} (sr : Sr G Z W B H0 O H σ ρ s) (hi : i ∈ W) (hp : H P = none) (f1 : Lc.Fr Z.M H H') (h1 : H' P = some (.lst vs))
    (h2 : Reps G (fun a => (B a ∨ a = P) ∨ O a) H' ds vs) (R1 : Z.R H' s') : Sr G Z W B H0 (fun a => O a ∨ a = P) H' (σ.set i (some (.ref P))) (ρ.set i (some (.list ds))) s' ∧ Ch Z O (fun a => O a ∨ a = P) H H' :=
  sr.ownG hi hp f1 (.inl ⟨vs, h1⟩) ⟨vs, h1, h2⟩ R1
def sOwn (i : Nat) (f : Ea S) : Sv S := fun ρ s => bnd (f ρ s) fun ds s => some (.nx (ρ.set i (some (.list ds))), s)
theorem es_own {i : Nat} {pos' : Pos} (hN : X.N.Nodup) (hi : X.N[i]? = some x) (hx : Loc X.env.scope x) (he : PE X e (tNl G Z W fa)) (hw : W.contains i = true := by rfl) (hs : swapsWith e (some (.Name x pos')) pos.line X.env = pure false := by rfl) (hf : X.fn x = true ∨ X.env.scope.names.lookup x = some .local := by first | exact .inl rfl | exact .inr rfl | assumption) :
    PS X (.Assign [.Name x pos'] e pos) (tSt G Z W (sOwn i fa)) :=
  imp_ps (ps_set hN hi hx he hs hf) fun E σ H ⟨B, H0, O, ρ, s, r, s', sr, hf, q⟩ => by
    unfold sOwn at hf
    obtain ⟨d, s1, h1, hf⟩ := bnd_some hf
    cases hf
    refine ⟨B, O, ρ, s, d, _, sr.eo, sr.r, h1, fun p vs H' hp f1 h2 h3 R1 => ?_⟩
    obtain ⟨sr2, ch2⟩ := sr.own (i := i) (by simpa using hw) hp f1 h2 h3 R1
    exact q _ _ H' sr2 ch2
/-- the own thing of slot i becomes another one -/
theorem Sr.mutG {B O : Bar} {H0 H : Hp} {σ : L2.St} {ρ : Rho} {s : S} {i : Nat} {d : D} (sr : Sr G Z W B H0 O H σ ρ s) (hi : i ∈ W) (hd : ρ[i]? = some (some d)) : ∃ P, σ[i]? = some (some (.ref P)) ∧ OwnAt G (fun a => B a ∨ O a) H P d ∧ O P ∧
    ∀ e u, LoD (upd H P u) P → OwnAt G (fun a => B a ∨ O a) (upd H P u) P e → Sr G Z W B H0 O (upd H P u) σ (ρ.set i (some e)) s ∧ Ch Z O O H (upd H P u) := by
  obtain ⟨om, o1, o2⟩ := sr.eo.er.ow
  obtain ⟨a2, a3, a5⟩ := o2 i d hi hd
  refine ⟨om i, a2, a5, a3, fun es us hL hr => ?_⟩
  have k : ∀ a o, H a = some o → ¬ (B a ∨ O a) → upd H (om i) us a = some o ∧ ¬ (B a ∨ O a) := fun a o e n => ⟨by rw [upd_ne fun z => n (.inr (by rw [z]; exact a3))]; exact e, n⟩
  have nM : ∀ a, Z.M a → a ≠ om i := fun a z y => sr.eo.ob _ a3 (sr.mb _ (by rw [← y]; exact z))
  have hl : i < ρ.length := by
    rcases Nat.lt_or_ge i ρ.length with h | h
    · exact h
    · rw [List.getElem?_eq_none h] at hd; cases hd
  refine ⟨⟨⟨⟨by simp [sr.eo.er.len], fun j d' hj hd' => ?_, om, ?_, ?_⟩, fun a z => ?_, fun a z => ?_, sr.mb, sr.eo.ob⟩, ?_, sr.b0, sr.o0, Z.loc H _ s sr.r fun a z => upd_ne (nM a z)⟩, ⟨Lc.Fr.mut (.inr a3), fun _ z => z, fun _ z => .inl z⟩⟩
  · have ne : i ≠ j := fun z => hj (z ▸ hi)
    rw [List.getElem?_set_ne ne] at hd'
    obtain ⟨v, h3, h4⟩ := sr.eo.er.pl j d' hj hd'
    exact ⟨v, h3, h4.mv k⟩
  · intro j m e1 e2 hj hm h1 h2 hh
    have g : ∀ j e, (ρ.set i (some es))[j]? = some (some e) → ∃ e', ρ[j]? = some (some e') := fun j e h => by
      by_cases hij : i = j
      · subst hij; exact ⟨d, hd⟩
      · rw [List.getElem?_set_ne hij] at h; exact ⟨e, h⟩
    obtain ⟨e1', h1⟩ := g j e1 h1
    obtain ⟨e2', h2⟩ := g m e2 h2
    exact o1 j m e1' e2' hj hm h1 h2 hh
  · intro j e hj h
    by_cases hij : i = j
    · subst hij
      rw [List.getElem?_set_self hl] at h
      cases h
      exact ⟨a2, a3, hr⟩
    · rw [List.getElem?_set_ne hij] at h
      obtain ⟨b2, b3, b5⟩ := o2 j e hj h
      have ne : om j ≠ om i := fun z => hij (o1 j i e d hj hi h hd z).symm
      exact ⟨b2, b3, b5.mv k fun o q => by rw [upd_ne ne]; exact q⟩
  · by_cases hq : a = om i
    · subst hq; rw [upd_same]; simp
    · rw [upd_ne hq]; exact sr.eo.bd a z
  · by_cases hq : a = om i
    · subst hq; exact hL
    · exact (sr.eo.ol a z).k fun o q => by rw [upd_ne hq]; exact q
  · exact Lc.Fr.own sr.fr (sr.o0 _ a3)
/-- the own list of slot i becomes another one -/
theorem Sr.mut {B O : Bar} {H0 H : Hp} {σ : L2.St} {ρ : Rho} {s : S} {i : Nat} {d : List D} (sr : Sr G Z W B H0 O H σ ρ s) (hi : i ∈ W) (hd : ρ[i]? = some (some (.list d))) : ∃ P ds vs, PyData.list d = .list ds ∧ σ[i]? = some (some (.ref P)) ∧ H P = some (.lst vs) ∧ Reps G (fun a => B a ∨ O a) H ds vs ∧ O P ∧
    ∀ es us, Reps G (fun a => B a ∨ O a) H es us → Sr G Z W B H0 O (upd H P (.lst us)) σ (ρ.set i (some (.list es))) s ∧ Ch Z O O H (upd H P (.lst us)) := by
  obtain ⟨P, a2, ⟨vs, a4, a5⟩, a3, mu⟩ := sr.mutG hi hd
  refine ⟨P, d, vs, rfl, a2, a4, a5, a3, fun es us hr => mu _ _ (.inl ⟨us, upd_same⟩) ⟨us, upd_same, hr.mv fun a o e n => ⟨?_, n⟩⟩⟩
  rw [upd_ne fun z => n (.inr (by rw [z]; exact a3))]
  exact e
def sApp (i : Nat) (f : Ev S) : Sv S := fun ρ s => match ρ[i]? with
  | some (some (.list ds)) => bnd (f ρ s) fun d s => if ds.length < sizeLine then some (.nx (ρ.set i (some (.list (ds ++ [d])))), s) else none
  | _ => none
/-! ### a def -/
def startR (n : Nat) (ds : List D) : Rho := ds.map some ++ List.replicate (n - ds.length) none
/-- what a def computes: its body over n slots -/
def fnD (n : Nat) (F : Sv S) : Fn S := fun ds s => match F (startR n ds) s with
  | some (.rt d, s') => some (d, s')
  | some (.nx _, s') => some (.none, s')
  | _ => none
theorem eo_start {B : Bar} {H : Hp} {N : List Str} {vs : List V} {ds : List D} {n : Nat} (hn : N.length = n) (bd : ∀ a, B a → H a ≠ none) (mb : ∀ a, Z.M a → B a) (hr : Reps G B H ds vs) (hl : ds.length ≤ n) (hW : ∀ i ∈ W, ds.length ≤ i) : Eo G Z W B (fun _ => False) H (L2.start N vs) (startR n ds) where
  er := by
    have len := hr.len
    refine ⟨by unfold L2.start startR; simp [len, hn], fun i d hi hd => ?_, fun _ => 0, ?_, ?_⟩
    · unfold startR at hd
      by_cases h : i < ds.length
      · rw [List.getElem?_append_left (by simpa using h), List.getElem?_map] at hd
        cases hd' : ds[i]? with
        | none => rw [hd'] at hd; cases hd
        | some d' =>
          rw [hd'] at hd
          cases hd
          obtain ⟨v, h1, h2⟩ := hr.get hd'
          refine ⟨v, ?_, h2.sub fun a z _ => z.elim id False.elim⟩
          unfold L2.start
          rw [List.getElem?_append_left (by simpa [len] using h), List.getElem?_map, h1]
          rfl
      · rw [List.getElem?_append_right (by simpa using h), List.getElem?_replicate] at hd
        split at hd <;> cases hd
    · intro i j d e hi hj hd
      exfalso
      have := hW i hi
      unfold startR at hd
      rw [List.getElem?_append_right (by simpa using this), List.getElem?_replicate] at hd
      split at hd <;> cases hd
    · intro i d hi hd
      exfalso
      have := hW i hi
      unfold startR at hd
      rw [List.getElem?_append_right (by simpa using this), List.getElem?_replicate] at hd
      split at hd <;> cases hd
  bd := bd
  ol := fun _ z => z.elim
  mb := mb
  ob := fun _ z => z.elim
variable {P : Program} {w : World} {K : PySem.W.Frag} {mg : Str → Option Value} {base : Heap}
/-- THE RULE: a def whose body reads as F computes fnD F -/
theorem fn_ok {nm qual : Str} {st : Stmt} {fad : Addr} {fd : FuncData} {N ps : List Str} {k n m : Nat} (U : Fun K nm qual st fad fd) (sc : FnScope N ps (defScope st)) (hn : N.length = n) (hm : ps.length = m) (hmn : m ≤ n) (hW : ∀ i ∈ W, m ≤ i)
    (hb : ∀ (cdv : Value) (A : Around) (outer : List Env) (s : Shared) (H : Hp) (E : XK), Room k (A.deeper (envOfC qual (defScope st) s.heap.objs.size fad cdv)) → PSs (cxOf CX0 P w K mg base N qual (defScope st) fad cdv A outer s H E).nox (defBody st) (tSt G Z W F)) :
    FnOk P w K mg base CX0 (k + 1) fad fd ps (spD G Z m (fnD n F)) := by
  refine U.ok sc (fun vs H Q E h => ?_) (fun cdv A outer s H vs Q E hr h => ⟨_, hb cdv A outer s H E hr, ?_⟩)
  · obtain ⟨B, ds, s, d, s', h1, _, _, h2, _⟩ := h
    rw [h2.len, h1, hm]
  · obtain ⟨B, ds, s0, d, s', h1, bd, mb, h2, R0, hF, q⟩ := h
    have eo := eo_start (W := W) (Z := Z) (N := N) hn bd mb h2 (by omega) (by rw [h1]; exact hW)
    unfold fnD at hF
    have sr : Sr G Z W B H (fun _ => False) H (L2.start N vs) (startR n ds) s0 := ⟨eo, Lc.Fr.refl H, bd, fun _ z => z.elim, R0⟩
    split at hF
    · rename_i d' s1 e1
      cases hF
      exact ⟨B, H, fun _ => False, startR n ds, s0, .rt d, _, sr, e1, q⟩
    · rename_i ρ' s1 e1
      cases hF
      exact ⟨B, H, fun _ => False, startR n ds, s0, .nx ρ', _, sr, e1, fun O' σ' H' sr' _ => q .non H' sr'.fr (by simp only [Rep]) sr'.r⟩
    · cases hF
end
end Dl
set_option Elab.async false
set_option linter.all false
set_option maxRecDepth 100000
set_option maxHeartbeats 4000000
namespace Lc
open PySem PySem.Spec PyProof.Rows L2
/-! ### x == [], x != [], t == (), t != (), whatever the items are -/
section
variable {X : Cx}
theorem size_ne {xs : List V} {its : List Value} (r : Vals xs its) (h : xs ≠ []) : (its.toArray.size != (#[] : Array Value).size) = true := by
  have e := r.length
  have : xs.length ≠ 0 := fun z => h (List.length_eq_zero_iff.mp z)
  simp
  intro z
  rw [z] at e
  simp at e
  exact h e
def rEqNil (K : PySem.W.Frag) (neg : Bool) : R2 := fun x y H Q => ∃ a b xs, x = .ref a ∧ y = .ref b ∧ SqL K H a xs ∧ SqL K H b [] ∧ Q (.bl (xs.isEmpty != neg)) H
def rEqNilT (K : PySem.W.Frag) (neg : Bool) : R2 := fun x y H Q => ∃ a b xs, x = .ref a ∧ y = .ref b ∧ SqT K H a xs ∧ SqT K H b [] ∧ Q (.bl (xs.isEmpty != neg)) H
theorem op_eqNil (hu : X.A.units < cLine) : OpR X (compareOp .Eq) (rEqNil X.K false) := by
  intro pins s σ H x y v u Q I rx ry h
  obtain ⟨a, b, xs, rfl, rfl, ha, hb, q⟩ := h
  cases rx
  cases ry
  obtain ⟨its, r1, p1, _⟩ := I.list ha
  obtain ⟨its2, r2, p2, _⟩ := I.list hb
  cases r2
  by_cases hx : xs = []
  · subst hx
    cases r1
    exact SeqAt.eq_listAt (e := fun _ => true) p1.isList p2.isList rfl hu (fun j h1 _ => absurd h1 (by simp)) ⟨.bl true, H, I, rfl, q⟩
  · refine SeqAt.eq_list_lengthsAt p1.isList p2.isList (size_ne r1 hx) hu ⟨.bl false, H, I, rfl, ?_⟩
    cases xs with
    | nil => exact absurd rfl hx
    | cons _ _ => exact q
theorem op_neNil (hu : X.A.units < cLine) : OpR X (compareOp .NotEq) (rEqNil X.K true) := by
  intro pins s σ H x y v u Q I rx ry h
  obtain ⟨a, b, xs, rfl, rfl, ha, hb, q⟩ := h
  cases rx
  cases ry
  obtain ⟨its, r1, p1, _⟩ := I.list ha
  obtain ⟨its2, r2, p2, _⟩ := I.list hb
  cases r2
  by_cases hx : xs = []
  · subst hx
    cases r1
    exact SeqAt.RcNeAt.lists (e := fun _ => true) p1.isList p2.isList rfl hu (fun j h1 _ => absurd h1 (by simp)) _ _ _ _ ⟨.bl false, H, I, rfl, q⟩
  · refine SeqAt.RcNeAt.lists_lengths p1.isList p2.isList (size_ne r1 hx) hu _ _ _ _ ⟨.bl true, H, I, rfl, ?_⟩
    cases xs with
    | nil => exact absurd rfl hx
    | cons _ _ => exact q
theorem tup_empty {xs : List V} {its : List Value} (r : Vals xs its) : ((List.range (min its.toArray.size (#[] : Array Value).size)).all (fun _ => true) && its.toArray.size == (#[] : Array Value).size) = xs.isEmpty := by
  have e := r.length
  cases xs with
  | nil =>
    cases r
    rfl
  | cons a l =>
    cases r
    simp
theorem op_eqNilT (hu : X.A.units < cLine) : OpR X (compareOp .Eq) (rEqNilT X.K false) := by
  intro pins s σ H x y v u Q I rx ry h
  obtain ⟨a, b, xs, rfl, rfl, ha, hb, q⟩ := h
  cases rx
  cases ry
  obtain ⟨its, r1, p1, _⟩ := I.tuple ha
  obtain ⟨its2, r2, p2, _⟩ := I.tuple hb
  cases r2
  refine SeqAt.eq_tupleAt (e := fun _ => true) p1 p2 hu (fun j _ h2 => absurd h2 (by simp)) ?_
  rw [tup_empty r1]
  refine ⟨.bl xs.isEmpty, H, I, rfl, ?_⟩
  cases xs <;> exact q
theorem op_neNilT (hu : X.A.units < cLine) : OpR X (compareOp .NotEq) (rEqNilT X.K true) := by
  intro pins s σ H x y v u Q I rx ry h
  obtain ⟨a, b, xs, rfl, rfl, ha, hb, q⟩ := h
  cases rx
  cases ry
  obtain ⟨its, r1, p1, _⟩ := I.tuple ha
  obtain ⟨its2, r2, p2, _⟩ := I.tuple hb
  cases r2
  refine SeqAt.RcNeAt.tuples (e := fun _ => true) p1 p2 hu (fun j _ h2 => absurd h2 (by simp)) _ _ _ _ ?_
  rw [tup_empty r1]
  refine ⟨.bl (!xs.isEmpty), H, I, rfl, ?_⟩
  cases xs <;> exact q
end
end Lc
set_option Elab.async false
set_option linter.all false
set_option maxRecDepth 100000
set_option maxHeartbeats 4000000
namespace Dl
open PySem PySem.Spec PyProof.Rows L2
/-! ### operators on data -/
def orR (r1 r2 : R2) : R2 := fun x y H Q => r1 x y H Q ∨ r2 x y H Q
theorem or_op {X : Cx} {f : Value → Value → Sem Value} {r1 r2 : R2} (h1 : OpR X f r1) (h2 : OpR X f r2) : OpR X f (orR r1 r2) := fun pins s σ H x y v u Q I rx ry h => h.elim (h1 pins s σ H x y v u Q I rx ry) (h2 pins s σ H x y v u Q I rx ry)
def orC (r1 r2 : List V → Hp → VK → Prop) : List V → Hp → VK → Prop := fun x H Q => r1 x H Q ∨ r2 x H Q
theorem or_ca {X : Cx} {f : Value} {r1 r2 : List V → Hp → VK → Prop} (h1 : CallR X f r1) (h2 : CallR X f r2) : CallR X f (orC r1 r2) := fun pins s σ H x v Q I rx h => h.elim (h1 pins s σ H x v Q I rx) (h2 pins s σ H x v Q I rx)
def pAdd : D → D → Option D
  | .int i, .int j => some (.int (i + j))
  | .str a, .str b => if a.length + b.length ≤ sizeLine then some (.str (a ++ b)) else none
  | .list a, .list b => if a.length + b.length ≤ sizeLine then some (.list (a ++ b)) else none
  | .tuple a, .tuple b => if a.length + b.length ≤ sizeLine then some (.tuple (a ++ b)) else none
  | _, _ => none
abbrev rAddD (K : PySem.W.Frag) : R2 := orR (rI0 fun i j => .int (i + j)) (orR (fun x y H Q => ∃ i j, x = .str i ∧ y = .str j ∧ i.length + j.length ≤ sizeLine ∧ Q (.str (i ++ j)) H) (orR rCat (rCatF K)))
theorem od_add {X : Cx} : OpR X (binaryOp .Add) (rAddD X.K) := or_op op_add (or_op op_add_str (or_op op_cat op_catF))
theorem nb_of {B : Bar} {H : Hp} {p : Addr} (bd : ∀ a, B a → H a ≠ none) (hp : H p = none) : ¬ B p := fun z => bd p z hp
section
variable {G : Kx} {B : Bar} {H : Hp}
/-- a new list, a new tuple -/
theorem rep_lst {p : Addr} {vs : List V} {ds : List D} (bd : ∀ a, B a → H a ≠ none) (hp : H p = none) (h : Reps G B H ds vs) : Rep G B (upd H p (.lst vs)) (.list ds) (.ref p) := by
  simp only [Rep]
  exact ⟨p, vs, rfl, upd_same, nb_of bd hp, h.same (Lc.same_new hp)⟩
theorem rep_tup {p : Addr} {o : Obj} {vs : List V} {ds : List D} (bd : ∀ a, B a → H a ≠ none) (hp : H p = none) (ho : o.dict = none) (h : Reps G B H ds vs) : Rep G B (upd H p (.frz o (.tup vs))) (.tuple ds) (.ref p) := by
  simp only [Rep]
  exact ⟨p, vs, rfl, .inl ⟨.inr ⟨o, upd_same, ho⟩, nb_of bd hp⟩, h.same (Lc.same_new hp)⟩
theorem reps_nil_iff {vs : List V} (h : Reps G B H [] vs) : vs = [] := by simpa only [Reps] using h
theorem reps_ne {ds : List D} {vs : List V} (h : Reps G B H ds vs) : (vs = [] ↔ ds = []) := by
  have := h.len
  cases ds <;> cases vs <;> simp_all
end
theorem os_add {G : Kx} : OpS G (rAddD G.K) pAdd := by
  intro B H x y dx dy d Q bd hx hy hp q
  unfold pAdd at hp
  split at hp
  · cases hp
    simp only [Rep] at hx hy
    subst hx hy
    exact .inl ⟨_, _, rfl, rfl, q _ H (Same.refl H) (by simp only [Rep])⟩
  · split at hp
    · cases hp
      simp only [Rep] at hx hy
      subst hx hy
      exact .inr (.inl ⟨_, _, rfl, rfl, by assumption, q _ H (Same.refl H) (by simp only [Rep])⟩)
    · cases hp
  · split at hp
    · cases hp
      obtain ⟨a, us, rfl, h1, _, h2⟩ := hx.sqL
      obtain ⟨b, vs, rfl, h3, _, h4⟩ := hy.sqL
      exact .inr (.inr (.inl ⟨a, b, us, vs, rfl, rfl, h1, h3, by rw [h2.len, h4.len]; assumption, fun p hp => q _ _ (Lc.same_new hp) (rep_lst bd hp (h2.append h4))⟩))
    · cases hp
  · split at hp
    · cases hp
      rename_i as bs hsz
      obtain ⟨a, us, rfl, h1, h2⟩ := hx.sqT
      obtain ⟨b, vs, rfl, h3, h4⟩ := hy.sqT
      refine .inr (.inr (.inr ⟨a, b, us, vs, rfl, rfl, h1, h3, by rw [h2.len, h4.len]; assumption, fun e => ?_, fun _ e => ?_, fun _ _ p o hp ho => q _ _ (Lc.same_new hp) (rep_tup bd hp ho (h2.append h4))⟩))
      · have : as = [] := (reps_ne h2).mp e
        subst this
        exact q _ H (Same.refl H) hy
      · have : bs = [] := (reps_ne h4).mp e
        subst this
        rw [List.append_nil] at q
        exact q _ H (Same.refl H) hx
    · cases hp
  · cases hp
/-- two dInts in -/
def pI (C : Int → Int → Bool) (g : Int → Int → D) : D → D → Option D
  | .int i, .int j => if C i j = true then some (g i j) else none
  | _, _ => none
theorem os_I {G : Kx} {C : Int → Int → Prop} {c : Int → Int → Bool} {g : Int → Int → V} {g' : Int → Int → D} (hc : ∀ i j, c i j = true → C i j) (hg : ∀ B H i j, Rep G B H (g' i j) (g i j)) : OpS G (rI C g) (pI c g') := by
  intro B H x y dx dy d Q bd hx hy hp q
  unfold pI at hp
  split at hp
  · split at hp
    · cases hp
      simp only [Rep] at hx hy
      subst hx hy
      exact ⟨_, _, rfl, rfl, hc _ _ (by assumption), q _ H (Same.refl H) (hg B H _ _)⟩
    · cases hp
  · cases hp
def pI0 (g : Int → Int → D) : D → D → Option D
  | .int i, .int j => some (g i j)
  | _, _ => none
theorem os_I0 {G : Kx} {g : Int → Int → V} {g' : Int → Int → D} (hg : ∀ B H i j, Rep G B H (g' i j) (g i j)) : OpS G (rI0 g) (pI0 g') := by
  intro B H x y dx dy d Q bd hx hy hp q
  unfold pI0 at hp
  split at hp
  · cases hp
    simp only [Rep] at hx hy
    subst hx hy
    exact ⟨_, _, rfl, rfl, q _ H (Same.refl H) (hg B H _ _)⟩
  · cases hp
def pSub : D → D → Option D := pI0 fun i j => .int (i - j)
theorem os_sub {G : Kx} : OpS G (rI0 fun i j => .int (i - j)) pSub := os_I0 fun B H i j => by simp only [Rep]
def pMul : D → D → Option D := pI (fun i j => decide (i.natAbs.log2 + j.natAbs.log2 < 1000000)) fun i j => .int (i * j)
theorem os_mul {G : Kx} : OpS G (rI CMulW fun i j => .int (i * j)) pMul := os_I (fun i j h => show i.natAbs.log2 + j.natAbs.log2 < 1000000 from of_decide_eq_true h) fun B H i j => by simp only [Rep]
def pMod : D → D → Option D := pI (fun _ j => decide (0 < j)) fun i j => .int (i % j)
def pPow : D → D → Option D := pI (fun i j => decide (0 ≤ j ∧ j ≤ 1000000 ∧ i.natAbs < 2 ^ 64)) fun i j => .int (i ^ j.toNat)
theorem os_pow {G : Kx} : OpS G (rI CPow fun i j => .int (i ^ j.toNat)) pPow := os_I (fun i j h => show 0 ≤ j ∧ j ≤ 1000000 ∧ i.natAbs < 2 ^ 64 from of_decide_eq_true h) fun B H i j => by simp only [Rep]
/-! ### comparisons -/
def pEq : D → D → Option D
  | .int i, .int j => some (.bool (decide (i = j)))
  | .str i, .str j => some (.bool (decide (i = j)))
  | .bool i, .bool j => some (.bool (decide (i = j)))
  | .list a, .list [] => some (.bool a.isEmpty)
  | .tuple a, .tuple [] => some (.bool a.isEmpty)
  | x, y => if SeqAt.shaped x = true ∧ SeqAt.shaped y = true then some (.bool (PyData.eqv x y)) else none
def pNe (x y : D) : Option D := match pEq x y with
  | some (.bool b) => some (.bool (!b))
  | _ => none
abbrev rEqA (K : PySem.W.Frag) : R2 := orR rEq (orR (Lc.rEqNil K false) (orR (Lc.rEqNilT K false) (rEqD K)))
abbrev rNeA (K : PySem.W.Frag) : R2 := orR rNe (orR (Lc.rEqNil K true) (orR (Lc.rEqNilT K true) (rNeD K)))
theorem od_eq {X : Cx} (hu : X.A.units + 64 < cLine) : OpR X (compareOp .Eq) (rEqA X.K) := or_op op_eq (or_op (Lc.op_eqNil (by omega)) (or_op (Lc.op_eqNilT (by omega)) (op_eqD hu)))
theorem od_ne {X : Cx} (hu : X.A.units + 64 < cLine) : OpR X (compareOp .NotEq) (rNeA X.K) := or_op op_ne (or_op (Lc.op_neNil (by omega)) (or_op (Lc.op_neNilT (by omega)) (op_neD hu)))
theorem isEmpty_reps {G : Kx} {B : Bar} {H : Hp} {ds : List D} {vs : List V} (h : Reps G B H ds vs) : vs.isEmpty = ds.isEmpty := by
  have := h.len
  cases ds <;> cases vs <;> simp_all
theorem eq_core {G : Kx} {B : Bar} {H : Hp} {x y : V} {dx dy : D} {b : Bool} (hx : Rep G B H dx x) (hy : Rep G B H dy y) (hp : pEq dx dy = some (.bool b)) :
    (scal x y = true ∧ decide (x = y) = b) ∨ (∃ p q xs, x = .ref p ∧ y = .ref q ∧ SqL G.K H p xs ∧ SqL G.K H q [] ∧ xs.isEmpty = b) ∨ (∃ p q xs, x = .ref p ∧ y = .ref q ∧ SqT G.K H p xs ∧ SqT G.K H q [] ∧ xs.isEmpty = b) ∨
      (∃ d e, Dp G.K H x d ∧ Dp G.K H y e ∧ SeqAt.shaped d = true ∧ SeqAt.shaped e = true ∧ PyData.eqv d e = b) := by
  unfold pEq at hp
  split at hp
  · cases hp
    simp only [Rep] at hx hy
    subst hx hy
    exact .inl ⟨rfl, by simp only [V.int.injEq]⟩
  · cases hp
    simp only [Rep] at hx hy
    subst hx hy
    exact .inl ⟨rfl, by simp only [V.str.injEq]⟩
  · cases hp
    simp only [Rep] at hx hy
    subst hx hy
    exact .inl ⟨rfl, by simp only [V.bl.injEq]⟩
  · cases hp
    obtain ⟨p, xs, rfl, _, h1, h2⟩ := hx.sqL
    obtain ⟨q, ys, rfl, _, h3, h4⟩ := hy.sqL
    rw [reps_nil_iff h4] at h3
    exact .inr (.inl ⟨p, q, xs, rfl, rfl, h1, h3, isEmpty_reps h2⟩)
  · cases hp
    obtain ⟨p, xs, rfl, h1, h2⟩ := hx.sqT
    obtain ⟨q, ys, rfl, h3, h4⟩ := hy.sqT
    rw [reps_nil_iff h4] at h3
    exact .inr (.inr (.inl ⟨p, q, xs, rfl, rfl, h1, h3, isEmpty_reps h2⟩))
  · split at hp
    · rename_i h
      cases hp
      exact .inr (.inr (.inr ⟨_, _, hx.dp _ _ (SeqAt.canLay_of_shaped h.1), hy.dp _ _ (SeqAt.canLay_of_shaped h.2), h.1, h.2, rfl⟩))
    · cases hp
theorem pEq_bool {x y z : D} (h : pEq x y = some z) : ∃ k, z = .bool k := by
  unfold pEq at h
  split at h
  · cases h; exact ⟨_, rfl⟩
  · cases h; exact ⟨_, rfl⟩
  · cases h; exact ⟨_, rfl⟩
  · cases h; exact ⟨_, rfl⟩
  · cases h; exact ⟨_, rfl⟩
  · split at h
    · cases h; exact ⟨_, rfl⟩
    · cases h
theorem pNe_bool {x y z : D} (h : pNe x y = some z) : ∃ k, z = .bool k := by
  unfold pNe at h
  split at h
  · cases h; exact ⟨_, rfl⟩
  · cases h
theorem os_eq {G : Kx} : OpS G (rEqA G.K) pEq := by
  intro B H x y dx dy d Q bd hx hy hp q
  obtain ⟨b, rfl⟩ := pEq_bool hp
  have q := q (.bl b) H (Same.refl H) (by simp only [Rep])
  rcases eq_core hx hy hp with ⟨h1, rfl⟩ | ⟨p, r, xs, h1, h2, h3, h4, rfl⟩ | ⟨p, r, xs, h1, h2, h3, h4, rfl⟩ | ⟨d, e, h1, h2, h3, h4, rfl⟩
  · exact .inl ⟨h1, q⟩
  · exact .inr (.inl ⟨p, r, xs, h1, h2, h3, h4, by simpa using q⟩)
  · exact .inr (.inr (.inl ⟨p, r, xs, h1, h2, h3, h4, by simpa using q⟩))
  · exact .inr (.inr (.inr ⟨d, e, h1, h2, h3, h4, q⟩))
theorem os_ne {G : Kx} : OpS G (rNeA G.K) pNe := by
  intro B H x y dx dy d Q bd hx hy hp q
  unfold pNe at hp
  split at hp
  · rename_i b hb
    cases hp
    have q := q (.bl (!b)) H (Same.refl H) (by simp only [Rep])
    rcases eq_core hx hy hb with ⟨h1, rfl⟩ | ⟨p, r, xs, h1, h2, h3, h4, rfl⟩ | ⟨p, r, xs, h1, h2, h3, h4, rfl⟩ | ⟨d, e, h1, h2, h3, h4, rfl⟩
    · exact .inl ⟨h1, q⟩
    · exact .inr (.inl ⟨p, r, xs, h1, h2, h3, h4, by simpa using q⟩)
    · exact .inr (.inr (.inl ⟨p, r, xs, h1, h2, h3, h4, by simpa using q⟩))
    · exact .inr (.inr (.inr ⟨d, e, h1, h2, h3, h4, q⟩))
  · cases hp
def dInts : List D → Option (List Int)
  | [] => some []
  | .int i :: ds => (dInts ds).map (i :: ·)
  | _ => none
theorem ints_some : ∀ {ds : List D} {ns : List Int}, dInts ds = some ns → ds = ns.map .int
  | [], ns, h => by simp [dInts] at h; subst h; rfl
  | .int i :: ds, ns, h => by
    simp only [dInts, Option.map_eq_some_iff] at h
    obtain ⟨ms, h1, rfl⟩ := h
    rw [ints_some h1]
    rfl
  | .none :: _, _, h => by simp [dInts] at h
  | .bool _ :: _, _, h => by simp [dInts] at h
  | .str _ :: _, _, h => by simp [dInts] at h
  | .list _ :: _, _, h => by simp [dInts] at h
  | .tuple _ :: _, _, h => by simp [dInts] at h
  | .dict _ :: _, _, h => by simp [dInts] at h
def dStrs : List D → Option (List Str)
  | [] => some []
  | .str i :: ds => (dStrs ds).map (i :: ·)
  | _ => none
theorem strs_some : ∀ {ds : List D} {ns : List Str}, dStrs ds = some ns → ds = ns.map .str
  | [], ns, h => by simp [dStrs] at h; subst h; rfl
  | .str i :: ds, ns, h => by
    simp only [dStrs, Option.map_eq_some_iff] at h
    obtain ⟨ms, h1, rfl⟩ := h
    rw [strs_some h1]
    rfl
  | .none :: _, _, h => by simp [dStrs] at h
  | .bool _ :: _, _, h => by simp [dStrs] at h
  | .int _ :: _, _, h => by simp [dStrs] at h
  | .list _ :: _, _, h => by simp [dStrs] at h
  | .tuple _ :: _, _, h => by simp [dStrs] at h
  | .dict _ :: _, _, h => by simp [dStrs] at h
@[simp] theorem ints_map (ns : List Int) : dInts (ns.map .int) = some ns := by
  induction ns with
  | nil => rfl
  | cons n ns ih => simp [dInts, ih]
@[simp] theorem strs_map (ns : List Str) : dStrs (ns.map .str) = some ns := by
  induction ns with
  | nil => rfl
  | cons n ns ih => simp [dStrs, ih]
def pLt : D → D → Option D
  | .int i, .int j => some (.bool (decide (i < j)))
  | .str i, .str j => some (.bool (decide (i.cps.toList < j.cps.toList)))
  | .tuple a, .tuple b => match dInts a, dInts b with
    | some ns, some ms => some (.bool (HT.lexLt ns ms))
    | _, _ => none
  | _, _ => none
abbrev rLtA (K : PySem.W.Frag) : R2 := orR (rI0 fun i j => .bl (decide (i < j))) (orR (fun x y H Q => ∃ i j, x = .str i ∧ y = .str j ∧ Q (.bl (decide (i.cps.toList < j.cps.toList))) H) (rLtT K))
theorem od_lt {X : Cx} (hu : X.A.units + 64 < cLine) : OpR X (compareOp .Lt) (rLtA X.K) := or_op op_lt (or_op op_lt_str (op_ltT (by omega)))
theorem pLt_bool {x y z : D} (h : pLt x y = some z) : ∃ k, z = .bool k := by
  unfold pLt at h
  split at h
  · cases h; exact ⟨_, rfl⟩
  · cases h; exact ⟨_, rfl⟩
  · split at h
    · cases h; exact ⟨_, rfl⟩
    · cases h
  · cases h
theorem os_lt {G : Kx} : OpS G (rLtA G.K) pLt := by
  intro B H x y dx dy d Q bd hx hy hp q
  unfold pLt at hp
  split at hp
  · cases hp
    simp only [Rep] at hx hy
    subst hx hy
    exact .inl ⟨_, _, rfl, rfl, q _ H (Same.refl H) (by simp only [Rep])⟩
  · cases hp
    simp only [Rep] at hx hy
    subst hx hy
    exact .inr (.inl ⟨_, _, rfl, rfl, q _ H (Same.refl H) (by simp only [Rep])⟩)
  · split at hp
    · rename_i ns ms h1 h2
      cases hp
      obtain ⟨a, us, rfl, h3, h4⟩ := hx.sqT
      obtain ⟨b, vs, rfl, h5, h6⟩ := hy.sqT
      rw [ints_some h1] at h4
      rw [ints_some h2] at h6
      rw [h4.ints] at h3
      rw [h6.ints] at h5
      exact .inr (.inr ⟨a, b, ns, ms, rfl, rfl, h3, h5, q _ H (Same.refl H) (by simp only [Rep])⟩)
    · cases hp
  · cases hp
def pIB (g : Int → Int → Bool) : D → D → Option D
  | .int i, .int j => some (.bool (g i j))
  | _, _ => none
theorem pIB_bool {g : Int → Int → Bool} {x y z : D} (h : pIB g x y = some z) : ∃ k, z = .bool k := by
  unfold pIB at h
  split at h
  · cases h; exact ⟨_, rfl⟩
  · cases h
theorem os_IB {G : Kx} {g : Int → Int → Bool} : OpS G (rI0 fun i j => .bl (g i j)) (pIB g) := by
  intro B H x y dx dy d Q bd hx hy hp q
  unfold pIB at hp
  split at hp
  · cases hp
    simp only [Rep] at hx hy
    subst hx hy
    exact ⟨_, _, rfl, rfl, q _ H (Same.refl H) (by simp only [Rep])⟩
  · cases hp
def pLe : D → D → Option D := pIB fun i j => decide (i ≤ j)
def pGt : D → D → Option D := pIB fun i j => decide (j < i)
def pGe : D → D → Option D := pIB fun i j => decide (j ≤ i)
theorem os_gt {G : Kx} : OpS G (rI0 fun i j => .bl (decide (j < i))) pGt := os_IB
theorem os_ge {G : Kx} : OpS G (rI0 fun i j => .bl (decide (j ≤ i))) pGe := os_IB
/-- x is None -/
def nonD : D → Bool
  | .none => true
  | _ => false
def pIs (x y : D) : Option D := match y with
  | .none => some (.bool (nonD x))
  | _ => none
def pIsNot (x y : D) : Option D := match y with
  | .none => some (.bool (!nonD x))
  | _ => none
end Dl
set_option Elab.async false
set_option linter.all false
set_option maxRecDepth 100000
set_option maxHeartbeats 4000000
namespace Dl
open PySem PySem.Spec PyProof.Rows L2
/-! ### in -/
def scalD : D → Bool
  | .none => true
  | .bool _ => true
  | .int _ => true
  | .str _ => true
  | _ => false
/-- == of plain things -/
def eqS : D → D → Bool
  | .none, .none => true
  | .bool a, .bool b => a == b
  | .bool a, .int b => (if a then 1 else 0) == b
  | .int a, .bool b => a == (if b then 1 else 0)
  | .int a, .int b => a == b
  | .str a, .str b => a == b
  | _, _ => false
theorem flat_of {G : Kx} {B : Bar} {H : Hp} {d : D} {v : V} (h : Rep G B H d v) (hs : scalD d = true) : flatV v = true := by
  cases d <;> simp only [Rep] at h <;> first
    | (subst h; rfl)
    | (simp [scalD] at hs)
theorem eqS_of {G : Kx} {B : Bar} {H : Hp} {d e : D} {v u : V} (h : Rep G B H d v) (g : Rep G B H e u) (hs : scalD d = true) (hs' : scalD e = true) : eqV v u = eqS d e := by
  cases d <;> simp only [Rep] at h <;> first
    | (subst h
       cases e <;> simp only [Rep] at g <;> first
         | (subst g; rfl)
         | (simp [scalD] at hs'))
    | (simp [scalD] at hs)
theorem any_of {G : Kx} {B : Bar} {H : Hp} {d : D} {v : V} (h : Rep G B H d v) (hs : scalD d = true) : ∀ {ds : List D} {vs : List V}, Reps G B H ds vs → ds.all scalD = true → vs.all flatV = true ∧ inV v vs = ds.any fun e => eqS e d
  | [], vs, hr, ha => by
    simp only [Reps] at hr
    subst hr
    exact ⟨rfl, rfl⟩
  | e :: ds, vs, hr, ha => by
    simp only [Reps] at hr
    obtain ⟨u, r, rfl, h1, h2⟩ := hr
    rw [List.all_cons, Bool.and_eq_true] at ha
    obtain ⟨g1, g2⟩ := any_of h hs h2 ha.2
    refine ⟨by rw [List.all_cons, flat_of h1 ha.1, g1]; rfl, ?_⟩
    unfold inV at g2 ⊢
    rw [List.any_cons, List.any_cons, g2, eqS_of h1 h ha.1 hs]
def sign1 (x : Str) : Option Nat := match x.cps.toList with
  | [c] => some c
  | _ => none
theorem sign1_some {x : Str} {c : Nat} (h : sign1 x = some c) : x = ⟨#[c]⟩ := by
  unfold sign1 at h
  split at h
  · rename_i c' e
    cases h
    obtain ⟨a⟩ := x
    have : a = #[c] := by
      apply Array.toList_inj.mp
      exact e
    rw [this]
  · cases h
def memD (x : D) (ds : List D) : Option Bool :=
  if scalD x = true ∧ ds.all scalD = true then some (ds.any fun e => eqS e x) else none
def deepIn (x : D) (ds : List D) : Option Bool :=
  if SeqAt.shaped x = true ∧ SeqAt.shaped (.list ds) = true then some (ds.any fun z => PyData.eqv z x) else none
def inD (x y : D) : Option Bool := match y with
  | .str z => match x with
    | .str c => (sign1 c).map fun c => decide (c ∈ z.cps.toList)
    | _ => none
  | .tuple ds => memD x ds
  | .list ds => match memD x ds with
    | some b => some b
    | none => deepIn x ds
  | _ => none
def pIn (x y : D) : Option D := (inD x y).map .bool
def pNotIn (x y : D) : Option D := (inD x y).map fun b => .bool (!b)
abbrev rInA (K : PySem.W.Frag) : R2 := orR (rIn K false) (orR (fun x y H Q => ∃ (c : Nat) (z : Str), x = .str ⟨#[c]⟩ ∧ y = .str z ∧ Q (.bl (decide (c ∈ z.cps.toList))) H) (rInD K))
abbrev rNotInA (K : PySem.W.Frag) : R2 := orR (rIn K true) (orR (fun x y H Q => ∃ (c : Nat) (z : Str), x = .str ⟨#[c]⟩ ∧ y = .str z ∧ Q (.bl (!decide (c ∈ z.cps.toList))) H) (rNotInD K))
theorem od_in {X : Cx} (hu : X.A.units + 65 < cLine) : OpR X (compareOp .In) (rInA X.K) := or_op op_in_seq (or_op op_in_sign (op_inD hu))
theorem od_notIn {X : Cx} (hu : X.A.units + 65 < cLine) : OpR X (compareOp .NotIn) (rNotInA X.K) := or_op op_notIn_seq (or_op op_notIn_sign (op_notInD hu))
theorem pIn_bool {x y z : D} (h : pIn x y = some z) : ∃ k, z = .bool k := by
  unfold pIn at h
  rw [Option.map_eq_some_iff] at h
  obtain ⟨k, _, rfl⟩ := h
  exact ⟨k, rfl⟩
theorem pNotIn_bool {x y z : D} (h : pNotIn x y = some z) : ∃ k, z = .bool k := by
  unfold pNotIn at h
  rw [Option.map_eq_some_iff] at h
  obtain ⟨k, _, rfl⟩ := h
  exact ⟨!k, rfl⟩
theorem in_core {G : Kx} {B : Bar} {H : Hp} {x y : V} {dx dy : D} {b : Bool} (hx : Rep G B H dx x) (hy : Rep G B H dy y) (hp : inD dx dy = some b) :
    (∃ p xs, y = .ref p ∧ (SqL G.K H p xs ∨ SqT G.K H p xs) ∧ flatV x = true ∧ xs.all flatV = true ∧ inV x xs = b) ∨ (∃ (c : Nat) (z : Str), x = .str ⟨#[c]⟩ ∧ y = .str z ∧ decide (c ∈ z.cps.toList) = b) ∨
      (∃ d ds, Dp G.K H x d ∧ Dp G.K H y (.list ds) ∧ SeqAt.shaped d = true ∧ SeqAt.shaped (.list ds) = true ∧ (ds.any fun z => PyData.eqv z d) = b) := by
  unfold inD at hp
  split at hp
  · split at hp
    · rw [Option.map_eq_some_iff] at hp
      obtain ⟨c, hc, rfl⟩ := hp
      simp only [Rep] at hx hy
      subst hx hy
      exact .inr (.inl ⟨c, _, by rw [sign1_some hc], rfl, rfl⟩)
    · cases hp
  · obtain ⟨a, vs, rfl, h1, h2⟩ := hy.sqT
    unfold memD at hp
    split at hp
    · rename_i hc
      cases hp
      obtain ⟨g1, g2⟩ := any_of hx hc.1 h2 hc.2
      exact .inl ⟨a, vs, rfl, .inr h1, flat_of hx hc.1, g1, g2⟩
    · cases hp
  · rename_i ds
    split at hp
    · rename_i b' hm
      cases hp
      obtain ⟨a, vs, rfl, _, h1, h2⟩ := hy.sqL
      unfold memD at hm
      split at hm
      · rename_i hc
        cases hm
        obtain ⟨g1, g2⟩ := any_of hx hc.1 h2 hc.2
        exact .inl ⟨a, vs, rfl, .inl h1, flat_of hx hc.1, g1, g2⟩
      · cases hm
    · unfold deepIn at hp
      split at hp
      · rename_i hc
        cases hp
        exact .inr (.inr ⟨dx, ds, hx.dp _ _ (SeqAt.canLay_of_shaped hc.1), hy.dp _ _ (SeqAt.canLay_of_shaped hc.2), hc.1, hc.2, rfl⟩)
      · cases hp
  · cases hp
theorem os_in {G : Kx} : OpS G (rInA G.K) pIn := by
  intro B H x y dx dy d Q bd hx hy hp q
  unfold pIn at hp
  rw [Option.map_eq_some_iff] at hp
  obtain ⟨b, hb, rfl⟩ := hp
  have q := q (.bl b) H (Same.refl H) (by simp only [Rep])
  rcases in_core hx hy hb with ⟨p, xs, h1, h2, h3, h4, rfl⟩ | ⟨c, z, h1, h2, rfl⟩ | ⟨d, ds, h1, h2, h3, h4, rfl⟩
  · exact .inl ⟨p, xs, h1, h2, h3, h4, q⟩
  · exact .inr (.inl ⟨c, z, h1, h2, q⟩)
  · exact .inr (.inr ⟨d, ds, h1, h2, h3, h4, q⟩)
theorem os_notIn {G : Kx} : OpS G (rNotInA G.K) pNotIn := by
  intro B H x y dx dy d Q bd hx hy hp q
  unfold pNotIn at hp
  rw [Option.map_eq_some_iff] at hp
  obtain ⟨b, hb, rfl⟩ := hp
  have q := q (.bl (!b)) H (Same.refl H) (by simp only [Rep])
  rcases in_core hx hy hb with ⟨p, xs, h1, h2, h3, h4, rfl⟩ | ⟨c, z, h1, h2, rfl⟩ | ⟨d, ds, h1, h2, h3, h4, rfl⟩
  · exact .inl ⟨p, xs, h1, h2, h3, h4, q⟩
  · exact .inr (.inl ⟨c, z, h1, h2, q⟩)
  · exact .inr (.inr ⟨d, ds, h1, h2, h3, h4, q⟩)
/-! ### subscripts, slices -/
def pIx : D → D → Option D
  | .list ds, .int i => atI ds i
  | .tuple ds, .int i => atI ds i
  | .str z, .int i => if z.length ≤ sizeLine then (atI z.cps.toList i).map fun c => .str ⟨#[c]⟩ else none
  | _, _ => none
theorem Reps.atI {G : Kx} {B : Bar} {H : Hp} {ds : List D} {vs : List V} {i : Int} {d : D} (h : Reps G B H ds vs) (e : L2.atI ds i = some d) : ∃ v, L2.atI vs i = some v ∧ Rep G B H d v := by
  unfold L2.atI at e ⊢
  rw [h.len]
  rw [Option.bind_eq_some_iff] at e
  obtain ⟨j, h1, h2⟩ := e
  obtain ⟨v, h3, h4⟩ := h.get h2
  exact ⟨v, by rw [h1]; exact h3, h4⟩
theorem os_ix {G : Kx} : OpS G (rIx G.K) pIx := by
  intro B H x y dx dy d Q bd hx hy hp q
  unfold pIx at hp
  split at hp
  · simp only [Rep] at hy
    obtain ⟨a, vs, rfl, _, h1, h2⟩ := hx.sqL
    obtain ⟨v, h3, h4⟩ := h2.atI hp
    exact .inl ⟨a, vs, _, v, rfl, hy, h1, h3, q _ H (Same.refl H) h4⟩
  · simp only [Rep] at hy
    obtain ⟨a, vs, rfl, h1, h2⟩ := hx.sqT
    obtain ⟨v, h3, h4⟩ := h2.atI hp
    exact .inr (.inl ⟨a, vs, _, v, rfl, hy, h1, h3, q _ H (Same.refl H) h4⟩)
  · split at hp
    · rw [Option.map_eq_some_iff] at hp
      obtain ⟨c, hc, rfl⟩ := hp
      simp only [Rep] at hx hy
      exact .inr (.inr ⟨_, _, c, hx, hy, by assumption, hc, q _ H (Same.refl H) (by simp only [Rep])⟩)
    · cases hp
  · cases hp
def cutD (ds : List D) (lo hi : Option Int) : List D := (ds.drop (HT.sIx ds.length 0 lo)).take (HT.sIx ds.length ds.length hi - HT.sIx ds.length 0 lo)
theorem Reps.cut {G : Kx} {B : Bar} {H : Hp} {ds : List D} {vs : List V} (h : Reps G B H ds vs) (lo hi : Option Int) : Reps G B H (cutD ds lo hi) (cutV vs lo hi) := by
  unfold cutD cutV
  rw [h.len]
  exact (h.drop _).take _
def pSl (x : D) (lo hi : Option Int) : Option D := match x with
  | .list ds => some (.list (cutD ds lo hi))
  | .tuple ds => some (.tuple (cutD ds lo hi))
  | .str z => if z.length ≤ sizeLine then some (.str (cutS z lo hi)) else none
  | _ => none
abbrev rSlD (K : PySem.W.Frag) : V → Option Int → Option Int → Hp → VK → Prop := fun x lo hi H Q => rSlL K x lo hi H Q ∨ rSlF K x lo hi H Q ∨ rSlS x lo hi H Q
theorem or_sl {X : Cx} {r1 r2 : V → Option Int → Option Int → Hp → VK → Prop} (h1 : SlR X r1) (h2 : SlR X r2) : SlR X (fun x lo hi H Q => r1 x lo hi H Q ∨ r2 x lo hi H Q) :=
  fun pins s σ H x v vl vu lo hi sl Q I rx i p1 p2 h => h.elim (h1 pins s σ H x v vl vu lo hi sl Q I rx i p1 p2) (h2 pins s σ H x v vl vu lo hi sl Q I rx i p1 p2)
theorem od_sl {X : Cx} : SlR X (rSlD X.K) := or_sl sl_list (or_sl sl_tupF sl_str)
theorem cutD_whole {ds : List D} {lo hi : Option Int} (h : HT.sIx ds.length 0 lo = 0 ∧ HT.sIx ds.length ds.length hi = ds.length) : cutD ds lo hi = ds := by
  unfold cutD
  rw [h.1, h.2, List.drop_zero, Nat.sub_zero, List.take_length]
def SlS (G : Kx) (r : V → Option Int → Option Int → Hp → VK → Prop) (p : D → Option Int → Option Int → Option D) : Prop := ∀ (B : Bar) (H : Hp) (x : V) (lo hi : Option Int) (dx d : D) (Q : VK), (∀ a, B a → H a ≠ none) → Rep G B H dx x → p dx lo hi = some d →
  (∀ v H', Same H H' → Rep G B H' d v → Q v H') → r x lo hi H Q
theorem os_sl {G : Kx} : SlS G (rSlD G.K) pSl := by
  intro B H x lo hi dx d Q bd hx hp q
  unfold pSl at hp
  split at hp
  · cases hp
    obtain ⟨a, vs, rfl, _, h1, h2⟩ := hx.sqL
    exact .inl ⟨a, vs, rfl, h1, fun p hp => q _ _ (Lc.same_new hp) (rep_lst bd hp (h2.cut lo hi))⟩
  · cases hp
    rename_i ds
    obtain ⟨a, vs, rfl, h1, h2⟩ := hx.sqT
    refine .inr (.inl ⟨a, vs, rfl, h1, fun e => ?_, fun _ p o hp ho => q _ _ (Lc.same_new hp) (rep_tup bd hp ho (h2.cut lo hi))⟩)
    rw [h2.len] at e
    rw [cutD_whole e] at q
    exact q _ H (Same.refl H) hx
  · split at hp
    · cases hp
      simp only [Rep] at hx
      exact .inr (.inr ⟨_, hx, by assumption, q _ H (Same.refl H) (by simp only [Rep])⟩)
    · cases hp
  · cases hp
/-- a slice's end: left out, or an int -/
abbrev Eo' (S : Type) := Rho → S → Option (Option Int × S)
def oNo {S : Type} : Eo' S := fun _ s => some (none, s)
def asI : D → Option Int
  | .int i => some i
  | _ => none
def oOf {S : Type} (f : Ev S) : Eo' S := fun ρ s => bnd (f ρ s) fun d s => put ((asI d).map some) s
def tEp {S : Type} (G : Kx) (Z : Zk S) (W : List Nat) (f : Eo' S) : TO := fun σ H Q =>
  ∃ (B O : Bar) (ρ : Rho) (s : S) (d : Option Int) (s' : S), Eo G Z W B O H σ ρ ∧ Z.R H s ∧ f ρ s = some (d, s') ∧
    ∀ H', Lc.Fr Z.M H H' → Z.R H' s' → Q d H'
def cSl {S : Type} (p : D → Option Int → Option Int → Option D) (f : Ev S) (l h : Eo' S) : Ev S := fun ρ s => bnd (f ρ s) fun x s => bnd (l ρ s) fun lo s => bnd (h ρ s) fun hi s => put (p x lo hi) s
section
variable {S : Type} {X : Cx} {G : Kx} {Z : Zk S} {W : List Nat} {f g : Ev S} {fa : Ea S} {a b c e tg : Expr} {es : List Expr} {pos p p2 : Pos} {x : Str} {lo hi : Option Expr}
theorem imp_po {e : Option Expr} {t t' : TO} (h : PO X e t) (m : ∀ σ H Q, t' σ H Q → t σ H Q) : PO X e t' := ⟨fun pins s σ H Q I q => h.run pins s σ H Q I (m σ H Q q)⟩
theorem eo_none : PO X none (tEp G Z W oNo) := imp_po po_none fun σ H Q ⟨B, O, ρ, s, d, s', eo, hR, hf, q⟩ => by
  cases hf
  exact q H (Lc.Fr.refl H) hR
theorem eo_some (he : PE X e (tEx G Z W f)) : PO X (some e) (tEp G Z W (oOf f)) := imp_po (po_some he) fun σ H Q ⟨B, O, ρ, s, d, s', eo, hR, hf, q⟩ => by
  unfold oOf at hf
  obtain ⟨y, s1, h1, hf⟩ := bnd_some hf
  obtain ⟨h3, rfl⟩ := put_some hf
  refine ⟨B, O, ρ, s, y, _, eo, hR, h1, fun v H1 f1 r1 R1 => ?_⟩
  unfold asI at h3
  split at h3
  · cases h3
    simp only [Rep] at r1
    exact ⟨_, r1, q H1 f1 R1⟩
  · cases h3
theorem ex_slice {l h : Eo' S} {r : V → Option Int → Option Int → Hp → VK → Prop} {q : D → Option Int → Option Int → Option D} (hr : SlR X r) (hs : SlS G r q) (he : PE X e (tEx G Z W f)) (hl : PO X lo (tEp G Z W l)) (hh : PO X hi (tEp G Z W h)) : PE X (.Subscript e (.Slice lo hi none p2) pos) (tEx G Z W (cSl q f l h)) :=
  imp_pe (pe_slice hr he hl hh) fun σ H Q ⟨B, O, ρ, s, d, s', eo, hR, hf, k⟩ => by
    unfold cSl at hf
    obtain ⟨y, s1, h1, hf⟩ := bnd_some hf
    obtain ⟨i, s2, h2, hf⟩ := bnd_some hf
    obtain ⟨j, s3, h3, hf⟩ := bnd_some hf
    obtain ⟨h4, rfl⟩ := put_some hf
    refine ⟨B, O, ρ, s, y, s1, eo, hR, h1, fun v H1 f1 r1 R1 => ⟨B, O, ρ, s1, i, s2, eo.fr f1, R1, h2, fun H2 f2 R2 => ⟨B, O, ρ, s2, j, _, (eo.fr f1).fr f2, R2, h3, fun H3 f3 R3 => ?_⟩⟩⟩
    have e3 := ((eo.fr f1).fr f2).fr f3
    refine hs _ H3 v i j y d Q (fun a z => z.elim (e3.bd a) (e3.od a)) (r1.fr (f2.trans f3) fun a z => .inl (eo.mb a z)) h4 fun w H4 sm r4 => ?_
    exact k w H4 (((f1.trans f2).trans f3).trans (Lc.Fr.of sm)) r4 (Z.same R3 sm)
/-! ### new lists -/
/-- a call that makes a new list -/
def CaN (G : Kx) (r : List V → Hp → VK → Prop) (p : List D → Option (List D)) : Prop := ∀ (B : Bar) (H : Hp) (xs : List V) (ds es : List D) (Q : VK), (∀ a, B a → H a ≠ none) → Reps G B H ds xs → p ds = some es →
  (∀ q vs, H q = none → Reps G B H es vs → Q (.ref q) (upd H q (.lst vs))) → r xs H Q
def aN (p : List D → Option (List D)) (f : Ea S) : Ea S := fun ρ s => bnd (f ρ s) fun xs s => put (p xs) s
theorem nl_of {p : Addr} {B O : Bar} {H : Hp} {es : List D} {vs : List V} (hp : H p = none) (h : Reps G (fun a => B a ∨ O a) H es vs) (o : HO) : Reps G (fun a => (B a ∨ a = p) ∨ O a) (upd H p o) es vs :=
  h.mv fun a u e n => ⟨by rw [upd_ne (ne_of_none e hp)]; exact e, fun z => n (z.elim (fun z => z.elim .inl fun z => absurd z (ne_of_none e hp)) .inr)⟩
theorem tcb_nl {r : List V → Hp → VK → Prop} {p : List D → Option (List D)} (hs : CaN G r p) {σ : L2.St} {H : Hp} {Q : VK} (h : tNl G Z W (aN p fa) σ H Q) : tCB r (tEa G Z W fa) σ H Q := by
  obtain ⟨B, O, ρ, s, d, s', eo, hR, hf, q⟩ := h
  unfold aN at hf
  obtain ⟨x, s1, h1, hf⟩ := bnd_some hf
  obtain ⟨h3, rfl⟩ := put_some hf
  refine ⟨B, O, ρ, s, x, _, eo, hR, h1, fun v H1 f1 r1 R1 => ?_⟩
  have e2 := eo.fr f1
  refine hs _ H1 v x d Q (fun a z => z.elim (e2.bd a) (e2.od a)) r1 h3 fun l vs hl hv => ?_
  exact q l vs _ (f1.free hl) (f1.trans (Lc.Fr.new hl)) upd_same (nl_of hl hv _) (Z.same R1 (Lc.same_new hl))
theorem nl_callB {id : String} {r : List V → Hp → VK → Prop} {q : List D → Option (List D)} (hc : CallR X (.builtin id) r) (hS : CaN G r q) (hg : Gl X x) (hm : X.mg x = none) (hv : bootBuiltins x = some (.builtin id)) (ha : PA X (e :: es) (tEa G Z W fa)) (hn : x ≠ "__name__" := by decide) (hdb : (x == ("__debug__" : Str)) = false := by decide)
    (he : starEach (e :: es) X.env = (false, eval e X.env) :: starEach es X.env := by rfl) (hpl : (backTo pos (starEach es X.env)).any (·.1) = false := by rfl) : PE X (.Call (.Name x p) (e :: es) [] pos) (tNl G Z W (aN q fa)) :=
  imp_pe (pe_callB hc hg hm hv ha hn hdb he hpl) fun σ H Q h => tcb_nl hS h
def lenOk (ds : List D) : Option (List D) := if ds.length ≤ sizeLine then some ds else none
theorem nl_lst (h : PA X es (tEa G Z W fa)) : PE X (.List es pos) (tNl G Z W (aN lenOk fa)) :=
  imp_pe (pe_lst h) fun σ H Q ⟨B, O, ρ, s, d, s', eo, hR, hf, q⟩ => by
    unfold aN at hf
    obtain ⟨x, s1, h1, hf⟩ := bnd_some hf
    obtain ⟨h3, rfl⟩ := put_some hf
    unfold lenOk at h3
    split at h3
    · cases h3
      refine ⟨B, O, ρ, s, d, _, eo, hR, h1, fun v H1 f1 r1 R1 => ⟨by rw [r1.len]; assumption, fun l hl => ?_⟩⟩
      exact q l v _ (f1.free hl) (f1.trans (Lc.Fr.new hl)) upd_same (nl_of hl r1 _) (Z.same R1 (Lc.same_new hl))
    · cases h3
/-! ### what is built in -/
def pLen : List D → Option D
  | [.list ds] => some (.int ds.length)
  | [.tuple ds] => some (.int ds.length)
  | [.str z] => if z.length ≤ sizeLine then some (.int z.length) else none
  | _ => none
theorem od_len : CallR X (.builtin "len") (orC (Lc.rLenQ X.K) (fun xs H Q => ∃ z, xs = [.str z] ∧ z.length ≤ sizeLine ∧ Q (.int z.length) H)) := or_ca call_len_seq call_len_str
theorem os_len : CaS G (orC (Lc.rLenQ G.K) (fun xs H Q => ∃ z, xs = [.str z] ∧ z.length ≤ sizeLine ∧ Q (.int z.length) H)) pLen := by
  intro B H xs ds d Q bd hr hp q
  unfold pLen at hp
  split at hp
  · cases hp
    simp only [Reps] at hr
    obtain ⟨v, r, rfl, h1, rfl⟩ := hr
    obtain ⟨a, vs, rfl, _, h2, h3⟩ := h1.sqL
    exact .inl ⟨a, vs, rfl, .inl h2, q _ H (Same.refl H) (by simp only [Rep]; rw [h3.len])⟩
  · cases hp
    simp only [Reps] at hr
    obtain ⟨v, r, rfl, h1, rfl⟩ := hr
    obtain ⟨a, vs, rfl, h2, h3⟩ := h1.sqT
    exact .inl ⟨a, vs, rfl, .inr h2, q _ H (Same.refl H) (by simp only [Rep]; rw [h3.len])⟩
  · split at hp
    · cases hp
      simp only [Reps, Rep] at hr
      obtain ⟨v, r, rfl, rfl, rfl⟩ := hr
      exact .inr ⟨_, rfl, by assumption, q _ H (Same.refl H) (by simp only [Rep])⟩
    · cases hp
  · cases hp
def pList : List D → Option (List D)
  | [.list ds] => some ds
  | [.tuple ds] => some ds
  | _ => none
def pTuple : List D → Option D
  | [.list ds] => some (.tuple ds)
  | [.tuple ds] => some (.tuple ds)
  | _ => none
theorem od_tuple : CallR X (.type "tuple") (rTupF X.K) := call_tupF
theorem os_tuple : CaS G (rTupF G.K) pTuple := by
  intro B H xs ds d Q bd hr hp q
  unfold pTuple at hp
  split at hp
  · cases hp
    simp only [Reps] at hr
    obtain ⟨v, r, rfl, h1, rfl⟩ := hr
    obtain ⟨a, vs, rfl, _, h2, h3⟩ := h1.sqL
    exact ⟨a, vs, rfl, .inl ⟨h2, fun l o hl ho => q _ _ (Lc.same_new hl) (rep_tup bd hl ho h3)⟩⟩
  · cases hp
    simp only [Reps] at hr
    obtain ⟨v, r, rfl, h1, rfl⟩ := hr
    obtain ⟨a, vs, rfl, h2, h3⟩ := h1.sqT
    exact ⟨a, vs, rfl, .inr ⟨h2, q _ H (Same.refl H) h1⟩⟩
  · cases hp
def pInt : List D → Option D
  | [.int i] => some (.int i)
  | [.bool k] => some (.int (if k then 1 else 0))
  | _ => none
theorem os_int : CaS G (fun xs H Q => (∃ i, xs = [.int i] ∧ Q (.int i) H) ∨ ∃ k, xs = [.bl k] ∧ Q (.int (if k then 1 else 0)) H) pInt := by
  intro B H xs ds d Q bd hr hp q
  unfold pInt at hp
  split at hp
  · cases hp
    simp only [Reps, Rep] at hr
    obtain ⟨v, r, rfl, rfl, rfl⟩ := hr
    exact .inl ⟨_, rfl, q _ H (Same.refl H) (by simp only [Rep])⟩
  · cases hp
    simp only [Reps, Rep] at hr
    obtain ⟨v, r, rfl, rfl, rfl⟩ := hr
    exact .inr ⟨_, rfl, q _ H (Same.refl H) (by simp only [Rep])⟩
  · cases hp
def pSum : List D → Option D
  | [.list ds] => (dInts ds).map fun ns => .int ns.sum
  | _ => none
theorem os_sum : CaS G (rSum G.K) pSum := by
  intro B H xs ds d Q bd hr hp q
  unfold pSum at hp
  split at hp
  · rw [Option.map_eq_some_iff] at hp
    obtain ⟨ns, h0, rfl⟩ := hp
    simp only [Reps] at hr
    obtain ⟨v, r, rfl, h1, rfl⟩ := hr
    obtain ⟨a, vs, rfl, _, h2, h3⟩ := h1.sqL
    rw [ints_some h0] at h3
    rw [h3.ints] at h2
    exact ⟨a, ns, rfl, h2, q _ H (Same.refl H) (by simp only [Rep])⟩
  · cases hp
def dBools : List D → Option (List Bool)
  | [] => some []
  | .bool i :: ds => (dBools ds).map (i :: ·)
  | _ => none
@[simp] theorem dBools_map (ns : List Bool) : dBools (ns.map .bool) = some ns := by
  induction ns with
  | nil => rfl
  | cons n ns ih => simp [dBools, ih]
/-! isinstance of a class that is built in -/
def tyN : D → Option String
  | .none => some "NoneType"
  | .bool _ => some "bool"
  | .int _ => some "int"
  | .str _ => some "str"
  | .list _ => some "list"
  | .tuple _ => some "tuple"
  | .dict kvs => if isHn kvs = true then none else some "dict"
def pIsi (T : String) (d : D) : Option D := (tyN d).bind fun t => (L2.kitB t T).map .bool
theorem tyX_of {B : Bar} {H : Hp} {d : D} {v : V} {t : String} (h : Rep G B H d v) (e : tyN d = some t) : TyX G.K H v (.type t) := by
  cases d with
  | none => simp only [Rep] at h; subst h; cases e; exact .base .non
  | bool b => simp only [Rep] at h; subst h; cases e; exact .base (.bl b)
  | int i => simp only [Rep] at h; subst h; cases e; exact .base (.int i)
  | str i => simp only [Rep] at h; subst h; cases e; exact .base (.str i)
  | list ds =>
    obtain ⟨a, vs, rfl, h1, _⟩ := h.sqL
    cases e
    exact .base (.lst h1)
  | tuple ds =>
    simp only [Rep] at h
    obtain ⟨a, vs, rfl, h1, _⟩ := h
    cases e
    rcases h1 with ⟨⟨h1, _⟩ | ⟨o, h1, _⟩, _⟩ | ⟨o, its, n, h1, h2, _⟩
    · exact .base (.tup h1)
    · exact .fTuple h1
    · exact .kTuple h1 h2
  | dict kvs =>
    simp only [Rep] at h
    have e : (if isHn kvs = true then none else some "dict") = some t := e
    obtain ⟨a, rfl, ⟨n, rfl, _⟩ | ⟨_, kv, h1, _⟩⟩ := h
    · cases e
    · split at e
      · cases e
      · cases e
        exact .base (.dK h1)
theorem ex_isi {Ts : String} (hg : Gl X "isinstance") (hm : X.mg "isinstance" = none) (ha : PE X a (tEx G Z W f)) (hb : PE X b (tC (.ty Ts)))
    (hK : X.K = G.K := by rfl) (he : starEach [a, b] X.env = (false, eval a X.env) :: starEach [b] X.env := by rfl) (he2 : starEach [b] X.env = (false, eval b X.env) :: starEach [] X.env := by rfl) (hpl : (backTo pos (starEach [b] X.env)).any (·.1) = false := by rfl) (hv : bootBuiltins "isinstance" = some (.builtin "isinstance") := by decide +kernel) :
    PE X (.Call (.Name "isinstance" p) [a, b] [] pos) (tEx G Z W (cU (pIsi Ts) f)) :=
  imp_pe (pe_callB call_isi hg hm hv (pa_cons ha (pa_cons hb pa_nil he2) he) (by decide) (by decide) he hpl) fun σ H Q ⟨B, O, ρ, s, d, s', eo, hR, hf, q⟩ => by
    unfold cU at hf
    obtain ⟨y, s1, h1, hf⟩ := bnd_some hf
    obtain ⟨h3, rfl⟩ := put_some hf
    unfold pIsi at h3
    rw [Option.bind_eq_some_iff] at h3
    obtain ⟨t, h4, h5⟩ := h3
    rw [Option.map_eq_some_iff] at h5
    obtain ⟨k, h6, rfl⟩ := h5
    refine ⟨B, O, ρ, s, y, _, eo, hR, h1, fun v H1 f1 r1 R1 => ?_⟩
    refine ⟨v, .ty Ts, .type t, .type Ts, k, rfl, .ty Ts, by rw [hK]; exact tyX_of r1 h4, kit_ty h6, q _ H1 f1 (by simp only [Rep]) R1⟩
/-! methods of texts -/
def pJoin : D → D → Option D
  | .str a, .list ds => match dStrs ds with
    | some ys => if (ys.map (·.length)).sum + ys.length * a.length ≤ 16777216 then some (.str (Txt.join a ys)) else none
    | none => none
  | .str a, .tuple ds => match dStrs ds with
    | some ys => if (ys.map (·.length)).sum + ys.length * a.length ≤ 16777216 then some (.str (Txt.join a ys)) else none
    | none => none
  | _, _ => none
def aSplit (f g : Ev S) : Ea S := fun ρ s => bnd (f ρ s) fun x s => bnd (g ρ s) fun y s => match x, y with
  | .str a, .str b => if (b.length == 0) = false ∧ a.length + 2 ≤ sizeLine then some ((Txt.split a b).map .str, s) else none
  | _, _ => none
theorem nl_split {o : Expr} {apos : Pos} (ho : PE X o (tEx G Z W f)) (he : PE X e (tEx G Z W g)) (hs : starEach [e] X.env = [(false, eval e X.env)] := by rfl) (hbase : attributeBase o "split" X.env (eval o X.env) = eval o X.env := by rfl) (hline : (apos.endLine == pos.line) = true := by rfl) :
    PE X (.Call (.Attribute o "split" apos) [e] [] pos) (tNl G Z W (aSplit f g)) :=
  imp_pe (pe_split ho he hs hbase hline) fun σ H Q ⟨B, O, ρ, s, d, s', eo, hR, hf, q⟩ => by
    unfold aSplit at hf
    obtain ⟨x, s1, h1, hf⟩ := bnd_some hf
    obtain ⟨y, s2, h2, hf⟩ := bnd_some hf
    split at hf
    · split at hf
      · rename_i hc
        cases hf
        refine ⟨B, O, ρ, s, _, s1, eo, hR, h1, fun v H1 f1 r1 R1 => ?_⟩
        simp only [Rep] at r1
        refine ⟨⟨_, r1⟩, B, O, ρ, s1, _, _, eo.fr f1, R1, h2, fun u H2 f2 r2 R2 => ?_⟩
        simp only [Rep] at r2
        subst r2
        refine ⟨_, _, r1, rfl, hc.1, hc.2, fun l hl => ?_⟩
        exact q l _ _ ((f1.trans f2).free hl) ((f1.trans f2).trans (Lc.Fr.new hl)) upd_same reps_strs (Z.same R2 (Lc.same_new hl))
      · cases hf
    · cases hf
end
end Dl
set_option Elab.async false
set_option linter.all false
set_option maxRecDepth 100000
set_option maxHeartbeats 4000000
/-! enumerate(t), t a tuple -/
namespace Lc
open PySem PySem.Spec PyProof.Rows L2
open AutoSeq1 (wpAny_loadPart')
section
variable {prog : Program} {w : World} {A : Around} {E : Value → Shared → Prop} {s : Shared}
end
/-! ### the rule -/
end Lc
set_option Elab.async false
set_option linter.all false
set_option maxRecDepth 100000
set_option maxHeartbeats 4000000
/-! list(s), s a text: its signs -/
namespace Lc
open PySem PySem.Spec PyProof.Rows L2
end Lc
set_option Elab.async false
set_option linter.all false
set_option maxRecDepth 100000
set_option maxHeartbeats 4000000
namespace Dl
open PySem PySem.Spec PyProof.Rows L2
section
variable {S : Type} {X : Cx} {G : Kx} {Z : Zk S} {W : List Nat} {f g : Ev S} {fa : Ea S} {F F' : Sv S} {a b c e tg : Expr} {es : List Expr} {st : Stmt} {rest : List Stmt} {pos p : Pos} {x : Str}
/-! ### own lists read -/
theorem et_weak {q : Et S} (h : PT X e (tEt G Z [] q)) : PT X e (tEt G Z W q) := imp_pt h fun σ H Q ⟨B, O, ρ, s, d, s', eo, hR, hf, k⟩ => ⟨B, fun _ => False, ρ, s, d, s', eo.weak, hR, hf, k⟩
def aFl (f : Ea S) : Ea S := fun ρ s => bnd (f ρ s) fun ds s => if flatDs ds = true then some (ds, s) else none
/-! a name set to a new list, however it is made -/
theorem es_setNl {i : Nat} {t : TE} (h : PS X st (tAsg t (gName i))) (hn : ∀ σ H Q, tNl G Z W fa σ H Q → t σ H Q) (hw : W.contains i = false := by rfl) : PS X st (tSt G Z W (sSet i (cNl fa))) :=
  imp_ps h fun E σ H ⟨B, H0, O, ρ, s, r, s', sr, hf, k⟩ => by
    unfold sSet cNl at hf
    obtain ⟨d, s1, h1, hf⟩ := bnd_some hf
    obtain ⟨y, s2, h2, h1⟩ := bnd_some h1
    cases h1
    cases hf
    refine hn σ H _ ⟨B, O, ρ, s, y, _, sr.eo, sr.r, h2, fun p vs H' hp f1 h2 h3 R1 => ?_⟩
    have sr1 := sr.step f1 R1
    refine k O _ H' ⟨sr1.eo.set (by simpa using hw) ?_, sr1.fr, sr1.b0, sr1.o0, R1⟩ (Ch.of f1)
    simp only [Rep]
    exact ⟨p, vs, rfl, h2, sr.eo.new hp, h3.sub fun a z _ => z.elim (fun z => .inl (.inl z)) .inr⟩
/-! x op= e -/
def sAug (i : Nat) (p : D → D → Option D) (f : Ev S) : Sv S := fun ρ s => match ρ[i]? with
  | some (some x) => bnd (f ρ s) fun y s => match p x y with
    | some z => some (.nx (ρ.set i (some z)), s)
    | none => none
  | _ => none
theorem es_aug {i : Nat} {t : TIp} {q : D → D → Option D} (h : PS X st (tAug i (tEx G Z W f) t)) (ht : OpS G t q) (hw : W.contains i = false := by rfl) : PS X st (tSt G Z W (sAug i q f)) :=
  imp_ps h fun E σ H ⟨B, H0, O, ρ, s, r, s', sr, hf, k⟩ => by
    unfold sAug at hf
    split at hf
    · rename_i d hd
      obtain ⟨y, s1, h1, hf⟩ := bnd_some hf
      split at hf
      · rename_i z hz
        cases hf
        obtain ⟨v, h2, h3⟩ := sr.eo.er.pl i d (by simpa using hw) hd
        refine ⟨v, h2, B, O, ρ, s, y, _, sr.eo, sr.r, h1, fun u H1 f1 r1 R1 => ?_⟩
        have sr1 := sr.step f1 R1
        refine ht _ H1 v u d y z _ (fun a z => z.elim (sr1.eo.bd a) (sr1.eo.od a)) (h3.fr f1 fun a z => .inl (sr.mb a z)) r1 hz fun w H2 sm r2 => ?_
        have sr2 := sr1.step (Lc.Fr.of sm) (Z.same R1 sm)
        exact k O _ H2 ⟨sr2.eo.set (by simpa using hw) r2, sr2.fr, sr2.b0, sr2.o0, sr2.r⟩ (Ch.of (f1.trans (Lc.Fr.of sm)))
      · cases hf
    · cases hf
theorem os_ip {g : Int → Int → Int} : OpS G (ipI g) (pI0 fun i j => .int (g i j)) := by
  intro B H x y dx dy d Q bd hx hy hp q
  unfold pI0 at hp
  split at hp
  · cases hp
    simp only [Rep] at hx hy
    subst hx hy
    exact ⟨_, _, rfl, rfl, q _ H (Same.refl H) (by simp only [Rep])⟩
  · cases hp
/-! told.extend(..) -/
theorem es_app2 {i : Nat} (h : PS X st (tDrop (tBM X.K "list" rAppend (tVar i) (tCons (tEx G Z W f) tNil)))) (hw : W.contains i = true := by rfl) : PS X st (tSt G Z W (sApp i f)) :=
  imp_ps h fun E σ H ⟨B, H0, O, ρ, s, r, s', sr, hf, q⟩ => by
    unfold sApp at hf
    split at hf
    · rename_i ds hd
      obtain ⟨d, s1, h1, hf⟩ := bnd_some hf
      split at hf
      · rename_i hl
        cases hf
        have hi : i ∈ W := by simpa using hw
        obtain ⟨P, ds', vs, hds, a2, a4, a5, a3, mu⟩ := sr.mut hi hd
        refine ⟨.ref P, a2, .inl ⟨rfl, vs, .inl (.inl a4)⟩, B, O, ρ, s, d, _, sr.eo, sr.r, h1, fun v H1 f1 r1 R1 => ?_⟩
        have sr1 := sr.step f1 R1
        obtain ⟨P1, ds1, vs1, hds1, b2, b4, b5, b3, mu1⟩ := sr1.mut hi hd
        rw [a2] at b2
        cases b2
        cases hds1
        refine ⟨P, vs1, v, rfl, rfl, b4, by rw [b5.len]; exact hl, ?_⟩
        obtain ⟨sr2, ch2⟩ := mu1 (ds ++ [d]) (vs1 ++ [v]) (b5.append (Reps.cons r1 Reps.nil))
        exact q O σ _ sr2 ((Ch.of f1).trans ch2)
      · cases hf
    · cases hf
/-! ### pairs: enumerate, zip -/
def pairD (x y : D) : D := .tuple [x, y]
/-! ### max, min of a list of ints; sorted -/
/-- texts in order -/
def leS (a b : Str) : Bool := !decide (b.cps.toList < a.cps.toList)
def sortS (xs : List Str) : List Str := xs.mergeSort leS
end
end Dl
set_option Elab.async false
set_option linter.all false
set_option maxRecDepth 100000
set_option maxHeartbeats 4000000
namespace Dl
open PySem PySem.Spec PyProof.Rows L2
theorem Room_units65 {A : Around} {k : Nat} (hr : Room k A) : A.units + 65 < cLine := by have := hr.un; omega
section
variable {S : Type} {X : Cx} {G : Kx} {Z : Zk S} {W : List Nat} {f g h : Ev S} {fa : Ea S} {F F' : Sv S} {a b c e tg : Expr} {es : List Expr} {st : Stmt} {rest : List Stmt} {pos p : Pos} {x : Str}
theorem es_asgT {t : Tg} {vs : List Nat} (h : PS X st (tAsg (tEx G Z W f) (tTg G Z W vs t))) : PS X st (tSt G Z W (sAsg f t)) :=
  imp_ps h fun E σ H ⟨B, H0, O, ρ, s, r, s', sr, hf, q⟩ => by
    unfold sAsg at hf
    obtain ⟨d, s1, h1, hf⟩ := bnd_some hf
    split at hf
    · cases hf
    · rename_i ρ1 e1
      cases hf
      refine ⟨B, O, ρ, s, d, _, sr.eo, sr.r, h1, fun v H1 f1 r1 R1 => ?_⟩
      have sr1 := sr.step f1 R1
      exact ⟨B, O, ρ, d, ρ1, sr1.eo, r1, e1, fun σ2 eo2 _ => q O _ H1 ⟨eo2, sr1.fr, sr1.b0, sr1.o0, R1⟩ (Ch.of f1)⟩
theorem nl_lcT {fi : Ea S} {t : Tg} {us vs : List Nat} {q : Et S} {tt : TT} {σ : L2.St} {H : Hp} {Q : VK} (hu : ∀ i ∈ us, i ∈ vs) (hq : ∀ σ H Q, tEt G Z W q σ H Q → tt σ H Q) (h : tNl G Z W (lcF fi t q f vs) σ H Q) : tLc (tIt G Z W fi) (tTg G Z W us t) tt (tEx G Z W f) vs σ H Q := by
  obtain ⟨B, O, ρ, s, d, s', eo, hR, hf, k⟩ := h
  exact lc_new hu hq eo hR hf k
def pNeg : D → Option D
  | .int i => some (.int (-i))
  | _ => none
theorem us_neg : UnS G (rU fun i => .int (-i)) pNeg := by
  intro B H x dx d Q bd hx hp q
  unfold pNeg at hp
  split at hp
  · cases hp
    simp only [Rep] at hx
    subst hx
    exact ⟨_, rfl, q _ H (Same.refl H) (by simp only [Rep])⟩
  · cases hp
/-! list of a text -/
/-! sorted of texts -/
theorem ltCps_lt (a b : List Nat) : ltCps a b = decide (a < b) := by
  induction a generalizing b with
  | nil => cases b <;> simp [ltCps]
  | cons x a ih =>
    cases b with
    | nil => simp [ltCps]
    | cons y b =>
      simp only [ltCps, ih]
      by_cases h1 : x < y
      · simp [h1, List.cons_lt_cons_iff]
      · by_cases h2 : x = y
        · subst h2; simp [List.cons_lt_cons_iff]
        · simp [h1, h2, List.cons_lt_cons_iff]
theorem leS_tr {a b c : Str} (h : leS a b = true) (g : leS b c = true) : leS a c = true := by
  simp only [leS, Bool.not_eq_true', decide_eq_false_iff_not, List.not_lt] at *
  exact List.le_trans h g
theorem leS_tot (a b : Str) : (leS a b || leS b a) = true := by
  simp only [leS, Bool.or_eq_true, Bool.not_eq_true', decide_eq_false_iff_not, List.not_lt]
  exact List.le_total _ _
theorem leS_anti {a b : Str} (h : leS a b = true) (g : leS b a = true) : a = b := by
  simp only [leS, Bool.not_eq_true', decide_eq_false_iff_not, List.not_lt] at *
  have := List.le_antisymm h g
  obtain ⟨a⟩ := a
  obtain ⟨b⟩ := b
  have e : a = b := Array.toList_inj.mp this
  rw [e]
theorem rising_pw : ∀ {p : Str} {r : List Str}, risingS p r = true → (p :: r).Pairwise (fun a b => leS a b = true)
  | p, [], _ => by simp
  | p, x :: r, h => by
    unfold risingS at h
    rw [Bool.and_eq_true] at h
    have ih := rising_pw h.2
    have hpx : leS p x = true := by
      unfold leS
      rw [← ltCps_lt]
      exact h.1
    refine List.pairwise_cons.mpr ⟨fun y hy => ?_, ih⟩
    rcases List.mem_cons.mp hy with rfl | hy
    · exact hpx
    · exact leS_tr hpx ((List.pairwise_cons.mp ih).1 y hy)
theorem sorted_pw {xs : List Str} (h : sortedS xs = true) : xs.Pairwise (fun a b => leS a b = true) := by
  cases xs with
  | nil => simp
  | cons x r => exact rising_pw h
theorem pw_unique {le : Str → Str → Bool} (anti : ∀ a b, le a b = true → le b a = true → a = b) : ∀ {xs ys : List Str}, xs.Perm ys → xs.Pairwise (fun a b => le a b = true) → ys.Pairwise (fun a b => le a b = true) → xs = ys
  | [], ys, h, _, _ => (List.nil_perm.mp h).symm
  | x :: xs, [], h, _, _ => absurd h.length_eq (by simp)
  | x :: xs, y :: ys, h, h1, h2 => by
    have h1' := List.pairwise_cons.mp h1
    have h2' := List.pairwise_cons.mp h2
    have e : x = y := by
      have hx : x ∈ y :: ys := h.mem_iff.mp List.mem_cons_self
      have hy : y ∈ x :: xs := h.mem_iff.mpr List.mem_cons_self
      rcases List.mem_cons.mp hx with hx | hx
      · exact hx
      · rcases List.mem_cons.mp hy with hy | hy
        · exact hy.symm
        · exact anti x y (h1'.1 y hy) (h2'.1 x hx)
    subst e
    rw [pw_unique anti ((List.perm_cons x).mp h) h1'.2 h2'.2]
theorem sortS_eq {xs ys : List Str} (h : ys.Perm xs) (hs : sortedS ys = true) : ys = sortS xs := by
  refine pw_unique (le := leS) (fun a b => leS_anti) (h.trans (List.mergeSort_perm xs leS).symm) (sorted_pw hs) ?_
  exact List.pairwise_mergeSort (le := leS) (fun a b c h g => leS_tr h g) (fun a b => leS_tot a b) xs
theorem sortS_perm (xs : List Str) : (sortS xs).Perm xs := List.mergeSort_perm xs leS
theorem sortS_pw (xs : List Str) : (sortS xs).Pairwise (fun a b => leS a b = true) := List.pairwise_mergeSort (le := leS) (fun a b c h g => leS_tr h g) (fun a b => leS_tot a b) xs
def pSorted : List D → Option (List D)
  | [.list ds] => match dStrs ds with
    | some xs => if xs.length < 64 then some ((sortS xs).map .str) else none
    | none => none
  | _ => none
theorem on_sorted : CaN G (rSortedS G.K) pSorted := by
  intro B H xs ds es Q bd hr hp q
  unfold pSorted at hp
  split at hp
  · split at hp
    · rename_i xs' hx
      split at hp
      · rename_i hl
        cases hp
        simp only [Reps] at hr
        obtain ⟨v, r, rfl, h1, rfl⟩ := hr
        obtain ⟨a, vs, rfl, _, h2, h3⟩ := h1.sqL
        rw [strs_some hx] at h3
        rw [h3.strs] at h2
        refine ⟨a, xs', rfl, h2, hl, fun ys p hp hs hn => ?_⟩
        have := sortS_eq hp hs
        subst this
        exact q p _ hn reps_strs
      · cases hp
    · cases hp
  · cases hp
end
end Dl
set_option Elab.async false
set_option linter.all false
set_option maxRecDepth 100000
set_option maxHeartbeats 4000000
/-! all(x in y for x in e): e a text, y a captured name that holds a text -/
namespace Lc
open PySem PySem.Spec PyProof.Rows L2 GxR
section
variable {X : Cx} {pins : List (Addr × Obj)} {σ : L2.St} {H : Hp} {s : Shared}
end
end Lc
set_option Elab.async false
set_option linter.all false
set_option maxRecDepth 100000
set_option maxHeartbeats 4000000
/-! all / any (elt for tg in it if ..), anything in elt -/
namespace Dl
open PySem PySem.Spec PyProof.Rows L2 GxR
theorem over_gx {A : Around} {elt tg iter : Expr} {ifs : List Expr} {scope : Scope} {pos : Pos} {it acc : Value} {env : Env} :
    A.over (.compLoop (.GeneratorExp elt [⟨tg, iter, ifs, 0⟩] scope pos) 0 it acc env) [] = A.deeper env := rfl
theorem inv_gens {X : Cx} {pins : List (Addr × Obj)} {σ : L2.St} {H : Hp} {s : Shared} {g' : Array GenState} (I : Inv X pins σ H s) (hb : AllBare g') : Inv X pins σ H { s with gens := g' } :=
  ⟨I.ok, I.os, hb, I.base, I.loc, I.cell, I.free, I.freeC, I.pin, I.hok, I.len⟩
theorem bare_set {gs : Array GenState} {g : Nat} {x : GenState} (h : AllBare gs) (hx : x.bare = true) : AllBare (gs.setIfInBounds g x) := fun y hy => by
  obtain ⟨i, hi, rfl⟩ := Array.mem_iff_getElem.mp hy
  have hi' : i < gs.size := by simpa using hi
  rw [Array.getElem_setIfInBounds hi']
  split
  · exact hx
  · exact h _ (Array.getElem_mem _)
abbrev gxE (X : Cx) (scope : Scope) (C : Addr) (cv : Value) : Env := genEnv scope (cloFrom X.env.cells scope.names []) C cv builtinsNs X.env
/-- the context of a generator expression's body -/
abbrev gxC (X : Cx) (s : Shared) (H : Hp) (scope : Scope) (C : Addr) (cv : Value) (fp : List Addr) (pn : List (Addr × Obj)) : Cx :=
  { X with A := X.A.in1.in1.deeper (gxE X scope C cv), s_0 := s, H_0 := H, env := gxE X scope C cv, outer := X.stack, stack := gxE X scope C cv :: X.stack, ex := fp, fn := fun _ => false, pn := pn, xe := fun _ _ => False }
section
variable {X : Cx} {pins : List (Addr × Obj)} {σ : L2.St} {H : Hp} {s : Shared}
/-- a name that the body takes from around has a cell there -/
theorem blk_free {scope : Scope} {own : List (Str × Nat)} (I : Inv X pins σ H s) (ok : BlkOk X.N X.env.scope scope own) (y : Str × NameKind) (hy : y ∈ scope.names) (e : y.2 = .free) : ∃ c, X.env.cells.lookup y.1 = some c :=
  I.ok.has y.1 ((ok.free y hy e).imp id id)
theorem gen_start {scope : Scope} {own : List (Str × Nat)} {fp : List Addr} {h' : Heap} {m : Str → Option Value} {gs : Array GenState} {tk : Nat} {a : Addr} {go : Obj} {cv : Value} (I : Inv X pins σ H s) (ok : BlkOk X.N X.env.scope scope own) (hcell : ∀ y ∈ scope.names, y.2 ≠ .cell) (hN : X.N.Nodup)
    (hfp : ∀ b ∈ fp, FpOk X pins H b ∧ b < s.heap.objs.size) (hn : h'.Ns s.heap.objs.size m) (kp : ∀ b o, s.heap.get? b = some o → h'.get? b = some o) (hb : AllBare gs) (ha : s.heap.objs.size < a) (hgo : h'.get? a = some go) (hgd : ∀ v, go.data ≠ .cell v) :
    Inv (gxC X s H scope s.heap.objs.size cv fp [(a, go)]) [] (wipe σ (own.map (·.2))) H { s with heap := h', gens := gs, toks := tk } := by
  have hfree := blk_free I ok
  have cm : ∀ {y c}, (cloFrom X.env.cells scope.names []).lookup y = some c → X.env.cells.lookup y = some c ∧ c < s.heap.objs.size := fun {y c} hm => by
    rcases cloFrom_mem (PySem.mem_of_lookup hm) with hm | ⟨h1, rfl⟩
    · cases hm
    · obtain ⟨c, hc⟩ := hfree _ h1 rfl
      rw [hc]
      obtain ⟨w, z⟩ := I.cell _ _ hc
      exact ⟨rfl, z.lt⟩
  have look : ∀ {y}, scope.names.lookup y = some .free → ∃ c, (cloFrom X.env.cells scope.names []).lookup y = some c ∧ X.env.cells.lookup y = some c := fun {y} hl => by
    obtain ⟨c', e'⟩ := mem_lookup (cloFrom_has (cells := X.env.cells) (acc := []) (PySem.mem_of_lookup hl))
    exact ⟨c', e', (cm e').1⟩
  have okB : (gxC X s H scope s.heap.objs.size cv fp [(a, go)]).Ok := by
    refine ⟨I.ok.mod, ok.kind, I.ok.glob, rfl, Nat.le_refl _, fun y z c e1 e2 => I.ok.inj y z c (cm e1).1 (cm e2).1, fun y hy => ?_, fun y c z e => (nomatch z), I.ok.hd, ?_, .inr ⟨rfl, rfl⟩, fun b hb => ⟨Nat.ne_of_lt (hfp b hb).2, fun y c e z => ?_⟩, I.bs, Nat.le_trans I.ok.bsz I.sz, fun b o e hb => ?_, fun b hb z => ?_, I.stack, I.stkFree⟩
    · rcases hy with hy | hy
      · exact absurd rfl (hcell _ (PySem.mem_of_lookup hy))
      · obtain ⟨c, h1, _⟩ := look hy
        exact ⟨c, h1⟩
    · show (X.A.frames).map _ = _
      rw [I.ok.frames]
      rfl
    · exact (hfp b hb).1.2.2.2.2.1 y c (cm e).1 z
    · rcases (hfp b hb).1.2.2.2.1 with z | z
      · exact I.ok.noex b o e z
      · have young := Nat.le_trans I.ok.bsz z
        have old := Heap.lt_size e
        exact Nat.not_lt.mpr young old
    · exact (List.mem_cons.mp (I.stkSub b z)).elim (hfp b hb).1.2.1 (hfp b hb).1.2.2.1
  refine ⟨okB, rfl, hb, Un.kept kp, ⟨_, hn, fun i y av e1 e2 e3 => ?_⟩, fun y c e => ?_, I.hok.fresh (Nat.le_refl _), fun y c e => I.freeC y c (cm e).1, fun p hp => ?_, I.hok.kept kp, by rw [wipe_length]; exact I.len⟩
  · obtain ⟨e2, hne⟩ := wipe_some e2
    have hfr : scope.names.lookup y = some .free := by
      have no : ∀ k, scope.names.lookup y = some k → ¬ (k = .local ∨ k = .cell) := fun k e hh => by
        refine (ok.own _ (PySem.mem_of_lookup e) hh).elim (fun mine => ?_) fun other => other (List.mem_of_getElem? e1)
        obtain ⟨p, hp, rfl⟩ := List.mem_map.mp mine
        exact hne (List.mem_map.mpr ⟨p, hp, nodup_ix hN (ok.ix p hp) e1⟩)
      have e3 : Vis scope y := e3
      rcases e3 with e3 | e3 | e3
      · exact absurd (.inl rfl) (no _ e3)
      · exact absurd (.inr rfl) (no _ e3)
      · exact e3
    obtain ⟨m, hn, hl⟩ := I.loc
    have hvis : Vis X.env.scope y := (ok.free _ (PySem.mem_of_lookup hfr) rfl).elim (fun k => .inr (.inl k)) (fun k => .inr (.inr k))
    obtain ⟨w, r, q⟩ := hl i y av e1 e2 hvis
    refine ⟨w, r, .inr ⟨.inr hfr, ?_⟩⟩
    obtain ⟨c, h1, h2⟩ := look hfr
    rcases q with ⟨k, _⟩ | ⟨_, c', e', z⟩
    · have away := ok.free _ (PySem.mem_of_lookup hfr) rfl
      rw [show X.env.scope.names.lookup y = some .local from k] at away
      exact away.elim (fun z => nomatch z) fun z => nomatch z
    · rw [h2] at e'; cases e'
      exact ⟨c, h1, z.keeps kp⟩
  · obtain ⟨w, z⟩ := I.cell y c (cm e).1
    exact ⟨w, z.keeps kp⟩
  · have hp : p ∈ [(a, go)] ++ ([] : List (Addr × Obj)) := hp
    rw [List.append_nil] at hp
    rw [List.mem_singleton.mp hp]
    refine ⟨hgo, I.hok.fresh (Nat.le_of_lt ha), Nat.ne_of_gt ha, fun z => ?_, hgd⟩
    rcases List.mem_cons.mp (I.stkSub a z) with z | z
    · exact absurd (Nat.lt_trans I.lt ha) (by rw [z]; exact Nat.lt_irrefl _)
    · exact I.nofs (Nat.le_of_lt ha) z
end
end Dl
set_option Elab.async false
set_option linter.all false
set_option maxRecDepth 100000
set_option maxHeartbeats 4000000
namespace Dl
open PySem PySem.Spec PyProof.Rows L2 GxR
def gxR (Y : Cx) (σw : L2.St) (st : Bool) (Q : VK) (g0 : Nat) : Nat → Shared → Shared → Prop := fun _ _ s₁ => ∃ H, Inv Y [] σw H s₁ ∧ Q (.bl (!st)) H ∧ g0 < s₁.gens.size
def gxY (Y : Cx) (st : Bool) (Q : VK) (g0 : Nat) : Protocol := fun _ _ v s kap => ∃ (k : Bool) (H : Hp) (pins : List (Addr × Obj)) (σ : L2.St), v = .bool k ∧ Inv Y pins σ H s ∧ g0 < s.gens.size ∧ (if k = st then Q (.bl st) H else ∀ gs, AllBare gs → g0 < gs.size → kap (.send .none) { s with gens := gs })
/-- a turn's reading -/
def gxT (J : It) (g : TG) (tt : TT) (te : TE) (σw : L2.St) (vs : List Nat) (st : Bool) (Q : VK) (W : Nat → Nat → Hp → Prop) : Prop := ∀ i m H, W i m H → (J.stop i H ∧ Q (.bl (!st)) H) ∨ (J.go i H ∧ ∃ Nx : Hp → Prop, (∀ H', Nx H' → ∃ m', m' < m ∧ W (i + 1) m' H') ∧
  ∀ x H', J.yld i H x H' → g x σw H' fun σ2 H2 => wipe σ2 vs = σw ∧ tt σ2 H2 fun b H3 => if b = true then te σ2 H3 fun y H4 => ∃ k : Bool, y = .bl k ∧ (if k = st then Q (.bl st) H4 else Nx H4) else Nx H3)
section
variable {Y : Cx} {elt tg iter : Expr} {ifs : List Expr} {scope : Scope} {pos : Pos} {it : Addr} {fp : List Addr} {tn : Nat → Heap → Prop} {J : It} {g : TG} {tt : TT} {te : TE} {σw : L2.St} {vs : List Nat} {st : Bool} {Q : VK} {W : Nat → Nat → Hp → Prop} {g0 : Nat} {A' : Around}
theorem seg_gx (hA : Y.A = A'.deeper Y.env) (hxe : ∀ e s, Y.xe e s → False) (hc : Y.calm = true) (hco : Y.env.scope.isCoroutine = false) (T : Turn Y.prog Y.w Y.K tg J fp it tn) (pg : PG Y tg g) (pt : PTs Y ifs tt) (pe : PE Y elt te)
    (stat : ∀ (σ' : L2.St) (H' : Hp) (s' : Shared), Inv Y [] σ' H' s' → (∀ b ∈ fp, H' b = none) → ∀ b ∈ fp, FpOk Y [] H' b) (turn : gxT J g tt te σw vs st Q W) :
    ∀ (m n i : Nat) (H : Hp) (s₀ s : Shared), m < n → Inv Y [] σw H s → tn i s.heap → (∀ b ∈ fp, H b = none) → W i m H → g0 < s.gens.size →
      Seg (model Y.prog Y.w) A' (fun n s₀ r s₁ => r = .ok .next ∧ gxR Y σw st Q g0 n s₀ s₁) (gxY Y st Q g0) n s₀ (.compLoop (.GeneratorExp elt [⟨tg, iter, ifs, 0⟩] scope pos) 0 (.ref it) .none Y.env)
        ((model Y.prog Y.w).den (.compLoop (.GeneratorExp elt [⟨tg, iter, ifs, 0⟩] scope pos) 0 (.ref it) .none Y.env)) [] s := by
  intro m
  induction m using Nat.strongRecOn with
  | _ m ih =>
    intro n i H s₀ s hmn I st' hn w hg
    show Seg _ A' _ _ _ s₀ _ ((compTurn (.GeneratorExp elt [⟨tg, iter, ifs, 0⟩] scope pos) 0 (.ref it) .none Y.env).onRaise (leaving Y.env)) [] s
    rw [compTurn_gen, Sem.onRaise_eq_wrap]
    refine seg_bind_wrap (wpAny_standAt ?_)
    rcases turn i m H w with ⟨stop, qq⟩ | ⟨go, Nx, hNx, step⟩
    · refine seg_bind_wrap ?_
      rw [over_gx, ← hA]
      refine GenW.wpAny_gsz (n := g0 + 1) hg (thnF (T.done Y rfl rfl rfl hc i [] s _ H (fun _ _ => False) I (stat _ _ _ I hn) st' stop) fun r s6 ⟨hr, I6⟩ hg6 => ?_)
      subst hr
      exact seg_end (.ok .next) ⟨rfl, H, I6, qq, hg6⟩
    · refine seg_bind_wrap ?_
      rw [over_gx, ← hA]
      refine GenW.wpAny_gsz (n := g0 + 1) hg (thnF (T.item Y rfl rfl rfl hc i [] s _ H (fun _ _ => False) I (stat _ _ _ I hn) st' go) fun r s6 ⟨u, hr, h6⟩ hg6 => ?_)
      subst hr
      refine seg_bind_wrap ?_
      rw [over_gx, ← hA]
      refine GenW.wpAny_gsz (n := g0 + 1) hg6 (thnF h6 fun _ s7 ⟨x, H7, I7, r7, y7, st7, n7⟩ hg7 => ?_)
      have I7' := I7.pinned (stat _ _ _ I7 n7) (T.obj _ _ st7)
      refine seg_bind_wrap ?_
      rw [over_gx, ← hA]
      refine GenW.wpAny_gsz (n := g0 + 1) hg7 (wpAny_mono (pg.run _ s7 _ H7 x u _ I7' r7 (step x H7 y7)) (fun _ s8 ⟨σ8, H8, I8, hw8, q8⟩ hg8 => ?_) fun e s' z => (hxe e s' z).elim)
      refine seg_bind_wrap ?_
      rw [over_gx, ← hA]
      refine GenW.wpAny_gsz (n := g0 + 1) hg8 (wpAny_mono (pt.run _ s8 σ8 H8 _ I8 q8) (fun b s9 ⟨H9, I9, q9⟩ hg9 => ?_) fun e s' z => (hxe e s' z).elim)
      have fin : ∀ {s' : Shared} {H' : Hp} {n' : Nat} {s₀' : Shared}, Inv Y ([] ++ pinsAt fp s7.heap) σ8 H' s' → Nx H' → m ≤ n' → g0 < s'.gens.size → Seg (model Y.prog Y.w) A' (fun n s₀ r s₁ => r = .ok .next ∧ gxR Y σw st Q g0 n s₀ s₁) (gxY Y st Q g0) n' s₀' (.compLoop (.GeneratorExp elt [⟨tg, iter, ifs, 0⟩] scope pos) 0 (.ref it) .none Y.env)
        ((model Y.prog Y.w).den (.compLoop (.GeneratorExp elt [⟨tg, iter, ifs, 0⟩] scope pos) 0 (.ref it) .none Y.env)) [] s' := fun {s' H' n' s₀'} I' nx hmn' hg' => by
        obtain ⟨m', hm, w'⟩ := hNx H' nx
        have pin' : ∀ b ∈ fp, ∀ o, s7.heap.get? b = some o → s'.heap.get? b = some o ∧ H' b = none := fun b hb o eo => by
          have hp := I'.pin (b, o) (List.mem_append_right _ (List.mem_append_right _ (mem_pinsAt hb eo)))
          exact ⟨hp.1, hp.2.1⟩
        have hl : σw.length = σ8.length := by rw [← hw8, wipe_length]
        refine ih m' hm n' (i + 1) H' s₀' s' (by omega) ((I'.unpinned (pins := [])).weak hl (fun j v e => ?_)) (T.keep _ _ _ st7 fun b hb o e => (pin' b hb o e).1) (fun b hb => ?_) w' hg'
        · rw [← hw8] at e
          exact (wipe_some e).1
        · obtain ⟨o, e, _⟩ := T.obj _ _ st7 b hb
          exact (pin' b hb o e).2
      cases b with
      | false =>
        simp only [Bool.false_eq_true, if_false] at q9 ⊢
        exact seg_again rfl (fin I9 q9 (Nat.le_of_lt hmn) hg9)
      | true =>
        simp only [if_true] at q9 ⊢
        obtain ⟨n', rfl⟩ : ∃ n', n = n' + 1 := ⟨n - 1, by omega⟩
        have hy : ∀ v, yieldOut Y.env v = yieldValue v := fun v => by simp only [yieldOut, hco, Bool.false_eq_true, if_false]
        simp only [hy]
        rw [Sem.bind_eq_wrap', Sem.bind_eq_wrap', Sem.wrap_wrap, Sem.wrap_wrap]
        refine seg_wrap ?_
        rw [over_gx, ← hA]
        refine GenW.wpAny_gsz (n := g0 + 1) hg9 (wpAny_mono (pe.run _ s9 σ8 H9 _ I9 q9) (fun z s10 ⟨yv, H10, I10, r10, k, ey, qk⟩ hg10 => ?_) fun e s' z => (hxe e s' z).elim)
        subst ey
        have ez : z = .bool k := r10
        subst ez
        refine seg_at (seg_yield rfl rfl rfl ⟨k, H10, _, _, rfl, I10, hg10, ?_⟩)
        by_cases hk : k = st
        · rw [if_pos hk] at qk ⊢
          exact qk
        · rw [if_neg hk] at qk ⊢
          intro gs hb hgs
          exact seg_again rfl (fin (inv_gens I10 hb) qk (by omega) hgs)
theorem seg_gs (hA : Y.A = A'.deeper Y.env) (hxe : ∀ e s, Y.xe e s → False) (hc : Y.calm = true) (hco : Y.env.scope.isCoroutine = false) (T : Turn Y.prog Y.w Y.K tg J fp it tn) (pg : PG Y tg g) (pt : PTs Y ifs tt) (pe : PE Y elt te)
    (stat : ∀ (σ' : L2.St) (H' : Hp) (s' : Shared), Inv Y [] σ' H' s' → (∀ b ∈ fp, H' b = none) → ∀ b ∈ fp, FpOk Y [] H' b) (turn : gxT J g tt te σw vs st Q W)
    (m : Nat) (H : Hp) (s₀ s : Shared) (I : Inv Y [] σw H s) (st' : tn 0 s.heap) (hn : ∀ b ∈ fp, H b = none) (w : W 0 m H) (hg : g0 < s.gens.size) :
      Seg (model Y.prog Y.w) A' (fun n s₀ r s₁ => r = .ok .next ∧ gxR Y σw st Q g0 n s₀ s₁) (gxY Y st Q g0) (m + 1) s₀ (.compStart (.GeneratorExp elt [⟨tg, iter, ifs, 0⟩] scope pos) 0 (.ref it) .none Y.env)
        ((model Y.prog Y.w).den (.compStart (.GeneratorExp elt [⟨tg, iter, ifs, 0⟩] scope pos) 0 (.ref it) .none Y.env)) [] s := by
  have loop := seg_gx (iter := iter) (scope := scope) (pos := pos) (g0 := g0) hA hxe hc hco T pg pt pe stat turn m (m + 1) 0 H s₀ s (Nat.lt_succ_self m) I st' hn w hg
  show Seg _ A' _ _ _ s₀ _ ((compStart (.GeneratorExp elt [⟨tg, iter, ifs, 0⟩] scope pos) 0 (.ref it) .none Y.env).onRaise (leaving Y.env)) [] s
  unfold compStart
  rw [Sem.onRaise_eq_wrap]
  show Seg _ A' _ _ _ s₀ _ ((ask >>= _).wrap _ _ _ _) [] s
  refine seg_bind_wrap (wpAny_askSetting ?_)
  split
  · exact seg_again rfl loop
  · first
      | exact seg_bind_wrap (wpAny_rule (seg_bind_wrap (wpAny_standAt (seg_bind_wrap (T.self _ 0 s _ _ st' (seg_again rfl loop))))))
      | (refine seg_bind_wrap (wpAny_rule ?_); show Seg _ A' _ _ _ s₀ _ ((standAt iter.pos >>= _).wrap _ _ _ _) [] s; exact seg_bind_wrap (wpAny_standAt (seg_bind_wrap (T.self _ 0 s _ _ st' (seg_again rfl loop)))))
end
end Dl
set_option Elab.async false
set_option linter.all false
set_option maxRecDepth 100000
set_option maxHeartbeats 4000000
namespace Dl
open PySem PySem.Spec PyProof.Rows L2 GxR
section
variable {Y : Cx} {σw : L2.St} {Q : VK} {g0 : Nat} {A : Around} {a : Addr} {go : Obj} {R : Result → Shared → Prop}
theorem gx_all (hh : A.handled = none) (hroom : A.depth < recursionLimit) (hp : (a, go) ∈ Y.pn) (hgen : ∀ h : Heap, h.get? a = some go → h.IsGen a g0)
    (hE : ∀ H s₁ h', Inv Y [] σw H s₁ → Q (.bl true) H → (∀ b o, s₁.heap.get? b = some o → h'.get? b = some o) → R (.ok (.ret (.bool true))) { s₁.setGen g0 .finished with heap := h' })
    (hS : ∀ H pins σ s₁ gs', gs'.bare = true → Inv Y pins σ H s₁ → Q (.bl false) H → R (.ok (.ret (.bool false))) (s₁.setGen g0 gs')) :
    ∀ (n : Nat) (s : Shared) (gs : GenState) (H : Hp) (pins : List (Addr × Obj)) (σ : L2.St), Inv Y pins σ H s → s.gens[g0]? = some gs →
      gs.Goes (model Y.prog Y.w) A.in1.in1 (fun n s₀ r s₁ => r = .ok .next ∧ gxR Y σw false Q g0 n s₀ s₁) (gxY Y false Q g0) n (.send .none) (s.setGen g0 .running) →
      codeAny (model Y.prog Y.w) A (.builtin "all.loop" ⟨[.ref a], []⟩) R s := by
  intro n
  induction n with
  | zero =>
    intro s gs H pins σ I hgs hgo
    refine codeAny_builtin F.entry_all_loop ?_
    rw [Around.under_plainId F.plain_all_loop _]
    show wpAny _ A.in1 (pyNext (.ref a) >>= _) _ _ s
    refine wpAny_bind (wpAny_pyNext_genexpQ (P := gxR Y σw false Q g0) hh I.nolimit hroom (hgen _ (I.pin (a, go) (List.mem_append_left _ hp)).1) hgs hgo (fun v s₁ gs' hb hv => ?_) (fun s₁ hp h' hk => ?_))
    · obtain ⟨k, H', pins', σ', rfl, I', hg', q⟩ := hv
      refine wpAny_bind (wpAny_holding (wpAny_truthy_bool (wpAny_bind (wpAny_letGo ?_))))
      cases k with
      | true =>
        rw [if_neg (by decide)] at q
        exact (q s₁.gens I'.bare hg').elim
      | false =>
        rw [if_pos rfl] at q
        simp only [Bool.false_eq_true, if_false]
        refine wpAny_bind (wpAny_rule (wpAny_pure ?_))
        exact hS H' pins' σ' s₁ gs' hb I' q
    · obtain ⟨H', I', qq, hg'⟩ := hp
      refine wpAny_bind (wpAny_rule (wpAny_pure ?_))
      exact hE H' s₁ h' I' qq hk
  | succ n ih =>
    intro s gs H pins σ I hgs hgo
    refine codeAny_builtin F.entry_all_loop ?_
    rw [Around.under_plainId F.plain_all_loop _]
    show wpAny _ A.in1 (pyNext (.ref a) >>= _) _ _ s
    refine wpAny_bind (wpAny_pyNext_genexpQ (P := gxR Y σw false Q g0) hh I.nolimit hroom (hgen _ (I.pin (a, go) (List.mem_append_left _ hp)).1) hgs hgo (fun v s₁ gs' hb hv => ?_) (fun s₁ hp h' hk => ?_))
    · obtain ⟨k, H', pins', σ', rfl, I', hg', q⟩ := hv
      refine wpAny_bind (wpAny_holding (wpAny_truthy_bool (wpAny_bind (wpAny_letGo ?_))))
      cases k with
      | true =>
        rw [if_neg (by decide)] at q
        simp only [if_true]
        refine wpAny_pure ⟨plainId_quiet F.plain_all_loop _, ih (s₁.setGen g0 gs') gs' H' pins' σ' (inv_gens I' (bare_set I'.bare hb)) ?_ (q _ (bare_set (bare_set I'.bare hb) rfl) ?_)⟩
        · simp [Shared.setGen, hg']
        · simpa [Shared.setGen] using hg'
      | false =>
        rw [if_pos rfl] at q
        simp only [Bool.false_eq_true, if_false]
        refine wpAny_bind (wpAny_rule (wpAny_pure ?_))
        exact hS H' pins' σ' s₁ gs' hb I' q
    · obtain ⟨H', I', qq, hg'⟩ := hp
      refine wpAny_bind (wpAny_rule (wpAny_pure ?_))
      exact hE H' s₁ h' I' qq hk
theorem gx_any (hh : A.handled = none) (hroom : A.depth < recursionLimit) (hp : (a, go) ∈ Y.pn) (hgen : ∀ h : Heap, h.get? a = some go → h.IsGen a g0)
    (hE : ∀ H s₁ h', Inv Y [] σw H s₁ → Q (.bl false) H → (∀ b o, s₁.heap.get? b = some o → h'.get? b = some o) → R (.ok (.ret (.bool false))) { s₁.setGen g0 .finished with heap := h' })
    (hS : ∀ H pins σ s₁ gs', gs'.bare = true → Inv Y pins σ H s₁ → Q (.bl true) H → R (.ok (.ret (.bool true))) (s₁.setGen g0 gs')) :
    ∀ (n : Nat) (s : Shared) (gs : GenState) (H : Hp) (pins : List (Addr × Obj)) (σ : L2.St), Inv Y pins σ H s → s.gens[g0]? = some gs →
      gs.Goes (model Y.prog Y.w) A.in1.in1 (fun n s₀ r s₁ => r = .ok .next ∧ gxR Y σw true Q g0 n s₀ s₁) (gxY Y true Q g0) n (.send .none) (s.setGen g0 .running) →
      codeAny (model Y.prog Y.w) A (.builtin "any.loop" ⟨[.ref a], []⟩) R s := by
  intro n
  induction n with
  | zero =>
    intro s gs H pins σ I hgs hgo
    refine codeAny_builtin F.entry_any_loop ?_
    rw [Around.under_plainId F.plain_any_loop _]
    show wpAny _ A.in1 (pyNext (.ref a) >>= _) _ _ s
    refine wpAny_bind (wpAny_pyNext_genexpQ (P := gxR Y σw true Q g0) hh I.nolimit hroom (hgen _ (I.pin (a, go) (List.mem_append_left _ hp)).1) hgs hgo (fun v s₁ gs' hb hv => ?_) (fun s₁ hp h' hk => ?_))
    · obtain ⟨k, H', pins', σ', rfl, I', hg', q⟩ := hv
      refine wpAny_bind (wpAny_holding (wpAny_truthy_bool (wpAny_bind (wpAny_letGo ?_))))
      cases k with
      | false =>
        rw [if_neg (by decide)] at q
        exact (q s₁.gens I'.bare hg').elim
      | true =>
        rw [if_pos rfl] at q
        simp only [if_true]
        refine wpAny_bind (wpAny_rule (wpAny_pure ?_))
        exact hS H' pins' σ' s₁ gs' hb I' q
    · obtain ⟨H', I', qq, hg'⟩ := hp
      refine wpAny_bind (wpAny_rule (wpAny_pure ?_))
      exact hE H' s₁ h' I' qq hk
  | succ n ih =>
    intro s gs H pins σ I hgs hgo
    refine codeAny_builtin F.entry_any_loop ?_
    rw [Around.under_plainId F.plain_any_loop _]
    show wpAny _ A.in1 (pyNext (.ref a) >>= _) _ _ s
    refine wpAny_bind (wpAny_pyNext_genexpQ (P := gxR Y σw true Q g0) hh I.nolimit hroom (hgen _ (I.pin (a, go) (List.mem_append_left _ hp)).1) hgs hgo (fun v s₁ gs' hb hv => ?_) (fun s₁ hp h' hk => ?_))
    · obtain ⟨k, H', pins', σ', rfl, I', hg', q⟩ := hv
      refine wpAny_bind (wpAny_holding (wpAny_truthy_bool (wpAny_bind (wpAny_letGo ?_))))
      cases k with
      | false =>
        rw [if_neg (by decide)] at q
        simp only [Bool.false_eq_true, if_false]
        refine wpAny_pure ⟨plainId_quiet F.plain_any_loop _, ih (s₁.setGen g0 gs') gs' H' pins' σ' (inv_gens I' (bare_set I'.bare hb)) ?_ (q _ (bare_set (bare_set I'.bare hb) rfl) ?_)⟩
        · simp [Shared.setGen, hg']
        · simpa [Shared.setGen] using hg'
      | true =>
        rw [if_pos rfl] at q
        simp only [if_true]
        refine wpAny_bind (wpAny_rule (wpAny_pure ?_))
        exact hS H' pins' σ' s₁ gs' hb I' q
    · obtain ⟨H', I', qq, hg'⟩ := hp
      refine wpAny_bind (wpAny_rule (wpAny_pure ?_))
      exact hE H' s₁ h' I' qq hk
end
/-- all (st = false), any (st = true) -/
def tGx (st : Bool) (P : Addr) (wi : TI) (g : TG) (tt : TT) (te : TE) (vs : List Nat) : TE := fun σ H Q => wi σ H fun J H1 => TabG H1 P ∧ ∀ H2, Tabbed P H1 H2 → ∃ W : Nat → Nat → Hp → Prop, (∃ m, W 0 m H2) ∧ gxT J g tt te (wipe σ vs) vs st Q W
section
variable {X : Cx} {pins : List (Addr × Obj)} {σ : L2.St} {H : Hp} {s : Shared} {Q : VK} {c P : Addr} {elt tg iter : Expr} {ifs : List Expr} {scope : Scope} {gp : Pos} {own : List (Str × Nat)} {wi : TI} {g : TG} {tt : TT} {te : TE} {st : Bool}
theorem gx_core {Q' : Value → Shared → Prop} (hd : X.A.handled = none) (hroom : X.A.depth < recursionLimit) (hc : X.calm = true) (hN : X.N.Nodup) (TB : TabB X.base X.mg c P) (hcode : X.env.code = .ref c) (ok : BlkOk X.N X.env.scope scope own) (co : scope.isCoroutine = false)
    (hcell : ∀ y ∈ scope.names, y.2 ≠ .cell) (dot : scope.names.lookup (".0" : Str) = some NameKind.local) (hi : PI X tg iter wi)
    (hg : ∀ (s : Shared) (H : Hp) (C : Addr) (cv : Value) (fp : List Addr) (pn : List (Addr × Obj)), PG (gxC X s H scope C cv fp pn) tg g) (ht : ∀ (s : Shared) (H : Hp) (C : Addr) (cv : Value) (fp : List Addr) (pn : List (Addr × Obj)), PTs (gxC X s H scope C cv fp pn) ifs tt)
    (he : ∀ (s : Shared) (H : Hp) (C : Addr) (cv : Value) (fp : List Addr) (pn : List (Addr × Obj)), PE (gxC X s H scope C cv fp pn) elt te) (hs : ∀ v, genFold iter X.env v = pure v) (I : Inv X pins σ H s) (h : tGx st P wi g tt te (own.map (·.2)) σ H Q)
    (hQ : ∀ (s4 : Shared) (H2 : Hp) (cv : Value) (fp : List Addr) (a : Addr) (go : Obj) (g0 : Nat) (s5 : Shared) (gs : GenState) (n : Nat), Inv X pins σ H2 s4 → (∀ b ∈ fp, FpOk X pins H2 b) → (∀ h : Heap, h.get? a = some go → h.IsGen a g0) →
      Inv (gxC X s4 H2 scope s4.heap.objs.size cv fp [(a, go)]) [] (wipe σ (own.map (·.2))) H2 s5 → s5.gens[g0]? = some gs →
      gs.Goes (model X.prog X.w) X.A.in1.in1 (fun n s₀ r s₁ => r = .ok .next ∧ gxR (gxC X s4 H2 scope s4.heap.objs.size cv fp [(a, go)]) (wipe σ (own.map (·.2))) st Q g0 n s₀ s₁) (gxY (gxC X s4 H2 scope s4.heap.objs.size cv fp [(a, go)]) st Q g0) n (.send .none) (s5.setGen g0 .running) → Q' (.ref a) s5) :
    wpAny (model X.prog X.w) X.A (eval (.GeneratorExp elt [⟨tg, iter, ifs, 0⟩] scope gp) X.env) Q' X.xe s := by
  have hfree := blk_free I ok
  refine wpAny_GeneratorExp_make co (closure_ok fun y hy e => hfree y hy e) hcell dot ok.kind hroom (thn (hi.run pins s σ H _ I h) fun xv s1 hx => thn hx fun itv s2 h2 => ?_) hs
  obtain ⟨it, fp, tn, J, H2, e, I2, T, st2, f2, ⟨tb, hP, ht'⟩, q⟩ := h2
  subst e
  refine ⟨I2.nolimit, ?_⟩
  have atP : s2.heap.get? P = some { cls := .none, data := .fields tb } := I2.hok P _ hP
  have cd : PySem.W.CodeHd s2.heap c P := TB.code.keeps I2.bk
  have main : ∀ (cv : Value) (h3 : Heap) (tk : Nat) (tb' : Array Value), Heap.ExtBut P s2.heap h3 → s2.heap.objs.size ≤ h3.objs.size → h3.get? P = some { cls := .none, data := .fields tb' } → (∃ more, tb' = tb ++ more) → TriplesOk tb'.toList →
      wpAny (model X.prog X.w) X.A (builtinsFor X.env.globals X.env.builtins) (fun bi s4 => ∀ h', h'.Ns s4.heap.objs.size (fun y => if y = ".0" then some (.ref it) else none) → Heap.SameBut s4.heap.objs.size (s4.heap.push { cls := .type "frame", data := .dict #[] }) h' →
          Q' (.ref h'.objs.size) { s4 with
            gens := s4.gens.push (.fresh (.compStart (.GeneratorExp elt [⟨tg, iter, ifs, 0⟩] scope gp) 0 (.ref it) .none (genEnv scope (cloFrom X.env.cells scope.names []) s4.heap.objs.size cv bi X.env))),
            toks := s4.toks + 1 + 1 + 1,
            heap := h'.push { cls := .type "generator", data := .fields #[.int s4.gens.size 0, .str "<genexpr>" (s4.toks + 1), .str (X.env.qual ++ "<genexpr>") (s4.toks + 1 + 1)] } }) X.xe { s2 with heap := h3, toks := tk } := by
    rintro cv h3 tk tb' hx hsz hP3 ⟨more, rfl⟩ ht3
    have I3 : Inv X pins σ (upd H2 P (.tbl (tb ++ more))) { s2 with heap := h3, toks := tk } := inv_tab (g' := s2.gens) (d' := s2.drawn) I2 hP (fun b o nb e => hx b o nb e) hP3 I2.bare
    obtain ⟨W, ⟨m0, w0⟩, turn⟩ := q _ ⟨⟨tb ++ more, upd_same, ht3⟩, fun b hb => upd_ne hb⟩
    obtain ⟨bm, _, b1, b2, _, _, b5, b6, b7, b8⟩ := TB.bm
    have nfp : ∀ b ∈ fp, b ≠ P := fun b hb z => by
      have := (f2 b hb).1
      rw [z, hP] at this
      cases this
    have f3 : ∀ b ∈ fp, FpOk X pins (upd H2 P (.tbl (tb ++ more))) b := fun b hb => ⟨by rw [upd_ne (nfp b hb)]; exact (f2 b hb).1, (f2 b hb).2⟩
    have sz : ∀ b ∈ fp, b < h3.objs.size := fun b hb => by
      obtain ⟨o, e, _⟩ := T.obj _ _ st2 b hb
      exact Nat.lt_of_lt_of_le (Heap.lt_size e) hsz
    have st3 : tn 0 h3 := T.keep _ _ _ st2 fun b hb o e => hx b o (nfp b hb) e
    refine wpAny_builtinsFor (m := X.mg) (by rw [I3.ok.glob]; exact I3.mod.glob.keeps I3.bk) b1 b2 (I3.bk _ _ b5) b6 b7 b8 ?_
    generalize hs4 : ({ s2 with heap := h3, toks := tk } : Shared) = s4 at I3 ⊢
    have e43 : s4.heap = h3 := by rw [← hs4]
    intro h' hn' hs'
    generalize hH3 : upd H2 P (.tbl (tb ++ more)) = H3 at I3 w0 f3
    have hsz' : h'.objs.size = s4.heap.objs.size + 1 := by rw [hs'.1, Heap.size_push]
    have keep' : ∀ b o, s4.heap.get? b = some o → h'.get? b = some o := fun b o e => hs'.extBut b o (Nat.ne_of_lt (Heap.lt_size e)) (Heap.get?_push_of_some _ e)
    generalize hgo : ({ cls := .type "generator", data := .fields #[.int s4.gens.size 0, .str "<genexpr>" (s4.toks + 1), .str (X.env.qual ++ "<genexpr>") (s4.toks + 1 + 1)] } : Obj) = go
    have hgen : ∀ h : Heap, h.get? h'.objs.size = some go → h.IsGen h'.objs.size s4.gens.size := fun h e => by
      rw [← hgo] at e
      exact ⟨_, _, _, e, rfl, rfl, rfl⟩
    have hgd : ∀ v, go.data ≠ .cell v := fun v z => by rw [← hgo] at z; cases z
    have hga : (h'.push go).get? h'.objs.size = some go := by rw [← hgo]; exact Heap.get?_push_size _ rfl
    have kp : ∀ b o, s4.heap.get? b = some o → (h'.push go).get? b = some o := fun b o e => Heap.get?_push_of_some _ (keep' b o e)
    have f4 : ∀ b ∈ fp, FpOk X pins H3 b ∧ b < s4.heap.objs.size := fun b hb => ⟨f3 b hb, by rw [e43]; exact sz b hb⟩
    generalize hgs : GenState.fresh (.compStart (.GeneratorExp elt [⟨tg, iter, ifs, 0⟩] scope gp) 0 (.ref it) .none (genEnv scope (cloFrom X.env.cells scope.names []) s4.heap.objs.size cv builtinsNs X.env)) = gs
    have hbare : gs.bare = true := by rw [← hgs]; rfl
    have I5 := gen_start (tk := s4.toks + 1 + 1 + 1) (gs := s4.gens.push gs) (cv := cv) I3 ok hcell hN f4 (hn'.push go) kp (I3.bare.push hbare) (by rw [hsz']; exact Nat.lt_succ_self _) hga hgd
    refine hQ s4 H3 cv fp h'.objs.size go s4.gens.size _ gs (m0 + 1) I3 f3 hgen I5 (Array.getElem?_push_size ..) ?_
    subst hgs
    refine ⟨rfl, ?_⟩
    have stat : ∀ (σ' : L2.St) (H' : Hp) (s' : Shared), Inv (gxC X s4 H3 scope s4.heap.objs.size cv fp [(h'.objs.size, go)]) [] σ' H' s' → (∀ b ∈ fp, H' b = none) → ∀ b ∈ fp, FpOk (gxC X s4 H3 scope s4.heap.objs.size cv fp [(h'.objs.size, go)]) [] H' b := fun σ' H' s' I' hn b hb =>
      ⟨hn b hb, (I'.ok.exf b hb).1, I'.ok.exfs b hb, .inl hb, fun x c e => (I'.ok.exf b hb).2 x c e, fun p hp => by
        have hp : p ∈ [(h'.objs.size, go)] ++ ([] : List (Addr × Obj)) := hp
        rw [List.append_nil] at hp
        rw [List.mem_singleton.mp hp]
        have := (f4 b hb).2
        exact Nat.ne_of_gt (by rw [hsz']; exact Nat.lt_succ_of_lt this)⟩
    have h5 : tn 0 (h'.push go) := T.keep _ _ _ st3 fun b hb o e => kp b o (by rw [e43]; exact e)
    exact seg_gs (Y := gxC X s4 H3 scope s4.heap.objs.size cv fp [(h'.objs.size, go)]) (A' := X.A.in1.in1) (st := st) (Q := Q) (W := W) (vs := own.map (·.2)) rfl (fun _ _ z => z) hc co T (hg ..) (ht ..) (he ..) stat turn m0 H3 _ _ (inv_gens I5 (bare_set I5.bare rfl)) h5 (fun b hb => (f3 b hb).1) w0 (by
      show s4.gens.size < ((s4.gens.push _).setIfInBounds _ _).size
      simp)
  cases hf : codeAmong gp tb.toList with
  | none =>
    refine wpAny_genexprCodeX hcode (cd.code atP ht') (cd.tab atP) hf fun c9 h9 tk hx hge hlt hco _ htab _ => ?_
    obtain ⟨o1, vs, f1, tf, fl, tg, inF, tx, tt, op, _, _, _, _, _, _, _, _, _, htr, _⟩ := hco
    exact main _ h9 tk _ hx (Nat.le_trans hge (Nat.le_of_lt hlt)) htab.2 ⟨_, rfl⟩ htr
  | some cv => exact wpAny_genexprCode_hit hcode (cd.code atP ht') hf (main cv s2.heap s2.toks tb (Heap.ExtBut.refl _ _) (Nat.le_refl _) atP ⟨#[], by simp⟩ ht')
end
end Dl
set_option Elab.async false
set_option linter.all false
set_option maxRecDepth 100000
set_option maxHeartbeats 4000000
namespace Dl
open PySem PySem.Spec PyProof.Rows L2 GxR
section
variable {X : Cx} {c P : Addr} {elt tg iter : Expr} {ifs : List Expr} {scope : Scope} {p gp pos : Pos} {own : List (Str × Nat)} {wi : TI} {g : TG} {tt : TT} {te : TE} {k : Nat}
theorem gx_back {pins : List (Addr × Obj)} {σ σ' : L2.St} {H2 H' : Hp} {s4 s1 : Shared} {cv : Value} {fp : List Addr} {pn pins' : List (Addr × Obj)} (I4 : Inv X pins σ H2 s4) (f4 : ∀ b ∈ fp, FpOk X pins H2 b) (I : Inv (gxC X s4 H2 scope s4.heap.objs.size cv fp pn) pins' σ' H' s1) : Inv X pins σ H' s1 :=
  I4.call' (ch := fp) I.os I.base I.hok I.bare fun b hb => ⟨(f4 b hb).2.2.2.1, (f4 b hb).2.1, (f4 b hb).2.2.2.2.1, (f4 b hb).2.2.2.2.2⟩
theorem pe_all (hr : Room k X.A) (hgl : Gl X "all") (hm : X.mg "all" = none) (hc : X.calm = true) (hN : X.N.Nodup) (TB : TabB X.base X.mg c P) (hcode : X.env.code = .ref c) (ok : BlkOk X.N X.env.scope scope own) (co : scope.isCoroutine = false)
    (hcell : ∀ y ∈ scope.names, y.2 ≠ .cell) (dot : scope.names.lookup (".0" : Str) = some NameKind.local) (hi : PI X tg iter wi)
    (hg : ∀ (s : Shared) (H : Hp) (C : Addr) (cv : Value) (fp : List Addr) (pn : List (Addr × Obj)), PG (gxC X s H scope C cv fp pn) tg g) (ht : ∀ (s : Shared) (H : Hp) (C : Addr) (cv : Value) (fp : List Addr) (pn : List (Addr × Obj)), PTs (gxC X s H scope C cv fp pn) ifs tt)
    (he : ∀ (s : Shared) (H : Hp) (C : Addr) (cv : Value) (fp : List Addr) (pn : List (Addr × Obj)), PE (gxC X s H scope C cv fp pn) elt te) (hs : ∀ v, genFold iter X.env v = pure v := by intro _; rfl)
    (hse : starEach [.GeneratorExp elt [⟨tg, iter, ifs, 0⟩] scope gp] X.env = (false, eval (.GeneratorExp elt [⟨tg, iter, ifs, 0⟩] scope gp) X.env) :: starEach [] X.env := by rfl) :
    PE X (.Call (.Name "all" p) [.GeneratorExp elt [⟨tg, iter, ifs, 0⟩] scope gp] [] pos) (tGx false P wi g tt te (own.map (·.2))) := by
  have hbb : bootBuiltins "all" = some (.builtin "all") := by decide +kernel
  refine ⟨fun pins s σ H Q I h => wpAny_Call_Name_kw (ld_blt I hgl hm hbb (PyProof.Rows.callWith_builtin1 ?_ hse (by rfl)))⟩
  rw [hse] -- all
  show wpAny _ _ (spliced ((false, eval (.GeneratorExp elt [⟨tg, iter, ifs, 0⟩] scope gp) X.env) :: backTo pos (starEach [] X.env))) _ _ s
  have hroom : X.A.depth < recursionLimit := by have := hr.dp; omega
  refine Calls.spliced_cons (gx_core hr.hd hroom hc hN TB hcode ok co hcell dot hi hg ht he hs I h fun s4 H2 cv fp a go g0 s5 gs n I4 f4 hgen I5 hgs hgo => Calls.spliced_nil ?_)
  refine call_function_tree F.kind_all F.plain_all F.entry_all (F.args_all1 _) ?_
  unfold Builtin.«all»
  refine wpAny_bind (m := oneArg "all" _) (wpAny_pure ?_)
  refine wpAny_bind (wpAny_pyIter_gen (hgen _ (I5.pin (a, go) (by simp)).1) ?_)
  refine wpAny_pure ⟨plainId_quiet F.plain_all_loop _, gx_all (Y := gxC X s4 H2 scope s4.heap.objs.size cv fp [(a, go)]) (go := go) (Q := Q) (σw := wipe σ (own.map (·.2))) hr.hd hroom (by simp) hgen (fun H' s1 h' I1 q hk => ?_) (fun H' pins' σ' s1 gs' hb I1 q => ?_) n s5 gs H2 _ _ I5 hgs hgo⟩
  · exact ⟨.bl true, H', inv_gens ((gx_back I4 f4 I1).kept (t' := s1.toks) hk) (bare_set I1.bare rfl), rfl, q⟩
  · exact ⟨.bl false, H', inv_gens (gx_back I4 f4 I1) (bare_set I1.bare hb), rfl, q⟩
theorem pe_any (hr : Room k X.A) (hgl : Gl X "any") (hm : X.mg "any" = none) (hc : X.calm = true) (hN : X.N.Nodup) (TB : TabB X.base X.mg c P) (hcode : X.env.code = .ref c) (ok : BlkOk X.N X.env.scope scope own) (co : scope.isCoroutine = false)
    (hcell : ∀ y ∈ scope.names, y.2 ≠ .cell) (dot : scope.names.lookup (".0" : Str) = some NameKind.local) (hi : PI X tg iter wi)
    (hg : ∀ (s : Shared) (H : Hp) (C : Addr) (cv : Value) (fp : List Addr) (pn : List (Addr × Obj)), PG (gxC X s H scope C cv fp pn) tg g) (ht : ∀ (s : Shared) (H : Hp) (C : Addr) (cv : Value) (fp : List Addr) (pn : List (Addr × Obj)), PTs (gxC X s H scope C cv fp pn) ifs tt)
    (he : ∀ (s : Shared) (H : Hp) (C : Addr) (cv : Value) (fp : List Addr) (pn : List (Addr × Obj)), PE (gxC X s H scope C cv fp pn) elt te) (hs : ∀ v, genFold iter X.env v = pure v := by intro _; rfl)
    (hse : starEach [.GeneratorExp elt [⟨tg, iter, ifs, 0⟩] scope gp] X.env = (false, eval (.GeneratorExp elt [⟨tg, iter, ifs, 0⟩] scope gp) X.env) :: starEach [] X.env := by rfl) :
    PE X (.Call (.Name "any" p) [.GeneratorExp elt [⟨tg, iter, ifs, 0⟩] scope gp] [] pos) (tGx true P wi g tt te (own.map (·.2))) := by
  have hbb : bootBuiltins "any" = some (.builtin "any") := by decide +kernel
  refine ⟨fun pins s σ H Q I h => wpAny_Call_Name_kw (ld_blt I hgl hm hbb (PyProof.Rows.callWith_builtin1 ?_ hse (by rfl)))⟩
  rw [hse] -- any
  show wpAny _ _ (spliced ((false, eval (.GeneratorExp elt [⟨tg, iter, ifs, 0⟩] scope gp) X.env) :: backTo pos (starEach [] X.env))) _ _ s
  have hroom : X.A.depth < recursionLimit := by have := hr.dp; omega
  refine Calls.spliced_cons (gx_core hr.hd hroom hc hN TB hcode ok co hcell dot hi hg ht he hs I h fun s4 H2 cv fp a go g0 s5 gs n I4 f4 hgen I5 hgs hgo => Calls.spliced_nil ?_)
  refine call_function_tree F.kind_any F.plain_any F.entry_any (F.args_any1 _) ?_
  unfold Builtin.«any»
  refine wpAny_bind (m := oneArg "any" _) (wpAny_pure ?_)
  refine wpAny_bind (wpAny_pyIter_gen (hgen _ (I5.pin (a, go) (by simp)).1) ?_)
  refine wpAny_pure ⟨plainId_quiet F.plain_any_loop _, gx_any (Y := gxC X s4 H2 scope s4.heap.objs.size cv fp [(a, go)]) (go := go) (Q := Q) (σw := wipe σ (own.map (·.2))) hr.hd hroom (by simp) hgen (fun H' s1 h' I1 q hk => ?_) (fun H' pins' σ' s1 gs' hb I1 q => ?_) n s5 gs H2 _ _ I5 hgs hgo⟩
  · exact ⟨.bl false, H', inv_gens ((gx_back I4 f4 I1).kept (t' := s1.toks) hk) (bare_set I1.bare rfl), rfl, q⟩
  · exact ⟨.bl true, H', inv_gens (gx_back I4 f4 I1) (bare_set I1.bare hb), rfl, q⟩
/-- room for what the element calls -/
theorem Room_gx {k : Nat} {scope : Scope} {C : Addr} {cv : Value} (hr : Room (k + 1) X.A) : Room k (X.A.in1.in1.deeper (gxE X scope C cv)) :=
  ⟨hr.hd, by have := hr.dp; show X.A.depth + 1 + 3 * k + 5 < _; omega, by have := hr.un; show X.A.units + 1 + 1 + 3 + 16 * k + 200 < _; omega⟩
end
/-! ### on data -/
/-- the table of code objects at P is among what is shared -/
structure ZTab {S : Type} (Z : Zk S) (P : Addr) : Prop where
  m : Z.M P
  tab : ∀ H s, Z.R H s → TabG H P
  put : ∀ H H' s, Z.R H s → Tabbed P H H' → Z.R H' s
section
variable {S : Type}
/-- all (st = false), any (st = true) -/
def quF (st : Bool) (t : Tg) (q : Et S) (f : Ev S) (ρ : Rho) : List D → S → Option (Bool × S)
  | [], s => some (!st, s)
  | d :: ds, s => match t d ρ with
    | none => none
    | some ρ1 => bnd (q ρ1 s) fun b s => if b = true then bnd (f ρ1 s) fun y s => bnd (put (asB y) s) fun k s => if k = st then some (st, s) else quF st t q f ρ ds s else quF st t q f ρ ds s
def cQu (st : Bool) (fi : Ea S) (t : Tg) (q : Et S) (f : Ev S) (vs : List Nat) : Ev S := fun ρ s => bnd (fi ρ s) fun ds s => bnd (quF st t q f (wipeR ρ vs) ds s) fun b s => some (.bool b, s)
variable {X : Cx} {G : Kx} {Z : Zk S} {W : List Nat} {f : Ev S}
theorem tabbed_fr {M : Bar} {P : Addr} {H H' : Hp} (h : Tabbed P H H') (m : M P) : Lc.Fr M H H' := fun b o e => by
  by_cases hb : b = P
  · subst hb
    obtain ⟨ps, q, _⟩ := h.1
    exact ⟨_, q, fun z => absurd m z⟩
  · exact ⟨o, (h.2 b hb).trans e, fun _ => rfl⟩
theorem qu_at {P : Addr} (zt : ZTab Z P) {fi : Ea S} {t : Tg} {us vs : List Nat} {q : Et S} {tt : TT} {st : Bool} {σ : L2.St} {H : Hp} {Q : VK} (hu : ∀ i ∈ us, i ∈ vs) (hq : ∀ σ H Q, tEt G Z W q σ H Q → tt σ H Q)
    (h : tEx G Z W (cQu st fi t q f vs) σ H Q) : tGx st P (tIt G Z W fi) (tTg G Z W us t) tt (tEx G Z W f) vs σ H Q := by
  obtain ⟨B, O, ρ, s, d, s', eo, hR, hf, hQ⟩ := h
  unfold cQu at hf
  obtain ⟨xs, s1, h1, hf⟩ := bnd_some hf
  obtain ⟨b, s2, h2, hf⟩ := bnd_some hf
  cases hf
  refine ⟨B, O, ρ, s, xs, s1, eo, hR, h1, fun J H1 f1 wk R1 => ⟨zt.tab _ _ R1, fun H2 tb => ?_⟩⟩
  obtain ⟨Gd, Y, w, k⟩ := wk
  have fT : Lc.Fr Z.M H1 H2 := tabbed_fr tb zt.m
  have R2 := zt.put _ _ _ R1 tb
  have eo2 := (eo.fr f1).fr fT
  have st0 : ∀ {H3 : Hp}, Lc.Fr Z.M H1 H3 → ∀ a o, H1 a = some o → ¬ (B a ∨ O a) → H3 a = some o ∧ ¬ (B a ∨ O a) := fun f2 a o e n => ⟨f2.at e fun z => n (.inl (eo.mb a z)), n⟩
  have dm : ∀ {H3 : Hp}, Eo G Z W B O H3 σ ρ → ∀ a, (B a ∨ O a) → H3 a ≠ none := fun e2 a z => z.elim (e2.bd a) (e2.od a)
  refine ⟨fun i m H3 => m = xs.length - i ∧ i ≤ xs.length ∧ ∃ s3, Eo G Z W B O H3 σ ρ ∧ Lc.Fr Z.M H1 H3 ∧ Z.R H3 s3 ∧ quF st t q f (wipeR ρ vs) (xs.drop i) s3 = some (b, s'), ⟨_, rfl, Nat.zero_le _, s1, eo2, fT, R2, h2⟩, ?_⟩
  rintro i m H3 ⟨rfl, hi, s3, eo3, f3, R3, hl⟩
  have gd := (k _ H3 (st0 f3) (dm eo3)).1
  by_cases hlt : i < xs.length
  · refine .inr ⟨w.goes i H3 hlt gd, fun H4 => ∃ s4, Eo G Z W B O H4 σ ρ ∧ Lc.Fr Z.M H1 H4 ∧ Z.R H4 s4 ∧ quF st t q f (wipeR ρ vs) (xs.drop (i + 1)) s4 = some (b, s'), fun H4 p4 => ⟨xs.length - (i + 1), by omega, rfl, hlt, p4⟩, fun x H4 y => ?_⟩
    have y := w.yields i H3 x H4 hlt gd y
    have hd : xs[i]? = some xs[i] := by simp [hlt]
    obtain ⟨sm, rp⟩ := (k _ H3 (st0 f3) (dm eo3)).2 i xs[i] x H4 hd y
    rw [List.drop_eq_getElem_cons hlt] at hl
    unfold quF at hl
    split at hl
    · cases hl
    · rename_i ρ3 e1
      have eo4 := (eo3.fr (Lc.Fr.of sm)).wipe vs
      refine ⟨_, O, wipeR ρ vs, xs[i], ρ3, eo4, rp, e1, fun σ3 eo5 kk => ⟨wipe_ext hu (by rw [kk.1, wipe_length]) kk.2, ?_⟩⟩
      obtain ⟨b1, s4, h4, hl⟩ := bnd_some hl
      refine hq _ _ _ ⟨_, O, ρ3, s3, b1, s4, eo5, Z.same R3 sm, h4, fun H5 f5 R5 => ?_⟩
      have f35 : Lc.Fr Z.M H3 H5 := (Lc.Fr.of sm).trans f5
      cases b1 with
      | false =>
        rw [if_neg (by simp)] at hl
        refine iteF ?_
        exact ⟨s4, eo3.fr f35, f3.trans f35, R5, hl⟩
      | true =>
        rw [if_pos rfl] at hl
        refine iteT ?_
        obtain ⟨y1, s5, h5, hl⟩ := bnd_some hl
        obtain ⟨kb, s6, h6, hl9⟩ := bnd_some hl
        obtain ⟨h6, rfl⟩ := put_some h6
        refine ⟨_, O, ρ3, s4, y1, _, eo5.fr f5, R5, h5, fun u H6 f6 r6 R6 => ?_⟩
        have f36 := f35.trans f6
        unfold asB at h6
        split at h6
        · cases h6
          simp only [Rep] at r6
          refine ⟨kb, r6, ?_⟩
          by_cases hk : kb = st
          · rw [if_pos hk] at hl9 ⊢
            cases hl9
            exact hQ _ H6 (f1.trans (f3.trans f36)) (by simp only [Rep]) R6
          · rw [if_neg hk] at hl9 ⊢
            exact ⟨_, eo3.fr f36, f3.trans f36, R6, hl9⟩
        · cases h6
  · have e : i = xs.length := by omega
    subst e
    rw [List.drop_length] at hl
    cases hl
    exact .inl ⟨w.stops H3 gd, hQ _ H3 (f1.trans f3) (by simp only [Rep]) R3⟩
end
end Dl
set_option Elab.async false
set_option linter.all false
set_option maxRecDepth 100000
set_option maxHeartbeats 4000000
/-! the deck that a law draws from -/
namespace Dl
open PySem PySem.Spec PyProof.Rows L2
/-- cells, seed, how many were drawn -/
abbrev DS := List Int × Int × Int
abbrev hdD (d : Addr) : Nat → Addr → Prop := fun n a => n = 0 ∧ a = d
end Dl
set_option Elab.async false
set_option linter.all false
set_option maxRecDepth 100000
set_option maxHeartbeats 4000000
/-! functions on data: what they come to -/
namespace Dl
open PySem PySem.Spec PyProof.Rows L2
def Ok {α S : Type} (o : Option (α × S)) (Q : α → S → Prop) : Prop := ∃ a s, o = some (a, s) ∧ Q a s
section
variable {α β S : Type}
theorem Ok.imp {o : Option (α × S)} {Q R : α → S → Prop} (h : Ok o Q) (k : ∀ a s, Q a s → R a s) : Ok o R := let ⟨a, s, e, q⟩ := h; ⟨a, s, e, k a s q⟩
theorem Ok.of {o : Option (α × S)} {Q : α → S → Prop} {a : α} {s : S} (e : o = some (a, s)) (q : Q a s) : Ok o Q := ⟨a, s, e, q⟩
theorem ok_bnd {f : Option (α × S)} {k : α → S → Option (β × S)} {Q : β → S → Prop} : Ok (bnd f k) Q ↔ Ok f fun a s => Ok (k a s) Q := by
  constructor
  · rintro ⟨b, s, e, q⟩
    obtain ⟨a, s1, h1, h2⟩ := bnd_some e
    exact ⟨a, s1, h1, b, s, h2, q⟩
  · rintro ⟨a, s1, rfl, b, s, h2, q⟩
    exact ⟨b, s, h2, q⟩
@[simp] theorem ok_some {a : α} {s : S} {Q : α → S → Prop} : Ok (some (a, s)) Q ↔ Q a s := by
  constructor
  · rintro ⟨b, s', e, q⟩
    cases e
    exact q
  · intro q
    exact ⟨a, s, rfl, q⟩
@[simp] theorem ok_none {Q : α → S → Prop} : Ok (none : Option (α × S)) Q ↔ False := by
  constructor
  · rintro ⟨b, s', e, q⟩
    cases e
  · exact False.elim
theorem ok_put {o : Option α} {s : S} {Q : α → S → Prop} : Ok (put o s) Q ↔ ∃ a, o = some a ∧ Q a s := by
  constructor
  · rintro ⟨b, s', e, q⟩
    obtain ⟨h1, rfl⟩ := put_some e
    exact ⟨b, h1, q⟩
  · rintro ⟨a, rfl, q⟩
    exact ⟨a, s, rfl, q⟩
/-! how combinators come to something -/
variable {ρ : Rho} {s : S} {f g : Ev S} {fa : Ea S}
/-! statements -/
variable {F F' : Sv S} {Q : Rs → S → Prop}
theorem k_seq (h : Ok (F ρ s) fun r s => match r with | .nx ρ' => Ok (F' ρ' s) Q | r => Q r s) : Ok (sSeq F F' ρ s) Q := by
  obtain ⟨r, s', e, h⟩ := h
  unfold sSeq
  rw [e]
  cases r with
  | nx ρ' => exact h
  | rt d => exact ⟨_, _, rfl, h⟩
  | bk d => exact ⟨_, _, rfl, h⟩
  | ct d => exact ⟨_, _, rfl, h⟩
theorem k_set {i : Nat} (h : Ok (f ρ s) fun d s => Q (.nx (ρ.set i (some d))) s) : Ok (sSet i f ρ s) Q := by
  unfold sSet
  rw [ok_bnd]
  exact h.imp fun x s h => ok_some.mpr h
theorem k_own {i : Nat} (h : Ok (fa ρ s) fun d s => Q (.nx (ρ.set i (some (.list d)))) s) : Ok (sOwn i fa ρ s) Q := by
  unfold sOwn
  rw [ok_bnd]
  exact h.imp fun x s h => ok_some.mpr h
theorem k_ret (h : Ok (f ρ s) fun d s => Q (.rt d) s) : Ok (sRet f ρ s) Q := by
  unfold sRet
  rw [ok_bnd]
  exact h.imp fun x s h => ok_some.mpr h
theorem k_sIf {q : Et S} (h : Ok (q ρ s) fun b s => if b = true then Ok (F ρ s) Q else Ok (F' ρ s) Q) : Ok (sIf q F F' ρ s) Q := by
  unfold sIf
  rw [ok_bnd]
  refine h.imp fun b s h => ?_
  cases b <;> simpa using h
theorem k_nx (h : Q (.nx ρ) s) : Ok (sNx ρ s) Q := ⟨_, _, rfl, h⟩
theorem k_asg {t : Tg} (h : Ok (f ρ s) fun d s => ∃ ρ', t d ρ = some ρ' ∧ Q (.nx ρ') s) : Ok (sAsg f t ρ s) Q := by
  unfold sAsg
  rw [ok_bnd]
  refine h.imp fun x s ⟨ρ', e, h⟩ => ?_
  rw [e]
  exact ok_some.mpr h
theorem k_app {i : Nat} {ds : List D} (hd : ρ[i]? = some (some (.list ds))) (hl : ds.length < sizeLine) (h : Ok (f ρ s) fun d s => Q (.nx (ρ.set i (some (.list (ds ++ [d]))))) s) : Ok (sApp i f ρ s) Q := by
  unfold sApp
  rw [hd]
  simp only
  rw [ok_bnd]
  refine h.imp fun x s h => ?_
  rw [if_pos hl]
  exact ok_some.mpr h
theorem k_aug {i : Nat} {p : D → D → Option D} {x : D} (hd : ρ[i]? = some (some x)) (h : Ok (f ρ s) fun y s => ∃ z, p x y = some z ∧ Q (.nx (ρ.set i (some z))) s) : Ok (sAug i p f ρ s) Q := by
  unfold sAug
  rw [hd]
  simp only
  rw [ok_bnd]
  refine h.imp fun y s ⟨z, e, h⟩ => ?_
  rw [e]
  exact ok_some.mpr h
theorem k_loop {t : Tg} {body : Sv S} (Iv : Nat → Rho → S → Prop) : ∀ (ds : List D) (i : Nat) (ρ : Rho) (s : S), Iv i ρ s →
    (∀ j d ρ s, ds[j]? = some d → Iv (i + j) ρ s → ∃ ρ1, t d ρ = some ρ1 ∧ Ok (body ρ1 s) fun r s => match r with | .nx ρ => Iv (i + j + 1) ρ s | .ct ρ => Iv (i + j + 1) ρ s | .bk ρ => Q (.nx ρ) s | .rt d => Q (.rt d) s) →
    (∀ ρ s, Iv (i + ds.length) ρ s → Q (.nx ρ) s) → Ok (loopF t body ds ρ s) Q
  | [], i, ρ, s, h, _, e => ⟨_, _, rfl, e ρ s h⟩
  | d :: ds, i, ρ, s, h, k, e => by
    obtain ⟨ρ1, h1, r, s1, h2, h3⟩ := k 0 d ρ s rfl h
    unfold loopF
    rw [h1]
    simp only
    rw [h2]
    have go : ∀ ρ s, Iv (i + 1) ρ s → Ok (loopF t body ds ρ s) Q := fun ρ s h => k_loop Iv ds (i + 1) ρ s h (fun j d' ρ s hd hI => by
      have := k (j + 1) d' ρ s (by simpa using hd) (by rw [show i + (j + 1) = i + 1 + j by omega]; exact hI)
      rw [show i + (j + 1) + 1 = i + 1 + j + 1 by omega] at this
      exact this) (fun ρ s hI => e ρ s (by rw [List.length_cons, show i + (ds.length + 1) = i + 1 + ds.length by omega]; exact hI))
    cases r with
    | nx ρ' => exact go ρ' s1 h3
    | ct ρ' => exact go ρ' s1 h3
    | bk ρ' => exact ⟨_, _, rfl, h3⟩
    | rt d => exact ⟨_, _, rfl, h3⟩
theorem k_for {fi : Ea S} {t : Tg} {body : Sv S} (h : Ok (fi ρ s) fun ds s => ∃ Iv : Nat → Rho → S → Prop, Iv 0 ρ s ∧
    (∀ j d ρ s, ds[j]? = some d → Iv j ρ s → ∃ ρ1, t d ρ = some ρ1 ∧ Ok (body ρ1 s) fun r s => match r with | .nx ρ => Iv (j + 1) ρ s | .ct ρ => Iv (j + 1) ρ s | .bk ρ => Q (.nx ρ) s | .rt d => Q (.rt d) s) ∧
    (∀ ρ s, Iv ds.length ρ s → Q (.nx ρ) s)) : Ok (sFor fi t body ρ s) Q := by
  unfold sFor
  rw [ok_bnd]
  refine h.imp fun ds s ⟨Iv, h0, h1, h2⟩ => ?_
  exact k_loop Iv ds 0 ρ s h0 (fun j d ρ s hd hI => by rw [Nat.zero_add] at *; exact h1 j d ρ s hd hI) (fun ρ s hI => h2 ρ s (by rw [Nat.zero_add] at hI; exact hI))
theorem k_fn {n : Nat} {ds : List D} {Q : D → S → Prop} (h : Ok (F (startR n ds) s) fun r s => match r with | .rt d => Q d s | .nx _ => Q .none s | _ => False) : Ok (fnD n F ds s) Q := by
  obtain ⟨r, s', e, h⟩ := h
  unfold fnD
  rw [e]
  cases r with
  | rt d => exact ⟨_, _, rfl, h⟩
  | nx ρ => exact ⟨_, _, rfl, h⟩
  | bk _ => exact h.elim
  | ct _ => exact h.elim
end
/-! the same as equations, for simp -/
section
variable {α β S : Type} {ρ : Rho} {s : S} {f g : Ev S} {fa : Ea S} {F F' : Sv S} {Q : Rs → S → Prop}
end
section
variable {S : Type} {ρ : Rho} {s : S} {f : Ev S} {Q : Rs → S → Prop}
/-- a for: what is walked is told by P -/
theorem k_forP {fi : Ea S} {t : Tg} {body : Sv S} (P : List D → S → Prop) (h : Ok (fi ρ s) P) (k : ∀ ds s, P ds s → ∃ Iv : Nat → Rho → S → Prop, Iv 0 ρ s ∧
    (∀ j d ρ s, ds[j]? = some d → Iv j ρ s → ∃ ρ1, t d ρ = some ρ1 ∧ Ok (body ρ1 s) fun r s => match r with | .nx ρ => Iv (j + 1) ρ s | .ct ρ => Iv (j + 1) ρ s | .bk ρ => Q (.nx ρ) s | .rt d => Q (.rt d) s) ∧
    (∀ ρ s, Iv ds.length ρ s → Q (.nx ρ) s)) : Ok (sFor fi t body ρ s) Q := k_for (h.imp k)
end
/-! draws -/
/-- the n-th of a list, told by an int in its bounds -/
theorem atI_lt {α : Type} {xs : List α} {r : Int} (h0 : 0 ≤ r) (h : r < xs.length) : ∃ v, v ∈ xs ∧ xs[r.toNat]? = some v ∧ atI xs r = some v := by
  have hn : r.toNat < xs.length := by omega
  refine ⟨xs[r.toNat], List.getElem_mem hn, List.getElem?_eq_getElem hn, ?_⟩
  have := atI_nat (xs := xs) (j := r.toNat) (List.getElem?_eq_getElem hn)
  rw [show ((r.toNat : Nat) : Int) = r by omega] at this
  exact this
end Dl
set_option Elab.async false
set_option linter.all false
set_option maxRecDepth 100000
set_option maxHeartbeats 4000000
/-! the end of a law one of whose defs has a generator expression -/
namespace Lc
open PySem PySem.Spec PyProof.Rows L2
theorem walk_tab {l : PySem.W.OpenLaw} {n k : Nat} {q : Program} {loose : List Str} {XP : (Str → Option Value) → Heap → Prop} {YP : World → Heap → Prop} {d : DefRec} {K : Params → PySem.W.Frag} {CX : World → CXT} {x : Str}
    (hn : l.most = some n) (hn2 : n ≤ sizeLine) (hdf : d.params.defaults = []) (hr : Room k callerA) (hY : ∀ (w : World) (h : Heap), YP w h → (K w.params).In h)
    (F : ∀ (w : World) (mean : ExcName → Option Value) (mg mb : Str → Option Value) (fa : Addr) (h : Heap), Top q (PySem.W.looseW q loose) mean mg mb h → (K w.params).In h → mg d.name = some (.ref fa) → LamX.LawAtS l w (K w.params) (CX w) k n x mg fa h)
    (hCX : ∀ (w : World) (H : Hp) (s : Shared) (e : Value) (s' : Shared), CX w [] H s (fun _ _ _ => False) e s' → False) : PySem.W.WalkO q loose XP YP l.row.toRowW d [] (fun f vs => PySem.call f vs) := by
  refine Att.attach_callB hn hdf fun w sa sb mg mb fa o pm cd doc a vs ns G Y ho hd hcd hmg hobj hints hlen hbits hg => ?_
  obtain ⟨fd, cs, sp, hT, nT, C, hb, hsp, hF⟩ := F w _ mg mb fa _ G.T (hY w _ Y) hmg
  exact LamX.law_callTs (hY w _ Y) G.T.g G.T.b G.T.builtins G.T.nolimit hg hT nT C G.T.bmain hobj hints (Nat.le_trans hlen hn2) hr hF hb (fun H hH hS => hsp H a ns hlen hbits hH hS) fun H e s' => hCX w H sb e s'
end Lc
set_option Elab.async false
set_option linter.all false
set_option maxRecDepth 100000
set_option maxHeartbeats 4000000
namespace Dl
open PySem PySem.Spec PyProof.Rows L2
section
variable {P : Program} {w : World} {K : PySem.W.Frag} {mg : Str → Option Value} {base : Heap} {f : Addr} {fd : FuncData}
/-- slot 0 the script, slot 1 the deck -/
def lawR (n : Nat) : Rho := none :: some (hnd 0) :: List.replicate n none
end
end Dl
set_option Elab.async false
set_option linter.all false
set_option maxRecDepth 100000
set_option maxHeartbeats 4000000
namespace Dl
open PySem PySem.Spec PyProof.Rows L2 GxR
section
variable {S : Type} {X : Cx} {G : Kx} {Z : Zk S} {W : List Nat} {f : Ev S} {c T : Addr} {elt tg iter : Expr} {ifs : List Expr} {scope : Scope} {p gp pos : Pos} {own : List (Str × Nat)} {fi : Ea S} {t : Tg} {us : List Nat} {q : Et S} {tt : TT} {k : Nat}
theorem gx_room {s : Shared} {H : Hp} {C : Addr} {cv : Value} {fp : List Addr} {pn : List (Addr × Obj)} (hr : Room (k + 1) X.A) : Room k (gxC X s H scope C cv fp pn).A := Room_gx hr
theorem ex_all (zt : ZTab Z T) (TB : TabB X.base X.mg c T) (hcode : X.env.code = .ref c) (hr2 : Room (k + 1) X.A) (hgl : Gl X "all") (hm : X.mg "all" = none) (hc : X.calm = true) (hN : X.N.Nodup) (hi : PI X tg iter (tIt G Z W fi)) (ok : BlkOk X.N X.env.scope scope own)
    (hg : ∀ (s : Shared) (H : Hp) (C : Addr) (cv : Value) (fp : List Addr) (pn : List (Addr × Obj)), PG (gxC X s H scope C cv fp pn) tg (tTg G Z W us t)) (ht : ∀ (s : Shared) (H : Hp) (C : Addr) (cv : Value) (fp : List Addr) (pn : List (Addr × Obj)), Room k (gxC X s H scope C cv fp pn).A → PTs (gxC X s H scope C cv fp pn) ifs tt)
    (hq : ∀ σ H Q, tEt G Z W q σ H Q → tt σ H Q) (he : ∀ (s : Shared) (H : Hp) (C : Addr) (cv : Value) (fp : List Addr) (pn : List (Addr × Obj)), Room k (gxC X s H scope C cv fp pn).A → PE (gxC X s H scope C cv fp pn) elt (tEx G Z W f))
    (co : scope.isCoroutine = false := by rfl) (hcell : ∀ y ∈ scope.names, y.2 ≠ .cell := by decide +kernel) (dot : scope.names.lookup (".0" : Str) = some NameKind.local := by rfl) (hu : ∀ i ∈ us, i ∈ own.map (·.2) := by decide) (hs : ∀ v, genFold iter X.env v = pure v := by intro _; rfl)
    (hse : starEach [.GeneratorExp elt [⟨tg, iter, ifs, 0⟩] scope gp] X.env = (false, eval (.GeneratorExp elt [⟨tg, iter, ifs, 0⟩] scope gp) X.env) :: starEach [] X.env := by rfl) :
    PE X (.Call (.Name "all" p) [.GeneratorExp elt [⟨tg, iter, ifs, 0⟩] scope gp] [] pos) (tEx G Z W (cQu false fi t q f (own.map (·.2)))) :=
  imp_pe (pe_all hr2 hgl hm hc hN TB hcode ok co hcell dot hi hg (fun s H C cv fp pn => ht s H C cv fp pn (gx_room hr2)) (fun s H C cv fp pn => he s H C cv fp pn (gx_room hr2)) hs hse) fun σ H Q h => qu_at zt hu hq h
theorem ex_any (zt : ZTab Z T) (TB : TabB X.base X.mg c T) (hcode : X.env.code = .ref c) (hr2 : Room (k + 1) X.A) (hgl : Gl X "any") (hm : X.mg "any" = none) (hc : X.calm = true) (hN : X.N.Nodup) (hi : PI X tg iter (tIt G Z W fi)) (ok : BlkOk X.N X.env.scope scope own)
    (hg : ∀ (s : Shared) (H : Hp) (C : Addr) (cv : Value) (fp : List Addr) (pn : List (Addr × Obj)), PG (gxC X s H scope C cv fp pn) tg (tTg G Z W us t)) (ht : ∀ (s : Shared) (H : Hp) (C : Addr) (cv : Value) (fp : List Addr) (pn : List (Addr × Obj)), Room k (gxC X s H scope C cv fp pn).A → PTs (gxC X s H scope C cv fp pn) ifs tt)
    (hq : ∀ σ H Q, tEt G Z W q σ H Q → tt σ H Q) (he : ∀ (s : Shared) (H : Hp) (C : Addr) (cv : Value) (fp : List Addr) (pn : List (Addr × Obj)), Room k (gxC X s H scope C cv fp pn).A → PE (gxC X s H scope C cv fp pn) elt (tEx G Z W f))
    (co : scope.isCoroutine = false := by rfl) (hcell : ∀ y ∈ scope.names, y.2 ≠ .cell := by decide +kernel) (dot : scope.names.lookup (".0" : Str) = some NameKind.local := by rfl) (hu : ∀ i ∈ us, i ∈ own.map (·.2) := by decide) (hs : ∀ v, genFold iter X.env v = pure v := by intro _; rfl)
    (hse : starEach [.GeneratorExp elt [⟨tg, iter, ifs, 0⟩] scope gp] X.env = (false, eval (.GeneratorExp elt [⟨tg, iter, ifs, 0⟩] scope gp) X.env) :: starEach [] X.env := by rfl) :
    PE X (.Call (.Name "any" p) [.GeneratorExp elt [⟨tg, iter, ifs, 0⟩] scope gp] [] pos) (tEx G Z W (cQu true fi t q f (own.map (·.2)))) :=
  imp_pe (pe_any hr2 hgl hm hc hN TB hcode ok co hcell dot hi hg (fun s H C cv fp pn => ht s H C cv fp pn (gx_room hr2)) (fun s H C cv fp pn => he s H C cv fp pn (gx_room hr2)) hs hse) fun σ H Q h => qu_at zt hu hq h
end
/-- a def whose code object is known -/
structure FunC (K : PySem.W.Frag) (x qual : Str) (st : Stmt) (f : Addr) (fd : FuncData) (c : Addr) : Prop where
  ex : ∃ (oc : Value) (od : Option Addr) (kV doc pm : Value) (an : Option Addr) (ct : Value) (osl : Array (Option Value)),
    fd = PySem.W.fnOf x qual (defArgs st) (defBody st) (defScope st) .none kV doc pm an (.ref c) ct ∧ K.lookup f = some ⟨oc, od, .func fd, osl⟩ ∧ PySem.W.codeIn K (.ref c) qual = true
theorem funC_mk {K : PySem.W.Frag} {x qual : Str} {st : Stmt} {f c : Addr} {oc : Value} {od an : Option Addr} {osl : Array (Option Value)} {kV doc pm ct : Value} (l : K.lookup f = some ⟨oc, od, .func (PySem.W.fnOf x qual (defArgs st) (defBody st) (defScope st) .none kV doc pm an (.ref c) ct), osl⟩)
    (h : PySem.W.codeIn K (.ref c) qual = true) : FunC K x qual st f (PySem.W.fnOf x qual (defArgs st) (defBody st) (defScope st) .none kV doc pm an (.ref c) ct) c := ⟨oc, od, kV, doc, pm, an, ct, osl, rfl, l, h⟩
section
variable {S : Type} {P : Program} {w : World} {K : PySem.W.Frag} {mg : Str → Option Value} {base : Heap} {G : Kx} {Z : Zk S} {W : List Nat} {F : Sv S}
theorem fn_okC {nm qual : Str} {st : Stmt} {fad c : Addr} {fd : FuncData} {N ps : List Str} {k n m : Nat} (U : FunC K nm qual st fad fd c) (sc : FnScope N ps (defScope st)) (hn : N.length = n) (hm : ps.length = m) (hmn : m ≤ n) (hW : ∀ i ∈ W, m ≤ i)
    (hb : ∀ (A : Around) (outer : List Env) (s : Shared) (H : Hp) (E : XK), Room k (A.deeper (envOfC qual (defScope st) s.heap.objs.size fad (.ref c))) → PSs (cxOf CX0 P w K mg base N qual (defScope st) fad (.ref c) A outer s H E).nox (defBody st) (tSt G Z W F)) :
    FnOk P w K mg base CX0 (k + 1) fad fd ps (spD G Z m (fnD n F)) := by
  obtain ⟨oc, od, kV, doc, pm, an, ct, osl, rfl, lk, hcd⟩ := U.ex
  refine fn_of lk hcd sc (fun vs H Q E h => ?_) (fun A outer s H vs Q E hr h => ?_)
  · obtain ⟨B, ds, s, d, s', h1, _, _, h2, _⟩ := h
    rw [h2.len, h1, hm]
  · refine ⟨_, (hb A outer s H E hr).nox, ?_⟩
    obtain ⟨B, ds, s0, d, s', h1, bd, mb, h2, R0, hF, q⟩ := h
    have eo := eo_start (W := W) (Z := Z) (N := N) hn bd mb h2 (by omega) (by rw [h1]; exact hW)
    unfold fnD at hF
    have sr : Sr G Z W B H (fun _ => False) H (L2.start N vs) (startR n ds) s0 := ⟨eo, Lc.Fr.refl H, bd, fun _ z => z.elim, R0⟩
    split at hF
    · rename_i d' s1 e1
      cases hF
      exact ⟨B, H, fun _ => False, startR n ds, s0, .rt d, _, sr, e1, q⟩
    · rename_i ρ' s1 e1
      cases hF
      exact ⟨B, H, fun _ => False, startR n ds, s0, .nx ρ', _, sr, e1, fun O' σ' H' sr' _ => q .non H' sr'.fr (by simp only [Rep]) sr'.r⟩
    · cases hF
end
/-! ### the deck and the tables -/
/-- the tables at Ts are shared, too -/
def Zk.tb {S : Type} (Z : Zk S) (Ts : List Addr) (hne : ∀ H s a, Z.R H s → Z.M a → ∀ ps, H a ≠ some (.tbl ps)) : Zk S where
  M := fun a => Z.M a ∨ a ∈ Ts
  R := fun H s => Z.R H s ∧ ∀ T ∈ Ts, TabG H T
  dom := fun H s a h m => m.elim (Z.dom H s a h.1) fun m => by
    obtain ⟨ps, e, _⟩ := h.2 a m
    rw [e]
    simp
  loc := fun H H' s h k => ⟨Z.loc H H' s h.1 fun a m => k a (.inl m), fun T m => by
    obtain ⟨ps, e, t⟩ := h.2 T m
    exact ⟨ps, (k T (.inr m)).trans e, t⟩⟩
section
variable {P : Program} {w : World} {K : PySem.W.Frag} {mg : Str → Option Value} {base : Heap} {f : Addr} {fd : FuncData}
def spLawT (K : PySem.W.Frag) (Ts : List Addr) : Sp := fun vs H Q _ => ∃ (a : Addr) (ns : List Int), vs = [.ref a] ∧ SqL K H a (ns.map V.int) ∧ (∀ T ∈ Ts, TabG H T) ∧ ∀ H', Q (.bl true) H'
end
end Dl
set_option Elab.async false
set_option linter.all false
set_option maxRecDepth 100000
set_option maxHeartbeats 4000000
namespace Dl
open PySem PySem.Spec PyProof.Rows L2
def pMax2 : List D → Option D
  | [.int i, .int j] => some (.int (if j > i then j else i))
  | _ => none
def pMin2 : List D → Option D
  | [.int i, .int j] => some (.int (if j < i then j else i))
  | _ => none
section
variable {S : Type} {X : Cx} {G : Kx} {Z : Zk S} {W : List Nat} {f g : Ev S} {a b : Expr} {p p' pos pos' : Pos}
theorem os_max2 : CaS G (fun xs H Q => ∃ i j, xs = [.int i, .int j] ∧ Q (.int (if j > i then j else i)) H) pMax2 := by
  intro B H xs ds d Q bd hr hp q
  unfold pMax2 at hp
  split at hp
  · cases hp
    simp only [Reps, Rep] at hr
    obtain ⟨v, r, rfl, rfl, v2, r2, rfl, rfl, rfl⟩ := hr
    exact ⟨_, _, rfl, q _ H (Same.refl H) (by simp only [Rep])⟩
  · cases hp
theorem os_min2 : CaS G (fun xs H Q => ∃ i j, xs = [.int i, .int j] ∧ Q (.int (if j < i then j else i)) H) pMin2 := by
  intro B H xs ds d Q bd hr hp q
  unfold pMin2 at hp
  split at hp
  · cases hp
    simp only [Reps, Rep] at hr
    obtain ⟨v, r, rfl, rfl, v2, r2, rfl, rfl, rfl⟩ := hr
    exact ⟨_, _, rfl, q _ H (Same.refl H) (by simp only [Rep])⟩
  · cases hp
end
end Dl
set_option Elab.async false
set_option linter.all false
set_option maxRecDepth 100000
set_option maxHeartbeats 4000000
/-! zip of two lists, of two tuples -/
namespace Dl
open PySem PySem.Spec PyProof.Rows L2
def zipD : List D → List D → List D
  | x :: xs, y :: ys => pairD x y :: zipD xs ys
  | _, _ => []
theorem zipD_len : ∀ (xs ys : List D), (zipD xs ys).length = min xs.length ys.length
  | [], _ => by simp [zipD]
  | _ :: _, [] => by simp [zipD]
  | x :: xs, y :: ys => by simp only [zipD, List.length_cons, zipD_len xs ys]; omega
theorem zipD_get : ∀ {xs ys : List D} {i : Nat} {d : D}, (zipD xs ys)[i]? = some d → ∃ x y, xs[i]? = some x ∧ ys[i]? = some y ∧ d = pairD x y
  | [], _, i, d, h => by simp [zipD] at h
  | _ :: _, [], i, d, h => by simp [zipD] at h
  | x :: xs, y :: ys, 0, d, h => by
    simp only [zipD, List.getElem?_cons_zero, Option.some.injEq] at h
    exact ⟨x, y, rfl, rfl, h.symm⟩
  | x :: xs, y :: ys, i + 1, d, h => by
    simp only [zipD, List.getElem?_cons_succ] at h ⊢
    exact zipD_get h
def pZip : List D → Option (List D)
  | [.list a, .list b] => some (zipD a b)
  | [.tuple a, .tuple b] => some (zipD a b)
  | _ => none
def YPairF (xs ys : Nat → Option V) : Nat → Hp → V → Hp → Prop := fun i H v H' => ∃ (T : Addr) (o : Obj) (x y : V), v = .ref T ∧ H T = none ∧ o.dict = none ∧ H' = upd H T (.frz o (.tup [x, y])) ∧ xs i = some x ∧ ys i = some y
def ItzTT (K : PySem.W.Frag) (a b : Addr) : It :=
  ⟨fun i H => ∃ (xs ys : List V) (x y : V), (SqT K H a xs) ∧ (SqT K H b ys) ∧ xs[i]? = some x ∧ ys[i]? = some y,
    fun i H v H' => ∃ (T : Addr) (o : Obj) (x y : V), v = .ref T ∧ H T = none ∧ o.dict = none ∧ H' = upd H T (.frz o (.tup [x, y])) ∧ (∀ xs, SqT K H a xs → xs[i]? = some x) ∧ ∀ ys, SqT K H b ys → ys[i]? = some y,
    fun i H => ∃ xs ys : List V, SqT K H a xs ∧ SqT K H b ys ∧ i ≤ xs.length ∧ i ≤ ys.length ∧ (xs.length ≤ i ∨ ys.length ≤ i)⟩
theorem turn_zipTT {P : Program} {w : World} {K : PySem.W.Frag} {elts : List Expr} {kk : Nat} {tpos : Pos} {a b z TI TO i1 i2 : Addr} (S : ZipSep2 z TI TO i1 i2 [i1, a] [i2, b]) (ha : a ≠ i1) (hb : b ≠ i2) :
    Turn P w K (.Tuple elts kk tpos) (ItzTT K a b) [z, TI, TO, i1, i2] z (fun i h => IsZip h z TI TO .none ∧ IsTupOf2 h TI (.ref i1) (.ref i2) ∧ (∃ x y, IsTupOf2 h TO x y) ∧ h.IsTupleIter i1 a i ∧ h.IsTupleIter i2 b i) where
  mem := by simp
  obj := fun i h st c hc => by
    obtain ⟨s1, s2, ⟨_, _, s3⟩, ⟨o, s4, _, s5⟩, ⟨o', s6, _, s7⟩⟩ := st
    simp only [List.mem_cons, List.not_mem_nil, or_false] at hc
    obtain rfl | rfl | rfl | rfl | rfl := hc
    · exact ⟨_, s1, fun _ n => nomatch n⟩
    · exact ⟨_, s2, fun _ n => nomatch n⟩
    · exact ⟨_, s3, fun _ n => nomatch n⟩
    · exact ⟨o, s4, fun _ n => nomatch s5.symm.trans n⟩
    · exact ⟨o', s6, fun _ n => nomatch s7.symm.trans n⟩
  keep := fun i h h' st stays => by
    obtain ⟨s1, s2, ⟨u, v, s3⟩, s5, s6⟩ := st
    have of {q : Addr} (hq : q ∈ [z, TI, TO, i1, i2] := by simp) {ob : Obj} (e : h.get? q = some ob) : h'.get? q = some ob := stays q hq ob e
    exact ⟨of (by simp) s1, of (by simp) s2, ⟨u, v, of (by simp) s3⟩, s5.at fun ob e => of (by simp) e, s6.at fun ob e => of (by simp) e⟩
  item := by
    intro X hP hw hK hc i pins s σ H E I hf st hg
    subst hP hw hK
    obtain ⟨hz, hTI, ⟨x0, y0, hTO⟩, h1, h2⟩ := st
    obtain ⟨xs, ys, x, y, hqx, hqy, hx, hy⟩ := hg
    obtain ⟨its1, rv1, p1, _⟩ := I.tuple hqx
    obtain ⟨u1, hu1, ru1⟩ := rv1.get hx
    obtain ⟨its2, rv2, p2, _⟩ := I.tuple hqy
    obtain ⟨u2, hu2, ru2⟩ := rv2.get hy
    have hzl : z < s.heap.objs.size := Heap.lt_size hz
    have hh : X.A.in1.handled = none := I.ok.hd hc
    have hi1 : i < its1.toArray.size := by
      have := (List.getElem?_eq_some_iff.mp hu1).1
      simpa using this
    have hi2 : i < its2.toArray.size := by
      have := (List.getElem?_eq_some_iff.mp hu2).1
      simpa using this
    refine wpAny_pyNext_zipD2_item S (Draws.tuple hh i1 a ha its1.toArray) (Draws.tuple hh i2 b hb its2.toArray) hz hTI hTO ⟨h1, p1⟩ ⟨h2, p2⟩ hi1 hi2 fun x1 x2 h' tk y1 y2 z' TO' s1' s2' hT hsz hk => ?_
    have ex1 : x1 = u1 := by
      have : its1.toArray[i]? = some u1 := by simpa using hu1
      rw [this] at y1
      exact (Option.some.inj y1).symm
    have ex2 : x2 = u2 := by
      have : its2.toArray[i]? = some u2 := by simpa using hu2
      rw [this] at y2
      exact (Option.some.inj y2).symm
    subst ex1 ex2
    refine ⟨_, rfl, wpAny_letOwnedTupleGo_zip (s := { s with heap := h', toks := tk }) z' fun h'' z'' sb => ?_⟩
    have hT2 : h''.get? s.heap.objs.size = some { cls := .type "tuple", data := .seq #[x1, x2] } := (sb.2 _ (Nat.ne_of_gt hzl)).trans hT
    have new : ObjOk X.prog X.w (upd H s.heap.objs.size (.frz (tpO [x1, x2]) (.tup [x, y]))) h'' s.heap.objs.size (.frz (tpO [x1, x2]) (.tup [x, y])) :=
      ⟨hT2, by show 2 ≤ sizeLine; decide, [x1, x2], .cons ru1 (.cons ru2 .nil), ⟨_, hT2, rfl, _, rfl⟩⟩
    have I1 : Inv X pins σ (upd H s.heap.objs.size (.frz (tpO [x1, x2]) (.tup [x, y]))) { s with heap := h'', toks := tk } :=
      I.turnedNew (t' := tk) (ch := [z, TI, TO, i1, i2]) (fun c o hb q => (sb.2 c (fun q' => hb (by simp [q']))).trans (hk c o (fun w => hb (by simp [w])) (fun w => hb (by simp [w])) (fun w => hb (by simp [w])) (fun w => hb (by simp [w])) q)) hf (Nat.le_refl _) new
    refine ⟨.ref s.heap.objs.size, _, I1, rfl, ⟨_, _, x, y, rfl, I.hok.fresh (Nat.le_refl _), rfl, rfl, fun l hl => by rw [I.tuple_inj hl hqx]; exact hx, fun l hl => by rw [I.tuple_inj hl hqy]; exact hy⟩, ⟨z'', ?_, ⟨x1, x2, ?_⟩, ?_, ?_⟩, fun c hcm => ?_⟩
    · exact (sb.2 _ S.TIz).trans (hk _ _ S.TIz S.TITO S.TIi1 S.TIi2 hTI)
    · exact (sb.2 _ S.TOz).trans TO'
    · exact s1'.1.at fun o q => (sb.2 _ S.zi1.symm).trans q
    · exact s2'.1.at fun o q => (sb.2 _ S.zi2.symm).trans q
    · have older : c < s.heap.objs.size := by
        simp only [List.mem_cons, List.not_mem_nil, or_false] at hcm
        obtain rfl | rfl | rfl | rfl | rfl := hcm
        · exact hzl
        · exact Heap.lt_size hTI
        · exact Heap.lt_size hTO
        · exact Heap.lt_size h1.choose_spec.1
        · exact Heap.lt_size h2.choose_spec.1
      rw [upd_ne (Nat.ne_of_lt older)]
      exact (hf c hcm).1
  done := by
    intro X hP hw hK hc i pins s σ H E I hf st hg
    subst hP hw hK
    obtain ⟨hz, hTI, ⟨x0, y0, hTO⟩, h1, h2⟩ := st
    obtain ⟨xs, ys, hqx, hqy, l1, l2, hend⟩ := hg
    obtain ⟨its1, rv1, p1, _⟩ := I.tuple hqx
    obtain ⟨its2, rv2, p2, _⟩ := I.tuple hqy
    have e1 : its1.toArray.size = xs.length := by simp [rv1.length]
    have e2 : its2.toArray.size = ys.length := by simp [rv2.length]
    have hh : X.A.in1.handled = none := I.ok.hd hc
    refine wpAny_pyNext_zipD2_end S (Draws.tuple hh i1 a ha its1.toArray) (Draws.tuple hh i2 b hb its2.toArray) hz hTI hTO ⟨h1, p1⟩ ⟨h2, p2⟩ (by rw [e1]; exact l1) (by rw [e2]; exact l2) (by rw [e1, e2]; omega) fun h' tk hk => ⟨rfl, I.turnedL (t' := tk) (ch := [z, TI, TO, i1, i2]) (fun c o hb q =>
      hk c o (fun w => hb (by simp [w])) (fun w => hb (by simp [w])) (fun w => hb (by simp [w])) (fun w => hb (by simp [w])) q) hf⟩
  self := fun _ _ _ _ _ st q => wpAny_pyIter_zip st.1 q
theorem walk_zipTT {K : PySem.W.Frag} {a b : Addr} {xs ys : List V} {n : Nat} (hn : n = min xs.length ys.length) : Walk (ItzTT K a b) n (fun H => SqT K H a xs ∧ SqT K H b ys) (YPairF (fun i => xs[i]?) (fun i => ys[i]?)) := by
  subst hn
  refine ⟨fun i _ hi q => ?_, fun _ q => ⟨xs, ys, q.1, q.2, by omega, by omega, by omega⟩, fun i H v H' _ q y => ?_⟩
  · have h1 : i < xs.length := by omega
    have h2 : i < ys.length := by omega
    exact ⟨xs, ys, _, _, q.1, q.2, List.getElem?_eq_getElem h1, List.getElem?_eq_getElem h2⟩
  · obtain ⟨T, o, x, z, h1, h2, ho, h3, h4, h5⟩ := y
    exact ⟨T, o, x, z, h1, h2, ho, h3, h4 xs q.1, h5 ys q.2⟩
def ItzLL (K : PySem.W.Frag) (a b : Addr) : It :=
  ⟨fun i H => ∃ (xs ys : List V) (x y : V), (SqL K H a xs) ∧ (SqL K H b ys) ∧ xs[i]? = some x ∧ ys[i]? = some y,
    fun i H v H' => ∃ (T : Addr) (o : Obj) (x y : V), v = .ref T ∧ H T = none ∧ o.dict = none ∧ H' = upd H T (.frz o (.tup [x, y])) ∧ (∀ xs, SqL K H a xs → xs[i]? = some x) ∧ ∀ ys, SqL K H b ys → ys[i]? = some y,
    fun i H => ∃ xs ys : List V, SqL K H a xs ∧ SqL K H b ys ∧ i ≤ xs.length ∧ i ≤ ys.length ∧ (xs.length ≤ i ∨ ys.length ≤ i)⟩
theorem turn_zipLL {P : Program} {w : World} {K : PySem.W.Frag} {elts : List Expr} {kk : Nat} {tpos : Pos} {a b z TI TO i1 i2 : Addr} (S : ZipSep2 z TI TO i1 i2 [i1, a] [i2, b]) (ha : a ≠ i1) (hb : b ≠ i2) :
    Turn P w K (.Tuple elts kk tpos) (ItzLL K a b) [z, TI, TO, i1, i2] z (fun i h => IsZip h z TI TO .none ∧ IsTupOf2 h TI (.ref i1) (.ref i2) ∧ (∃ x y, IsTupOf2 h TO x y) ∧ h.IsListIter i1 a i ∧ h.IsListIter i2 b i) where
  mem := by simp
  obj := fun i h st c hc => by
    obtain ⟨s1, s2, ⟨_, _, s3⟩, ⟨o, s4, _, s5⟩, ⟨o', s6, _, s7⟩⟩ := st
    simp only [List.mem_cons, List.not_mem_nil, or_false] at hc
    obtain rfl | rfl | rfl | rfl | rfl := hc
    · exact ⟨_, s1, fun _ n => nomatch n⟩
    · exact ⟨_, s2, fun _ n => nomatch n⟩
    · exact ⟨_, s3, fun _ n => nomatch n⟩
    · exact ⟨o, s4, fun _ n => nomatch s5.symm.trans n⟩
    · exact ⟨o', s6, fun _ n => nomatch s7.symm.trans n⟩
  keep := fun i h h' st stays => by
    obtain ⟨s1, s2, ⟨u, v, s3⟩, s5, s6⟩ := st
    have of {q : Addr} (hq : q ∈ [z, TI, TO, i1, i2] := by simp) {ob : Obj} (e : h.get? q = some ob) : h'.get? q = some ob := stays q hq ob e
    exact ⟨of (by simp) s1, of (by simp) s2, ⟨u, v, of (by simp) s3⟩, s5.at fun ob e => of (by simp) e, s6.at fun ob e => of (by simp) e⟩
  item := by
    intro X hP hw hK hc i pins s σ H E I hf st hg
    subst hP hw hK
    obtain ⟨hz, hTI, ⟨x0, y0, hTO⟩, h1, h2⟩ := st
    obtain ⟨xs, ys, x, y, hqx, hqy, hx, hy⟩ := hg
    obtain ⟨its1, rv1, p1, _⟩ := I.list hqx
    obtain ⟨u1, hu1, ru1⟩ := rv1.get hx
    obtain ⟨its2, rv2, p2, _⟩ := I.list hqy
    obtain ⟨u2, hu2, ru2⟩ := rv2.get hy
    have hzl : z < s.heap.objs.size := Heap.lt_size hz
    have hh : X.A.in1.handled = none := I.ok.hd hc
    have hi1 : i < its1.toArray.size := by
      have := (List.getElem?_eq_some_iff.mp hu1).1
      simpa using this
    have hi2 : i < its2.toArray.size := by
      have := (List.getElem?_eq_some_iff.mp hu2).1
      simpa using this
    refine wpAny_pyNext_zipD2_item S (Draws.list hh i1 a ha its1.toArray) (Draws.list hh i2 b hb its2.toArray) hz hTI hTO ⟨h1, p1.isList⟩ ⟨h2, p2.isList⟩ hi1 hi2 fun x1 x2 h' tk y1 y2 z' TO' s1' s2' hT hsz hk => ?_
    have ex1 : x1 = u1 := by
      have : its1.toArray[i]? = some u1 := by simpa using hu1
      rw [this] at y1
      exact (Option.some.inj y1).symm
    have ex2 : x2 = u2 := by
      have : its2.toArray[i]? = some u2 := by simpa using hu2
      rw [this] at y2
      exact (Option.some.inj y2).symm
    subst ex1 ex2
    refine ⟨_, rfl, wpAny_letOwnedTupleGo_zip (s := { s with heap := h', toks := tk }) z' fun h'' z'' sb => ?_⟩
    have hT2 : h''.get? s.heap.objs.size = some { cls := .type "tuple", data := .seq #[x1, x2] } := (sb.2 _ (Nat.ne_of_gt hzl)).trans hT
    have new : ObjOk X.prog X.w (upd H s.heap.objs.size (.frz (tpO [x1, x2]) (.tup [x, y]))) h'' s.heap.objs.size (.frz (tpO [x1, x2]) (.tup [x, y])) :=
      ⟨hT2, by show 2 ≤ sizeLine; decide, [x1, x2], .cons ru1 (.cons ru2 .nil), ⟨_, hT2, rfl, _, rfl⟩⟩
    have I1 : Inv X pins σ (upd H s.heap.objs.size (.frz (tpO [x1, x2]) (.tup [x, y]))) { s with heap := h'', toks := tk } :=
      I.turnedNew (t' := tk) (ch := [z, TI, TO, i1, i2]) (fun c o hb q => (sb.2 c (fun q' => hb (by simp [q']))).trans (hk c o (fun w => hb (by simp [w])) (fun w => hb (by simp [w])) (fun w => hb (by simp [w])) (fun w => hb (by simp [w])) q)) hf (Nat.le_refl _) new
    refine ⟨.ref s.heap.objs.size, _, I1, rfl, ⟨_, _, x, y, rfl, I.hok.fresh (Nat.le_refl _), rfl, rfl, fun l hl => by rw [I.list_inj hl hqx]; exact hx, fun l hl => by rw [I.list_inj hl hqy]; exact hy⟩, ⟨z'', ?_, ⟨x1, x2, ?_⟩, ?_, ?_⟩, fun c hcm => ?_⟩
    · exact (sb.2 _ S.TIz).trans (hk _ _ S.TIz S.TITO S.TIi1 S.TIi2 hTI)
    · exact (sb.2 _ S.TOz).trans TO'
    · exact s1'.1.at fun o q => (sb.2 _ S.zi1.symm).trans q
    · exact s2'.1.at fun o q => (sb.2 _ S.zi2.symm).trans q
    · have older : c < s.heap.objs.size := by
        simp only [List.mem_cons, List.not_mem_nil, or_false] at hcm
        obtain rfl | rfl | rfl | rfl | rfl := hcm
        · exact hzl
        · exact Heap.lt_size hTI
        · exact Heap.lt_size hTO
        · exact Heap.lt_size h1.choose_spec.1
        · exact Heap.lt_size h2.choose_spec.1
      rw [upd_ne (Nat.ne_of_lt older)]
      exact (hf c hcm).1
  done := by
    intro X hP hw hK hc i pins s σ H E I hf st hg
    subst hP hw hK
    obtain ⟨hz, hTI, ⟨x0, y0, hTO⟩, h1, h2⟩ := st
    obtain ⟨xs, ys, hqx, hqy, l1, l2, hend⟩ := hg
    obtain ⟨its1, rv1, p1, _⟩ := I.list hqx
    obtain ⟨its2, rv2, p2, _⟩ := I.list hqy
    have e1 : its1.toArray.size = xs.length := by simp [rv1.length]
    have e2 : its2.toArray.size = ys.length := by simp [rv2.length]
    have hh : X.A.in1.handled = none := I.ok.hd hc
    refine wpAny_pyNext_zipD2_end S (Draws.list hh i1 a ha its1.toArray) (Draws.list hh i2 b hb its2.toArray) hz hTI hTO ⟨h1, p1.isList⟩ ⟨h2, p2.isList⟩ (by rw [e1]; exact l1) (by rw [e2]; exact l2) (by rw [e1, e2]; omega) fun h' tk hk => ⟨rfl, I.turnedL (t' := tk) (ch := [z, TI, TO, i1, i2]) (fun c o hb q =>
      hk c o (fun w => hb (by simp [w])) (fun w => hb (by simp [w])) (fun w => hb (by simp [w])) (fun w => hb (by simp [w])) q) hf⟩
  self := fun _ _ _ _ _ st q => wpAny_pyIter_zip st.1 q
theorem walk_zipLL {K : PySem.W.Frag} {a b : Addr} {xs ys : List V} {n : Nat} (hn : n = min xs.length ys.length) : Walk (ItzLL K a b) n (fun H => SqL K H a xs ∧ SqL K H b ys) (YPairF (fun i => xs[i]?) (fun i => ys[i]?)) := by
  subst hn
  refine ⟨fun i _ hi q => ?_, fun _ q => ⟨xs, ys, q.1, q.2, by omega, by omega, by omega⟩, fun i H v H' _ q y => ?_⟩
  · have h1 : i < xs.length := by omega
    have h2 : i < ys.length := by omega
    exact ⟨xs, ys, _, _, q.1, q.2, List.getElem?_eq_getElem h1, List.getElem?_eq_getElem h2⟩
  · obtain ⟨T, o, x, z, h1, h2, ho, h3, h4, h5⟩ := y
    exact ⟨T, o, x, z, h1, h2, ho, h3, h4 xs q.1, h5 ys q.2⟩
/-- zip of two lists, of two tuples -/
def iZipF (K : PySem.W.Frag) (ta : TA) : TI := fun σ H R => ta σ H fun vs H1 => ∃ a b xs ys, vs = [.ref a, .ref b] ∧ ((SqL K H1 a xs ∧ SqL K H1 b ys ∧ R (ItzLL K a b) H1) ∨ (SqT K H1 a xs ∧ SqT K H1 b ys ∧ R (ItzTT K a b) H1))
theorem pi_zipF {X : Cx} {e e2 : Expr} {ta : TA} {p pos tpos : Pos} {elts : List Expr} {kk : Nat} (hg : Gl X "zip") (hm : X.mg "zip" = none) (hp : PA X [e, e2] ta)
    (hs : starEach [e, e2] X.env = (false, eval e X.env) :: starEach [e2] X.env := by rfl)
    (hpl : (backTo pos (starEach [e2] X.env)).any (·.1) = false := by rfl) :
    PI X (.Tuple elts kk tpos) (.Call (.Name "zip" p) [e, e2] [] pos) (iZipF X.K ta) := by
  refine ⟨fun pins s σ H R I h => ?_⟩
  refine Call_ (ld_blt I hg hm PyProof.Rows.boot_zip (PyProof.Rows.callWith_type1 (thn (hp.run pos pins s σ H _ I h) fun us s1 ⟨vs, H1, I1, r1, q1⟩ => ?_) hs hpl))
  obtain ⟨a, b, xs, ys, ex, q1⟩ := q1
  subst ex
  cases r1 with
  | cons r rr =>
    cases rr with
    | cons r' rr =>
      cases rr
      cases r
      cases r'
      have young : ∀ c ∈ [s1.heap.objs.size + 4, s1.heap.objs.size + 2, s1.heap.objs.size + 3, s1.heap.objs.size, s1.heap.objs.size + 1], FpOk X pins H1 c := fun c hc => by
        have at_least : s1.heap.objs.size ≤ c := by
          simp only [List.mem_cons, List.not_mem_nil, or_false] at hc
          obtain rfl | rfl | rfl | rfl | rfl := hc
          · exact Nat.le_add_right _ _
          · exact Nat.le_add_right _ _
          · exact Nat.le_add_right _ _
          · exact Nat.le_refl _
          · exact Nat.le_add_right _ _
        exact I1.fpOk at_least (I1.hok.fresh at_least)
      rcases q1 with ⟨hqx, hqy, q⟩ | ⟨hqx, hqy, q⟩
      · obtain ⟨its1, rv1, p1, _⟩ := I1.list hqx
        have hal : a < s1.heap.objs.size := p1.lt
        obtain ⟨its2, rv2, p2, _⟩ := I1.list hqy
        have hbl : b < s1.heap.objs.size := p2.lt
        refine zip_begins2 (begins_list a its1.toArray) (begins_list b its2.toArray) p1.isList p2.isList fun h' hz hTI hTO g1 g2 hsz hk => wpAny_pyIter_zip hz ?_
        have I2 : Inv X pins σ H1 { s1 with heap := h' } := Inv.kept (t' := s1.toks) I1 hk
        have sep : ZipSep2 (s1.heap.objs.size + 4) (s1.heap.objs.size + 2) (s1.heap.objs.size + 3) s1.heap.objs.size (s1.heap.objs.size + 1) [s1.heap.objs.size, a] [s1.heap.objs.size + 1, b] :=
          zip_sep2 (N := s1.heap.objs.size) (fp1 := [a]) (fp2 := [b]) (fun c h => by rw [List.mem_singleton.mp h]; exact hal) (fun c h => by rw [List.mem_singleton.mp h]; exact hbl)
        exact ⟨s1.heap.objs.size + 4, [s1.heap.objs.size + 4, s1.heap.objs.size + 2, s1.heap.objs.size + 3, s1.heap.objs.size, s1.heap.objs.size + 1], _, _, H1, rfl, I2, turn_zipLL sep (Nat.ne_of_lt hal) (Nat.ne_of_lt (Nat.lt_succ_of_lt hbl)), ⟨hz, hTI, ⟨_, _, hTO⟩, ⟨_, g1, rfl, rfl⟩, ⟨_, g2, rfl, rfl⟩⟩, young, q⟩
      · obtain ⟨its1, rv1, p1, _⟩ := I1.tuple hqx
        obtain ⟨o1, ho1, _⟩ := id p1
        have hal : a < s1.heap.objs.size := Heap.lt_size ho1
        obtain ⟨its2, rv2, p2, _⟩ := I1.tuple hqy
        obtain ⟨o2, ho2, _⟩ := id p2
        have hbl : b < s1.heap.objs.size := Heap.lt_size ho2
        refine zip_begins2 (begins_tuple a its1.toArray) (begins_tuple b its2.toArray) p1 p2 fun h' hz hTI hTO g1 g2 hsz hk => wpAny_pyIter_zip hz ?_
        have I2 : Inv X pins σ H1 { s1 with heap := h' } := Inv.kept (t' := s1.toks) I1 hk
        have sep : ZipSep2 (s1.heap.objs.size + 4) (s1.heap.objs.size + 2) (s1.heap.objs.size + 3) s1.heap.objs.size (s1.heap.objs.size + 1) [s1.heap.objs.size, a] [s1.heap.objs.size + 1, b] :=
          zip_sep2 (N := s1.heap.objs.size) (fp1 := [a]) (fp2 := [b]) (fun c h => by rw [List.mem_singleton.mp h]; exact hal) (fun c h => by rw [List.mem_singleton.mp h]; exact hbl)
        exact ⟨s1.heap.objs.size + 4, [s1.heap.objs.size + 4, s1.heap.objs.size + 2, s1.heap.objs.size + 3, s1.heap.objs.size, s1.heap.objs.size + 1], _, _, H1, rfl, I2, turn_zipTT sep (Nat.ne_of_lt hal) (Nat.ne_of_lt (Nat.lt_succ_of_lt hbl)), ⟨hz, hTI, ⟨_, _, hTO⟩, ⟨_, g1, rfl, rfl⟩, ⟨_, g2, rfl, rfl⟩⟩, young, q⟩
section
variable {S : Type} {X : Cx} {G : Kx} {Z : Zk S} {W : List Nat} {fa : Ea S} {e e2 : Expr} {p pos : Pos}
theorem zip_rep {B2 : Bar} {H2 H3 : Hp} {xs ys : List V} {ds es : List D} {i : Nat} {d : D} {x : V} (dm : ∀ a, B2 a → H2 a ≠ none) (r1 : Reps G B2 H2 ds xs) (r2 : Reps G B2 H2 es ys) (hd : (zipD ds es)[i]? = some d) (y : YPairF (fun i => xs[i]?) (fun i => ys[i]?) i H2 x H3) : Same H2 H3 ∧ Rep G B2 H3 d x := by
  obtain ⟨T, o, u, v, rfl, hT, ho, rfl, hu, hv⟩ := y
  obtain ⟨dx, dy, h1, h2, rfl⟩ := zipD_get hd
  obtain ⟨u', e1, q1⟩ := r1.get h1
  obtain ⟨v', e2, q2⟩ := r2.get h2
  have e1 : xs[i]? = some u' := e1
  have hu : xs[i]? = some u := hu
  have hv : ys[i]? = some v := hv
  rw [hu] at e1
  rw [hv] at e2
  cases e1
  cases e2
  exact ⟨Lc.same_new hT, rep_tup dm hT ho (Reps.cons q1 (Reps.cons q2 Reps.nil))⟩
theorem ei_zip {elts : List Expr} {kk : Nat} {tpos : Pos} (h : PI X (.Tuple elts kk tpos) (.Call (.Name "zip" p) [e, e2] [] pos) (iZipF X.K (tEa G Z W fa))) (hK : X.K = G.K := by rfl) : PI X (.Tuple elts kk tpos) (.Call (.Name "zip" p) [e, e2] [] pos) (tIt G Z W (iOfA pZip fa)) :=
  imp_pi h fun σ H Q ⟨B, O, ρ, s, d, s', eo, hR, hf, q⟩ => by
    unfold iOfA at hf
    obtain ⟨y, s1, h1, hf⟩ := bnd_some hf
    obtain ⟨h3, rfl⟩ := put_some hf
    refine ⟨B, O, ρ, s, y, _, eo, hR, h1, fun v H1 f1 r1 R1 => ?_⟩
    unfold pZip at h3
    split at h3
    · cases h3
      simp only [Reps] at r1
      obtain ⟨v1, r, rfl, h4, v2, r', rfl, h5, rfl⟩ := r1
      simp only [Rep] at h4 h5
      obtain ⟨a, vs, rfl, g1, g2, g3⟩ := h4
      obtain ⟨b, us, rfl, k1, k2, k3⟩ := h5
      refine ⟨a, b, vs, us, rfl, .inl ⟨.inl (.inl g1), .inl (.inl k1), q _ H1 f1 ?_ R1⟩⟩
      refine ⟨_, _, walk_zipLL (K := X.K) (xs := vs) (ys := us) (by rw [zipD_len, g3.len, k3.len]), fun B2 H2 st dm => ⟨⟨.inl (.inl (st a _ g1 g2).1), .inl (.inl (st b _ k1 k2).1)⟩, fun i d x H3 hd y => zip_rep dm (g3.mv st) (k3.mv st) hd y⟩⟩
    · cases h3
      simp only [Reps] at r1
      obtain ⟨v1, r, rfl, h4, v2, r', rfl, h5, rfl⟩ := r1
      simp only [Rep] at h4 h5
      obtain ⟨a, vs, rfl, g1, g3⟩ := h4
      obtain ⟨b, us, rfl, k1, k3⟩ := h5
      have sq : ∀ {B : Bar} {H H' : Hp} {c : Addr} {ws : List V} {es : List D}, (∀ a o, H a = some o → ¬ B a → H' a = some o) → ((TpAt H c es ws ∧ ¬ B c) ∨ KT G.K c ws) → SqT G.K H' c ws := fun k z => z.elim (fun z => (z.1.mv fun o e => k _ o e z.2).sq) (·.sq)
      rw [hK]
      refine ⟨a, b, vs, us, rfl, .inr ⟨sq (B := fun a => B a ∨ O a) (fun a o e _ => e) g1, sq (B := fun a => B a ∨ O a) (fun a o e _ => e) k1, q _ H1 f1 ?_ R1⟩⟩
      refine ⟨_, _, walk_zipTT (K := G.K) (xs := vs) (ys := us) (by rw [zipD_len, g3.len, k3.len]), fun B2 H2 st dm => ⟨⟨sq (B := fun a => B a ∨ O a) (fun a o e n => (st a o e n).1) g1, sq (B := fun a => B a ∨ O a) (fun a o e n => (st a o e n).1) k1⟩, fun i d x H3 hd y => zip_rep dm (g3.mv st) (k3.mv st) hd y⟩⟩
    · cases h3
end
end Dl
set_option Elab.async false
set_option linter.all false
set_option maxRecDepth 100000
set_option maxHeartbeats 4000000
/-! sets of texts on data -/
namespace Dl
open PySem PySem.Spec PyProof.Rows L2 Ds
theorem perm_nd : ∀ (l ks : List Str), l.Nodup → ks.Nodup → (∀ x, x ∈ l ↔ x ∈ ks) → l.Perm ks
  | [], ks, _, _, h => by
    cases ks with
    | nil => exact List.Perm.refl _
    | cons k ks => exact absurd ((h k).mpr List.mem_cons_self) (by simp)
  | a :: l, ks, n1, n2, h => by
    obtain ⟨m1, m2⟩ := List.nodup_cons.mp n1
    have hp := List.perm_cons_erase ((h a).mp List.mem_cons_self)
    have n3 := List.nodup_cons.mp (hp.nodup_iff.mp n2)
    refine List.Perm.trans (List.Perm.cons a (perm_nd l (ks.erase a) m2 n3.2 fun x => ?_)) hp.symm
    constructor
    · intro hx
      have hxa : x ≠ a := fun z => m1 (z ▸ hx)
      exact (List.mem_erase_of_ne hxa).mpr ((h x).mp (List.mem_cons_of_mem _ hx))
    · intro hx
      have hxa : x ≠ a := fun z => n3.1 (z ▸ hx)
      rcases List.mem_cons.mp ((h x).mpr ((List.mem_erase_of_ne hxa).mp hx)) with z | z
      · exact absurd z hxa
      · exact z
/-- a reading whose value is a new set of texts -/
abbrev Es (S : Type) := Rho → S → Option (List Str × S)
section
variable {S : Type} {X : Cx} {G : Kx} {Z : Zk S} {W : List Nat} {f g : Ev S} {F1 F2 : Es S} {a b c e tg : Expr} {es : List Expr} {pos p : Pos} {x : Str}
end
theorem plus_nd {l : List Str} (h : l.Nodup) (k : Str) : (plus l k).Nodup := by
  unfold plus
  split
  · exact h
  · exact List.nodup_cons.mpr ⟨by assumption, h⟩
theorem plus_mem {l : List Str} {k x : Str} : x ∈ plus l k ↔ x = k ∨ x ∈ l := by
  unfold plus
  split
  · constructor
    · exact .inr
    · rintro (rfl | h)
      · assumption
      · exact h
  · exact List.mem_cons
theorem gath_go : ∀ (xs l : List Str), l.Nodup → (xs.foldl plus l).Nodup ∧ ∀ x, x ∈ xs.foldl plus l ↔ x ∈ xs ∨ x ∈ l
  | [], l, h => ⟨h, fun x => by simp⟩
  | k :: xs, l, h => by
    obtain ⟨h1, h2⟩ := gath_go xs (plus l k) (plus_nd h k)
    refine ⟨h1, fun x => ?_⟩
    rw [List.foldl_cons, h2 x, plus_mem, List.mem_cons]
    constructor
    · rintro (h | h | h)
      · exact .inl (.inr h)
      · exact .inl (.inl h)
      · exact .inr h
    · rintro ((h | h) | h)
      · exact .inr (.inl h)
      · exact .inl h
      · exact .inr (.inr h)
theorem gath_nd (xs : List Str) : (gath xs).Nodup := (gath_go xs [] List.nodup_nil).1
theorem gath_mem {xs : List Str} {x : Str} : x ∈ gath xs ↔ x ∈ xs := by
  rw [show gath xs = xs.foldl plus [] from rfl, (gath_go xs [] List.nodup_nil).2 x]
  simp
end Dl
set_option Elab.async false
set_option linter.all false
set_option maxRecDepth 100000
set_option maxHeartbeats 4000000
/-! t[::-1] of a tuple, of a list, on data -/
namespace Ds
open PySem PySem.Spec PyProof.Rows L2
section
variable {prog : Program} {w : World} {A : Around} {E : Value → Shared → Prop} {s : Shared}
end
end Ds
namespace Dl
open PySem PySem.Spec PyProof.Rows L2 Ds
end Dl
set_option Elab.async false
set_option linter.all false
set_option maxRecDepth 100000
set_option maxHeartbeats 4000000
namespace Dl
open PySem PySem.Spec PyProof.Rows L2 Ds
section
variable {S : Type} {X : Cx} {G : Kx} {Z : Zk S} {W : List Nat} {f g : Ev S} {a b c e tg : Expr} {es : List Expr} {pos p : Pos} {x : Str}
end
end Dl
set_option Elab.async false
set_option linter.all false
set_option maxRecDepth 100000
set_option maxHeartbeats 4000000
/-! the end of a law some of whose defs have generator expressions -/
namespace Dl
open PySem PySem.Spec PyProof.Rows L2 GxR
theorem law_many {l : PySem.W.OpenLaw} {w : World} {K : PySem.W.Frag} {CX : CXT} {k n : Nat} {x : Str} {mg mb : Str → Option Value} {fa : Addr} {h : Heap} {q : Program} {loose : List Str} {mean : ExcName → Option Value} {fd : FuncData} {sp : Sp} (ts : List (Addr × Addr))
    (Tp : Top q (PySem.W.looseW q loose) mean mg mb h) (KX : K.In h) (hts : ∀ p ∈ ts, ∃ (y : Str) (d : DefRec), (recsOf q).find? (fun e => e.name == y) = some d ∧ PySem.W.tabIn K y = some p) (hk : PySem.W.noTabs K = true)
    (hb : ∀ (s : Shared) (u : Value), BindsTo s fd ⟨[u], []⟩ [(x, u)])
    (hsp : ∀ (H : Hp) (a : Addr) (ns : List Int), (∀ p ∈ ts, TabG H p.2) → SqL K H a (ns.map V.int) → sp [.ref a] H (fun v _ => v = .bl true) fun _ _ _ => False)
    (hF : ∀ base : Heap, K.In base → base.Ns mainGlobals mg → (∀ p ∈ ts, TabB base mg p.1 p.2) → FnOk l.prog w K mg base CX k fa fd [x] sp) : LamX.LawAtS l w K CX k n x mg fa h := by
  refine ⟨fd, ts, sp, fun p hp => ?_, fun p hp => ?_, fun p hp => ?_, hb, fun H a ns _ _ ht hS => hsp H a ns (fun p hp => ⟨#[], ht p hp, trivial⟩) hS, fun base b1 b2 b3 => hF base b1 b2 fun p hp => ⟨(b3 p hp).code, (b3 p hp).bm, (b3 p hp).gP⟩⟩
  · obtain ⟨y, d, hr, ht⟩ := hts p hp
    exact (PySem.W.tab_of Tp KX hr ht).2
  · obtain ⟨y, d, hr, ht⟩ := hts p hp
    have hT := (PySem.W.tab_of Tp KX hr ht).2
    cases e : K.lookup p.2 with
    | none => rfl
    | some o =>
      have e2 := KX p.2 o e
      rw [hT] at e2
      cases e2
      have h2 := List.all_eq_true.mp hk _ (PySem.W.mem_of_lookupK e)
      exact absurd (show false = true from h2) Bool.false_ne_true
  · obtain ⟨y, d, hr, ht⟩ := hts p hp
    exact (PySem.W.tab_of Tp KX hr ht).1
end Dl
set_option Elab.async false
set_option linter.all false
set_option maxRecDepth 100000
set_option maxHeartbeats 4000000
/-! the deck of the laws of counts: one list, how many were drawn, a seed, the cells -/
namespace Dl
open PySem PySem.Spec PyProof.Rows L2 GxR
def Dk8 (d : Addr) (H : Hp) (s : DS) : Prop := H d = some (.lst (.int s.2.2 :: .int s.2.1 :: s.1.map V.int)) ∧ s.1.length ≤ 63
def Zd8 (d : Addr) : Zk DS where
  M := fun a => a = d
  R := Dk8 d
  dom := fun H s a h m => by
    subst m
    rw [h.1]
    simp
  loc := fun H H' s h k => ⟨(k d rfl).trans h.1, h.2⟩
def m8a (a k : Int) : Int := (a % 2147483647 * 48271 + k * 69621 + 7919) % 2147483629
def m8b (a k : Int) : Int := (m8a a k * m8a a k + 16807 * m8a a k + k) % 2147483587
def m8F (a k : Int) : Int := (m8b a k % 65536 * 32749 + m8b a k / 65536) * 39373 % 2147483563
def drawG (s : DS) (m : Int) : Int × DS := match s.1.getLast? with
  | none => (m8F s.2.1 (s.2.2 + 1) % m, ([], s.2.1, s.2.2 + 1))
  | some x => if x < 10 ^ 18 then (m8F x (s.2.2 + 1) % m, (s.1.dropLast, s.2.1, s.2.2 + 1)) else (x % m, (s.1.dropLast ++ [x / m], s.2.1, s.2.2 + 1))
theorem drawG_range (s : DS) {m : Int} (hm : 0 < m) : 0 ≤ (drawG s m).1 ∧ (drawG s m).1 < m := by
  have fin : ∀ r : Int, 0 ≤ r % m ∧ r % m < m := fun r => ⟨Int.emod_nonneg _ (by omega), Int.emod_lt_of_pos _ hm⟩
  unfold drawG
  split
  · exact fin _
  · split
    · exact fin _
    · exact fin _
def Fdraw8 : Fn DS := fun ds s => match ds with
  | [.dict [(.int 0, .none)], .int m] => if 0 < m ∧ m < 1073741824 then some (.int (drawG s m).1, (drawG s m).2) else none
  | _ => none
theorem fdraw8 {s : DS} {m : Int} (h : 0 < m) (h2 : m < 1073741824) : Fdraw8 [hnd 0, .int m] s = some (.int (drawG s m).1, (drawG s m).2) := by
  show (if 0 < m ∧ m < 1073741824 then some (PyData.int (drawG s m).1, (drawG s m).2) else none) = _
  rw [if_pos ⟨h, h2⟩]
theorem k_draw8 {s : DS} {m : Int} {Q : D → DS → Prop} (h : 0 < m) (h2 : m < 1073741824) (q : ∀ (r : Int) s', 0 ≤ r → r < m → Q (.int r) s') : Ok (Fdraw8 [hnd 0, .int m] s) Q :=
  ⟨_, _, fdraw8 h h2, q _ _ (drawG_range s h).1 (drawG_range s h).2⟩
theorem zd8_ne {d : Addr} (H : Hp) (s : DS) (a : Addr) (h : (Zd8 d).R H s) (m : (Zd8 d).M a) (ps : Array Value) : H a ≠ some (.tbl ps) := by
  have m : a = d := m
  subst m
  rw [h.1]
  intro z
  cases z
def Zt8 (d : Addr) (Ts : List Addr) : Zk DS := (Zd8 d).tb Ts zd8_ne
theorem ztab8 {d T : Addr} {Ts : List Addr} (hT : T ∈ Ts) : ZTab (Zt8 d Ts) T where
  m := .inr hT
  tab := fun H s h => h.2 T hT
  put := fun H H' s h t => by
    have ne : ∀ a, (Zd8 d).M a → a ≠ T := fun a m z => by
      obtain ⟨ps, e, _⟩ := h.2 T hT
      exact zd8_ne H s a h.1 m ps (by rw [z]; exact e)
    refine ⟨(Zd8 d).loc H H' s h.1 fun a m => t.2 a (ne a m), fun T' m => ?_⟩
    by_cases e : T' = T
    · rw [e]; exact t.1
    · obtain ⟨ps, e1, e2⟩ := h.2 T' m
      exact ⟨ps, (t.2 T' e).trans e1, e2⟩
section
variable {P : Program} {w : World} {K : PySem.W.Frag} {mg : Str → Option Value} {base : Heap} {f : Addr} {fd : FuncData}
theorem fn_zt8 {d : Addr} {Ts : List Addr} {k n : Nat} {ps : List Str} {F : Fn DS} {hd : Nat → Addr → Prop} (h : FnOk P w K mg base CX0 k f fd ps (spD ⟨K, hd⟩ (Zd8 d) n F)) : FnOk P w K mg base CX0 k f fd ps (spD ⟨K, hd⟩ (Zt8 d Ts) n F) := by
  have key : ∀ vs H Q E, spD ⟨K, hd⟩ (Zt8 d Ts) n F vs H Q E → spD ⟨K, hd⟩ (Zd8 d) n F vs H Q E := fun vs H Q E ⟨B, ds, s, x, s', h1, bd, mb, h2, R, hF, q⟩ =>
    ⟨B, ds, s, x, s', h1, bd, fun a m => mb a (.inl m), h2, R.1, hF, fun v H' f1 r1 R1 => q v H' (fun b o e => by
      obtain ⟨o', e1, e2⟩ := f1 b o e
      exact ⟨o', e1, fun n9 => e2 fun m => n9 (.inl m)⟩) r1 ⟨R1, fun T m => by
        obtain ⟨ps, e, t⟩ := R.2 T m
        exact ⟨ps, f1.at e fun m2 => zd8_ne H s T R.1 m2 ps e, t⟩⟩⟩
  exact ⟨fun vs H Q E z => h.len vs H Q E (key _ _ _ _ z), fun A outer s H args us vs Q E hr he hb hv hsp => h.run A outer s H args us vs Q E hr he hb hv (key _ _ _ _ hsp)⟩
def tRest8 (K : PySem.W.Frag) (Ts : List Addr) (W : List Nat) (F : Sv DS) : TS := fun E σ H => ∃ d, tSt ⟨K, hdD d⟩ (Zt8 d Ts) W F E σ H
theorem pss_rest8 {X : Cx} {Ts : List Addr} {W : List Nat} {F : Sv DS} {st : List Stmt} (h : ∀ d, PSs X st (tSt ⟨K, hdD d⟩ (Zt8 d Ts) W F)) : PSs X st (tRest8 K Ts W F) := ⟨fun pins s σ H D I ⟨d, q⟩ => (h d).run pins s σ H D I q⟩
theorem rest_at8 {Ts : List Addr} {W : List Nat} {F : Sv DS} {n : Nat} {d a : Addr} {H : Hp} {s : DS} {Q : VK} {nx : L2.St → Hp → Prop} (k : Dk8 d H s) (kt : ∀ T ∈ Ts, TabG H T) (hW : ∀ i ∈ W, 2 ≤ i) (ht : Ok (F (lawR n) s) fun r _ => r = .rt (.bool true)) (q : ∀ H', Q (.bl true) H') :
    tRest8 K Ts W F { nx := nx, rt := Q } (some (.ref a) :: some (.ref d) :: List.replicate n none) H := by
  obtain ⟨r, s', e, rfl⟩ := ht
  have kz : (Zt8 d Ts).R H s := ⟨k, kt⟩
  refine ⟨d, (Zt8 d Ts).M, H, fun _ => False, lawR n, s, .rt (.bool true), s', ⟨⟨⟨?_, ?_, ?_⟩, ?_, fun _ z => z.elim, fun _ z => z, fun _ z => z.elim⟩, Lc.Fr.refl H, ?_, fun _ z => z.elim, kz⟩, e, ?_⟩
  · simp [lawR]
  · intro i x hi hx
    match i, hx with
    | 0, hx => cases hx
    | 1, hx =>
      cases hx
      refine ⟨.ref d, rfl, ?_⟩
      show Rep _ _ H (hnd 0) (.ref d)
      unfold hnd
      simp only [Rep]
      exact ⟨d, rfl, .inl ⟨0, rfl, rfl, rfl⟩⟩
    | i + 2, hx =>
      have hx : (List.replicate n (none : Option D))[i]? = some (some x) := hx
      rw [List.getElem?_replicate] at hx
      split at hx <;> cases hx
  · have no : ∀ i x, i ∈ W → (lawR n)[i]? = some (some x) → False := fun i x hi hx => by
      have h2 := hW i hi
      match i, hx with
      | i + 2, hx =>
        have hx : (List.replicate n (none : Option D))[i]? = some (some x) := hx
        rw [List.getElem?_replicate] at hx
        split at hx <;> cases hx
    exact ⟨fun _ => 0, (fun i j x y hi _ hx => (no i x hi hx).elim), fun i x hi hx => (no i x hi hx).elim⟩
  · exact fun a z => (Zt8 d Ts).dom H s a kz z
  · exact fun a z => (Zt8 d Ts).dom H s a kz z
  · intro v H' _ hr _
    simp only [Rep] at hr
    rw [hr]
    exact q H'
end
end Dl
set_option Elab.async false
set_option linter.all false
set_option maxRecDepth 100000
set_option maxHeartbeats 4000000
/-! a def whose first statement makes a dict of its own, texts to whole numbers: the dict is a handle into the state -/
namespace Dl
open PySem PySem.Spec PyProof.Rows L2 Ds
abbrev KV := List (Str × Int)
def kvV (m : KV) : List (Key × V) := m.map fun p => (Sum.inr p.1, V.int p.2)
def kvGet (m : KV) (k : Str) : Option Int := (m.find? fun p => decide (p.1 = k)).map (·.2)
def kvPut (m : KV) (k : Str) (v : Int) : KV := if (m.any fun p => decide (p.1 = k)) = true then m.map (fun p => if p.1 = k then (p.1, v) else p) else m ++ [(k, v)]
theorem kv_get (k : Str) : ∀ m : KV, valV (kvV m) (Sum.inr k : Key) = (kvGet m k).map V.int
  | [] => rfl
  | (a, n) :: m => by
    have ih := kv_get k m
    by_cases e : a = k
    · subst e
      simp [valV, kvV, kvGet]
    · unfold valV kvV kvGet at ih ⊢
      simp only [List.map_cons, List.find?_cons]
      have e2 : decide ((Sum.inr a : Key) = Sum.inr k) = false := decide_eq_false fun z => e (Sum.inr.inj z)
      rw [e2, decide_eq_false e]
      exact ih
theorem kv_put (m : KV) (k : Str) (v : Int) : putK (kvV m) (Sum.inr k : Key) (.int v) = kvV (kvPut m k v) := by
  have h1 : ((kvV m).any fun p => decide (p.1 = (Sum.inr k : Key))) = m.any fun p => decide (p.1 = k) := by
    unfold kvV
    rw [List.any_map]
    congr 1
    funext p
    simp
  unfold putK kvPut
  rw [h1]
  split
  · unfold kvV
    rw [List.map_map, List.map_map]
    refine List.map_congr_left fun p _ => ?_
    by_cases e : p.1 = k
    · simp [e]
    · simp [e]
  · simp [kvV]
def isH1 : List (D × D) → Bool
  | [(.int n, .none)] => decide (n = 1)
  | _ => false
mutual
/-- nothing in it is the handle of the dict -/
def noH : D → Bool
  | .list ds => noHs ds
  | .tuple ds => noHs ds
  | .dict kvs => !isH1 kvs && noHk kvs
  | _ => true
def noHs : List D → Bool
  | [] => true
  | d :: ds => noH d && noHs ds
def noHk : List (D × D) → Bool
  | [] => true
  | (_, d) :: r => noH d && noHk r
end
def hdc (hd : Nat → Addr → Prop) (p : Addr) : Nat → Addr → Prop := fun n a => if n = 1 then a = p else hd n a
section
variable {K : PySem.W.Frag} {hd : Nat → Addr → Prop} {p : Addr} {B : Bar} {H : Hp}
mutual
theorem rep_h : ∀ (d : D) (v : V), noH d = true → (Rep ⟨K, hd⟩ B H d v ↔ Rep ⟨K, hdc hd p⟩ B H d v)
  | .none, v, _ => by simp only [Rep]
  | .bool _, v, _ => by simp only [Rep]
  | .int _, v, _ => by simp only [Rep]
  | .str _, v, _ => by simp only [Rep]
  | .list ds, v, h => by
    simp only [Rep]
    have := fun vs => reps_h ds vs (by simpa [noH] using h)
    constructor
    · rintro ⟨a, vs, e, h1, h2, h3⟩
      exact ⟨a, vs, e, h1, h2, (this vs).mp h3⟩
    · rintro ⟨a, vs, e, h1, h2, h3⟩
      exact ⟨a, vs, e, h1, h2, (this vs).mpr h3⟩
  | .tuple ds, v, h => by
    simp only [Rep]
    have := fun vs => reps_h ds vs (by simpa [noH] using h)
    constructor
    · rintro ⟨a, vs, e, h1, h3⟩
      exact ⟨a, vs, e, h1, (this vs).mp h3⟩
    · rintro ⟨a, vs, e, h1, h3⟩
      exact ⟨a, vs, e, h1, (this vs).mpr h3⟩
  | .dict kvs, v, h => by
    simp only [Rep]
    have h : isH1 kvs = false ∧ noHk kvs = true := by simpa [noH] using h
    have hk := fun vs => repk_h kvs vs h.2
    have key : ∀ (n : Nat) (a : Addr), kvs = [(.int (n : Nat), .none)] → (hd n a ↔ hdc hd p n a) := fun n a e => by
      subst e
      have hn : n ≠ 1 := fun z => by
        subst z
        simp [isH1] at h
      unfold hdc
      rw [if_neg hn]
    constructor
    · rintro ⟨a, e, ⟨n, e2, h1⟩ | ⟨h1, kv, h2, h3, h4⟩⟩
      · exact ⟨a, e, .inl ⟨n, e2, (key n a e2).mp h1⟩⟩
      · exact ⟨a, e, .inr ⟨h1, kv, h2, h3, (hk kv).mp h4⟩⟩
    · rintro ⟨a, e, ⟨n, e2, h1⟩ | ⟨h1, kv, h2, h3, h4⟩⟩
      · exact ⟨a, e, .inl ⟨n, e2, (key n a e2).mpr h1⟩⟩
      · exact ⟨a, e, .inr ⟨h1, kv, h2, h3, (hk kv).mpr h4⟩⟩
theorem reps_h : ∀ (ds : List D) (vs : List V), noHs ds = true → (Reps ⟨K, hd⟩ B H ds vs ↔ Reps ⟨K, hdc hd p⟩ B H ds vs)
  | [], vs, _ => by simp only [Reps]
  | d :: ds, vs, h => by
    simp only [Reps]
    have h : noH d = true ∧ noHs ds = true := by simpa [noHs] using h
    constructor
    · rintro ⟨v, r, e, h1, h2⟩
      exact ⟨v, r, e, (rep_h d v h.1).mp h1, (reps_h ds r h.2).mp h2⟩
    · rintro ⟨v, r, e, h1, h2⟩
      exact ⟨v, r, e, (rep_h d v h.1).mpr h1, (reps_h ds r h.2).mpr h2⟩
theorem repk_h : ∀ (ds : List (D × D)) (vs : List (Key × V)), noHk ds = true → (Repk ⟨K, hd⟩ B H ds vs ↔ Repk ⟨K, hdc hd p⟩ B H ds vs)
  | [], vs, _ => by simp only [Repk]
  | (_, d) :: ds, vs, h => by
    simp only [Repk]
    have h : noH d = true ∧ noHk ds = true := by simpa [noHk] using h
    constructor
    · rintro ⟨q, v, r, e, h0, h1, h2⟩
      exact ⟨q, v, r, e, h0, (rep_h d v h.1).mp h1, (repk_h ds r h.2).mp h2⟩
    · rintro ⟨q, v, r, e, h0, h1, h2⟩
      exact ⟨q, v, r, e, h0, (rep_h d v h.1).mpr h1, (repk_h ds r h.2).mpr h2⟩
end
end
/-- what is shared, and the dict at p -/
def Zdc {S : Type} (Z : Zk S) (p : Addr) : Zk (S × KV) where
  M := fun a => Z.M a ∨ a = p
  R := fun H s => Z.R H s.1 ∧ H p = some (.dK (kvV s.2)) ∧ ¬ Z.M p
  dom := fun H s a h m => m.elim (Z.dom H s.1 a h.1) fun e => by
    rw [e, h.2.1]
    simp
  loc := fun H H' s h k => ⟨Z.loc H H' s.1 h.1 fun a m => k a (.inl m), (k p (.inr rfl)).trans h.2.1, h.2.2⟩
def fnDk {S : Type} (n i : Nat) (F : Sv (S × KV)) : Fn S := fun ds s => if noHs ds = true then match F ((startR n ds).set i (some (hnd 1))) (s, []) with
  | some (.rt d, s') => if noH d = true then some (d, s'.1) else none
  | some (.nx _, s') => some (.none, s'.1)
  | _ => none else none
section
variable {S : Type} {P : Program} {w : World} {K : PySem.W.Frag} {mg : Str → Option Value} {base : Heap} {hd : Nat → Addr → Prop} {Z : Zk S} {W : List Nat} {F : Sv (S × KV)}
theorem fn_okD {nm qual : Str} {st : Stmt} {fad : Addr} {fd : FuncData} {N ps : List Str} {k n m i : Nat} {x : Str} {px pd pa : Pos} {rest : List Stmt} (U : Fun K nm qual st fad fd) (sc : FnScope N ps (defScope st)) (hn : N.length = n) (hm : ps.length = m) (hmn : m ≤ n) (hW : ∀ i ∈ W, m ≤ i) (hi : W.contains i = false)
    (hbody : defBody st = .Assign [.Name x px] (.Dict [] [] pd) pa :: rest)
    (h0 : ∀ (cdv : Value) (A : Around) (outer : List Env) (s : Shared) (H : Hp) (E : XK), PS (cxOf CX0 P w K mg base N qual (defScope st) fad cdv A outer s H E).nox (.Assign [.Name x px] (.Dict [] [] pd) pa) (tAsg tDNewK (gName i)))
    (hb : ∀ (p : Addr) (cdv : Value) (A : Around) (outer : List Env) (s : Shared) (H : Hp) (E : XK), Room k (A.deeper (envOfC qual (defScope st) s.heap.objs.size fad cdv)) → PSs (cxOf CX0 P w K mg base N qual (defScope st) fad cdv A outer s H E).nox rest (tSt ⟨K, hdc hd p⟩ (Zdc Z p) W F)) :
    FnOk P w K mg base CX0 (k + 1) fad fd ps (spD ⟨K, hd⟩ Z m (fnDk n i F)) := by
  refine U.ok sc (fun vs H Q E h => ?_) (fun cdv A outer s H vs Q E hr h => ?_)
  · obtain ⟨B, ds, s, d, s', h1, _, _, h2, _⟩ := h
    rw [h2.len, h1, hm]
  · rw [hbody]
    refine ⟨_, pss_cons (h0 cdv A outer s H E) (⟨fun pins s' σ H' D I ⟨p, q⟩ => (hb p cdv A outer s H E hr).run pins s' σ H' D I q⟩ : PSs _ rest (fun E σ H => ∃ p, tSt ⟨K, hdc hd p⟩ (Zdc Z p) W F E σ H)), ?_⟩
    obtain ⟨B, ds, s0, d, s', h1, bd, mb, h2, R0, hF, q⟩ := h
    intro p np
    have zp : ¬ Z.M p := fun z => bd p (mb p z) np
    unfold fnDk at hF
    split at hF
    · rename_i hno
      have e1 : (upd H p (.dK [])) p = some (.dK []) := upd_same
      have sm := Lc.same_new (o := .dK []) np
      have bd1 : ∀ a, (B a ∨ a = p) → (upd H p (.dK [])) a ≠ none := fun a z => z.elim (fun z => by
        obtain ⟨o, e⟩ := some_of_ne (bd a z)
        rw [sm a o e]
        simp) fun z => by rw [z, e1]; simp
      have r1 : Reps ⟨K, hdc hd p⟩ (fun a => B a ∨ a = p) (upd H p (.dK [])) ds vs := ((reps_h ds vs hno).mp h2).mv fun a o e nb => ⟨sm a o e, fun z => z.elim nb fun z => by rw [z, np] at e; cases e⟩
      have eo := eo_start (W := W) (Z := Zdc Z p) (N := N) hn bd1 (fun a z => z.imp (mb a) id) r1 (by omega) (by rw [h1]; exact hW)
      have eo2 := eo.set (i := i) (d := hnd 1) (v := .ref p) (by simpa using hi) (by
        unfold hnd
        simp only [Rep]
        exact ⟨p, rfl, .inl ⟨1, rfl, by unfold hdc; rw [if_pos rfl]⟩⟩)
      have R1 : (Zdc Z p).R (upd H p (.dK [])) (s0, []) := ⟨Z.same R0 sm, e1, zp⟩
      have sr : Sr ⟨K, hdc hd p⟩ (Zdc Z p) W (fun a => B a ∨ a = p) (upd H p (.dK [])) (fun _ => False) (upd H p (.dK [])) ((L2.start N vs).set i (some (.ref p))) ((startR n ds).set i (some (hnd 1))) (s0, []) := ⟨eo2, Lc.Fr.refl _, bd1, fun _ z => z.elim, R1⟩
      have frb : ∀ H', Lc.Fr (Zdc Z p).M (upd H p (.dK [])) H' → Lc.Fr Z.M H H' := fun H' f b o e => by
        obtain ⟨o', e2, e3⟩ := f b o (sm b o e)
        refine ⟨o', e2, fun nb => e3 fun z => z.elim nb fun z => ?_⟩
        rw [z, np] at e
        cases e
      split at hF
      · rename_i d' s1 e9
        split at hF
        · rename_i hnd'
          cases hF
          refine ⟨p, fun a => B a ∨ a = p, _, fun _ => False, _, _, .rt d, _, sr, e9, fun v H' f1 r3 R3 => ?_⟩
          exact q v H' (frb H' f1) (((rep_h d v hnd').mpr r3).sub fun a z _ => .inl z) R3.1
        · cases hF
      · rename_i ρ' s1 e9
        cases hF
        refine ⟨p, fun a => B a ∨ a = p, _, fun _ => False, _, _, .nx ρ', _, sr, e9, fun O' σ' H' sr' _ => ?_⟩
        exact q .non H' (frb H' sr'.fr) (by simp only [Rep]) sr'.r.1
      · cases hF
    · cases hF
end
end Dl
set_option Elab.async false
set_option linter.all false
set_option maxRecDepth 100000
set_option maxHeartbeats 4000000
/-! the dict that a def makes: read, stored, sorted -/
namespace Dl
open PySem PySem.Spec PyProof.Rows L2 Ds
theorem Room_units1 {A : Around} {k : Nat} (hr : Room k A) : A.units + 1 < cLine := by have := hr.un; omega
def isH (ρ : Rho) (i : Nat) : Bool := match ρ[i]? with
  | some (some (.dict [(.int 1, .none)])) => true
  | _ => false
section
variable {S : Type}
def cDg2 (i : Nat) (f g : Ev (S × KV)) : Ev (S × KV) := fun ρ s => if isH ρ i = true then bnd (f ρ s) fun k s => bnd (g ρ s) fun z s => match k with
  | .str k => some ((match kvGet s.2 k with | some n => .int n | none => z), s)
  | _ => none else none
def cDi (i : Nat) (f : Ev (S × KV)) : Ev (S × KV) := fun ρ s => if isH ρ i = true then bnd (f ρ s) fun k s => match k with
  | .str k => match kvGet s.2 k with
    | some n => some (.int n, s)
    | none => none
  | _ => none else none
def sDp (i : Nat) (f g : Ev (S × KV)) : Sv (S × KV) := fun ρ s => if isH ρ i = true then bnd (g ρ s) fun v s => bnd (f ρ s) fun k s => match k, v with
  | .str k, .int n => if s.2.length < 1000 then some (.nx ρ, (s.1, kvPut s.2 k n)) else none
  | _, _ => none else none
def aSd (i : Nat) : Ea (S × KV) := fun ρ s => if isH ρ i = true ∧ s.2.length < 64 then some ((sortS (s.2.map (·.1))).map .str, s) else none
variable {X : Cx} {K : PySem.W.Frag} {hd : Nat → Addr → Prop} {p : Addr} {Z : Zk S} {W : List Nat} {f g : Ev (S × KV)} {e e2 : Expr} {x : Str} {px apos cpos pos pos' : Pos} {i : Nat}
theorem isH_at {B O : Bar} {H : Hp} {σ : L2.St} {ρ : Rho} (eo : Eo ⟨K, hdc hd p⟩ (Zdc Z p) W B O H σ ρ) (h : isH ρ i = true) (hi : W.contains i = false) : σ[i]? = some (some (.ref p)) := by
  unfold isH at h
  split at h
  · rename_i e
    obtain ⟨v, h1, h2⟩ := eo.er.pl i _ (by simpa using hi) e
    simp only [Rep] at h2
    obtain ⟨a, rfl, ⟨n, e1, h3⟩ | ⟨e1, _⟩⟩ := h2
    · have : n = 1 := by
        have := e1
        simp at this
        omega
      subst this
      have h3 : a = p := by simpa [hdc] using h3
      rw [h1, h3]
    · cases e1
  · cases h
theorem ex_dg2 (hu : X.A.units + 1 < cLine) (hx : PE X (.Name x px) (tVar i)) (he : PE X e (tEx ⟨K, hdc hd p⟩ (Zdc Z p) W f)) (hf : PE X e2 (tEx ⟨K, hdc hd p⟩ (Zdc Z p) W g)) (m : M2 X (.Name x px) "get" apos e e2 cpos) (hi : W.contains i = false := by rfl) :
    PE X (.Call (.Attribute (.Name x px) "get" apos) [e, e2] [] cpos) (tEx ⟨K, hdc hd p⟩ (Zdc Z p) W (cDg2 i f g)) :=
  imp_pe (pe_dget2 hu hx he hf m) fun σ H Q ⟨B, O, ρ, s, d, s', eo, hR, hF, q⟩ => by
    unfold cDg2 at hF
    split at hF
    · rename_i hh
      obtain ⟨k, s1, h1, hF⟩ := bnd_some hF
      obtain ⟨z, s2, h2, hF⟩ := bnd_some hF
      have hv := isH_at eo hh hi
      refine ⟨.ref p, hv, p, rfl, .inl ⟨_, .inl hR.2.1⟩, B, O, ρ, s, k, s1, eo, hR, h1, fun v1 H1 f1 r1 R1 => ?_⟩
      refine ⟨B, O, ρ, s1, z, s2, eo.fr f1, R1, h2, fun v2 H2 f2 r2 R2 => ?_⟩
      cases k with
      | str k =>
        cases hF
        have r1 := r1.fr f2 fun a z => .inl (eo.mb a z)
        simp only [Rep] at r1
        subst r1
        refine ⟨_, DGet.k (k := Sum.inr k) R2.2.1, ?_⟩
        rw [kv_get]
        cases hk : kvGet s'.2 k with
        | none =>
          rw [hk] at q
          exact q _ H2 (f1.trans f2) r2 R2
        | some n =>
          rw [hk] at q
          exact q _ H2 (f1.trans f2) (by simp only [Rep]; rfl) R2
      | _ => cases hF
    · cases hF
theorem ex_di (hu : X.A.units + 1 < cLine) (hx : PE X (.Name x px) (tVar i)) (he : PE X e (tEx ⟨K, hdc hd p⟩ (Zdc Z p) W f)) (hs : NoSl e) (hi : W.contains i = false := by rfl) :
    PE X (.Subscript (.Name x px) e pos) (tEx ⟨K, hdc hd p⟩ (Zdc Z p) W (cDi i f)) :=
  imp_pe (pe_dget hu hx he hs) fun σ H Q ⟨B, O, ρ, s, d, s', eo, hR, hF, q⟩ => by
    unfold cDi at hF
    split at hF
    · rename_i hh
      obtain ⟨k, s1, h1, hF⟩ := bnd_some hF
      have hv := isH_at eo hh hi
      refine ⟨.ref p, hv, B, O, ρ, s, k, s1, eo, hR, h1, fun v1 H1 f1 r1 R1 => ?_⟩
      split at hF
      · rename_i k
        split at hF
        · rename_i n hn
          cases hF
          simp only [Rep] at r1
          subst r1
          have := DGet.k (k := Sum.inr k) R1.2.1
          rw [kv_get, hn] at this
          exact ⟨p, .int n, rfl, this, q _ H1 f1 (by simp only [Rep]) R1⟩
        · cases hF
      · cases hF
    · cases hF
theorem nl_sortD (hc : X.calm = true) (hg : Gl X "sorted") (hm : X.mg "sorted" = none) (hx : PE X (.Name x px) (tVar i)) (hs : starEach [.Name x px] X.env = (false, eval (.Name x px) X.env) :: starEach [] X.env := by rfl) (hi : W.contains i = false := by rfl) :
    PE X (.Call (.Name "sorted" pos') [.Name x px] [] pos) (tNl ⟨K, hdc hd p⟩ (Zdc Z p) W (aSd i)) :=
  imp_pe (pe_callB (call_sortedD hc) hg hm (by decide +kernel) (pa_cons hx pa_nil hs) (he := hs)) fun σ H Q ⟨B, O, ρ, s, l, s', eo, hR, hF, q⟩ => by
    unfold aSd at hF
    split at hF
    · rename_i hh
      cases hF
      have hv := isH_at eo hh.1 hi
      refine ⟨.ref p, hv, p, _, s.2.map (·.1), rfl, .inl hR.2.1, ?_, by rw [List.length_map]; exact hh.2, fun ys p2 hp hso np => ?_⟩
      · unfold kvV
        rw [List.map_map, List.map_map]
        rfl
      · have e := sortS_eq hp hso
        subst e
        exact q p2 _ _ np (Lc.Fr.new np) upd_same reps_strs ((Zdc Z p).same hR (Lc.same_new np))
    · cases hF
theorem es_dput {value : Expr} (hu : X.A.units + 1 < cLine) (hx : PE X (.Name x px) (tVar i)) (he : PE X e (tEx ⟨K, hdc hd p⟩ (Zdc Z p) W f)) (hv : PE X value (tEx ⟨K, hdc hd p⟩ (Zdc Z p) W g)) (hs : swapsWith value (some (.Subscript (.Name x px) e pos')) pos.line X.env = pure false := by rfl) (hi : W.contains i = false := by rfl) :
    PS X (.Assign [.Subscript (.Name x px) e pos'] value pos) (tSt ⟨K, hdc hd p⟩ (Zdc Z p) W (sDp i f g)) :=
  imp_ps (ps_dput hu hx he hv hs) fun E σ H ⟨B, H0, O, ρ, s, r, s', sr, hF, q⟩ => by
    unfold sDp at hF
    split at hF
    · rename_i hh
      obtain ⟨v, s1, h1, hF⟩ := bnd_some hF
      obtain ⟨k, s2, h2, hF⟩ := bnd_some hF
      refine ⟨B, O, ρ, s, v, s1, sr.eo, sr.r, h1, fun v1 H1 f1 r1 R1 => ?_⟩
      have eo1 := sr.eo.fr f1
      refine ⟨.ref p, isH_at eo1 hh hi, B, O, ρ, s1, k, s2, eo1, R1, h2, fun v2 H2 f2 r2 R2 => ?_⟩
      split at hF
      case _ k n _ =>
        split at hF
        · rename_i hl
          cases hF
          have r1 := r1.fr f2 fun a z => .inl (sr.eo.mb a z)
          simp only [Rep] at r1 r2
          subst r1 r2
          refine ⟨p, _, rfl, DPut.k (k := Sum.inr _) R2.2.1 (by unfold kvV; rw [List.length_map]; exact Nat.lt_of_lt_of_le hl (by decide)), ?_⟩
          rw [kv_put]
          have f3 : Lc.Fr (Zdc Z p).M H (upd H2 p (.dK (kvV (kvPut s2.2 k n)))) := (f1.trans f2).trans (Lc.Fr.mut (.inr rfl))
          have R3 : (Zdc Z p).R (upd H2 p (.dK (kvV (kvPut s2.2 k n)))) (s2.1, kvPut s2.2 k n) := by
            refine ⟨Z.loc H2 _ s2.1 R2.1 fun a m => ?_, upd_same, R2.2.2⟩
            rw [upd_ne]
            intro z
            exact R2.2.2 (z ▸ m)
          exact q O σ _ (sr.step f3 R3) (Ch.of f3)
        · cases hF
      case _ => cases hF
    · cases hF
end
end Dl
set_option Elab.async false
set_option linter.all false
set_option maxRecDepth 100000
set_option maxHeartbeats 4000000
/-! a def's own dict of texts to scalars of one kind: as LcDct, LcDcu -/
namespace Dg
open PySem PySem.Spec PyProof.Rows L2 Ds Dl
/-- what a dict may hold as values: a kind of scalar data -/
class DV (A : Type) where
  v : A → V
  d : A → D
  of : D → Option A
  rep : ∀ (G : Kx) (B : Bar) (H : Hp) (a : A), Rep G B H (d a) (v a)
  back : ∀ x a, of x = some a → x = d a
  only : ∀ (G : Kx) (B : Bar) (H : Hp) (a : A) (u : V), Rep G B H (d a) u → u = v a
instance : DV Int := ⟨V.int, .int, fun x => match x with | .int n => some n | _ => none, fun G B H a => by simp only [Rep], fun x a h => by split at h <;> cases h; rfl, fun G B H a u h => by simpa only [Rep] using h⟩
instance : DV Bool := ⟨V.bl, .bool, fun x => match x with | .bool n => some n | _ => none, fun G B H a => by simp only [Rep], fun x a h => by split at h <;> cases h; rfl, fun G B H a u h => by simpa only [Rep] using h⟩
abbrev KV (B : Type) := List (Str × B)
variable {VA : Type} [DV VA]
def kvV (m : KV VA) : List (Key × V) := m.map fun p => (Sum.inr p.1, DV.v p.2)
def kvGet (m : KV VA) (k : Str) : Option VA := (m.find? fun p => decide (p.1 = k)).map (·.2)
def kvPut (m : KV VA) (k : Str) (v : VA) : KV VA := if (m.any fun p => decide (p.1 = k)) = true then m.map (fun p => if p.1 = k then (p.1, v) else p) else m ++ [(k, v)]
theorem kv_get (k : Str) : ∀ m : KV VA, valV (kvV m) (Sum.inr k : Key) = (kvGet m k).map DV.v
  | [] => rfl
  | (a, n) :: m => by
    have ih := kv_get k m
    by_cases e : a = k
    · subst e
      simp [valV, kvV, kvGet]
    · unfold valV kvV kvGet at ih ⊢
      simp only [List.map_cons, List.find?_cons]
      have e2 : decide ((Sum.inr a : Key) = Sum.inr k) = false := decide_eq_false fun z => e (Sum.inr.inj z)
      rw [e2, decide_eq_false e]
      exact ih
theorem kv_put (m : KV VA) (k : Str) (v : VA) : putK (kvV m) (Sum.inr k : Key) (DV.v v) = kvV (kvPut m k v) := by
  have h1 : ((kvV m).any fun p => decide (p.1 = (Sum.inr k : Key))) = m.any fun p => decide (p.1 = k) := by
    unfold kvV
    rw [List.any_map]
    congr 1
    funext p
    simp
  unfold putK kvPut
  rw [h1]
  split
  · unfold kvV
    rw [List.map_map, List.map_map]
    refine List.map_congr_left fun p _ => ?_
    by_cases e : p.1 = k
    · simp [e]
    · simp [e]
  · simp [kvV]
/-- what is shared, and the dict at p -/
def Zdc {S : Type} (Z : Zk S) (p : Addr) : Zk (S × KV VA) where
  M := fun a => Z.M a ∨ a = p
  R := fun H s => Z.R H s.1 ∧ H p = some (.dK (kvV s.2)) ∧ ¬ Z.M p
  dom := fun H s a h m => m.elim (Z.dom H s.1 a h.1) fun e => by
    rw [e, h.2.1]
    simp
  loc := fun H H' s h k => ⟨Z.loc H H' s.1 h.1 fun a m => k a (.inl m), (k p (.inr rfl)).trans h.2.1, h.2.2⟩
def fnDk {S : Type} (n i : Nat) (F : Sv (S × KV VA)) : Fn S := fun ds s => if noHs ds = true then match F ((startR n ds).set i (some (hnd 1))) (s, []) with
  | some (.rt d, s') => if noH d = true then some (d, s'.1) else none
  | some (.nx _, s') => some (.none, s'.1)
  | _ => none else none
section
variable {S : Type} {P : Program} {w : World} {K : PySem.W.Frag} {mg : Str → Option Value} {base : Heap} {hd : Nat → Addr → Prop} {Z : Zk S} {W : List Nat} {F : Sv (S × KV VA)}
theorem fn_okD {nm qual : Str} {st : Stmt} {fad : Addr} {fd : FuncData} {N ps : List Str} {k n m i : Nat} {x : Str} {px pd pa : Pos} {rest : List Stmt} (U : Fun K nm qual st fad fd) (sc : FnScope N ps (defScope st)) (hn : N.length = n) (hm : ps.length = m) (hmn : m ≤ n) (hW : ∀ i ∈ W, m ≤ i) (hi : W.contains i = false)
    (hbody : defBody st = .Assign [.Name x px] (.Dict [] [] pd) pa :: rest)
    (h0 : ∀ (cdv : Value) (A : Around) (outer : List Env) (s : Shared) (H : Hp) (E : XK), PS (cxOf CX0 P w K mg base N qual (defScope st) fad cdv A outer s H E).nox (.Assign [.Name x px] (.Dict [] [] pd) pa) (tAsg tDNewK (gName i)))
    (hb : ∀ (p : Addr) (cdv : Value) (A : Around) (outer : List Env) (s : Shared) (H : Hp) (E : XK), Room k (A.deeper (envOfC qual (defScope st) s.heap.objs.size fad cdv)) → PSs (cxOf CX0 P w K mg base N qual (defScope st) fad cdv A outer s H E).nox rest (tSt ⟨K, hdc hd p⟩ (Zdc (VA := VA) Z p) W F)) :
    FnOk P w K mg base CX0 (k + 1) fad fd ps (spD ⟨K, hd⟩ Z m (fnDk n i F)) := by
  refine U.ok sc (fun vs H Q E h => ?_) (fun cdv A outer s H vs Q E hr h => ?_)
  · obtain ⟨B, ds, s, d, s', h1, _, _, h2, _⟩ := h
    rw [h2.len, h1, hm]
  · rw [hbody]
    refine ⟨_, pss_cons (h0 cdv A outer s H E) (⟨fun pins s' σ H' D I ⟨p, q⟩ => (hb p cdv A outer s H E hr).run pins s' σ H' D I q⟩ : PSs _ rest (fun E σ H => ∃ p, tSt ⟨K, hdc hd p⟩ (Zdc (VA := VA) Z p) W F E σ H)), ?_⟩
    obtain ⟨B, ds, s0, d, s', h1, bd, mb, h2, R0, hF, q⟩ := h
    intro p np
    have zp : ¬ Z.M p := fun z => bd p (mb p z) np
    unfold fnDk at hF
    split at hF
    · rename_i hno
      have e1 : (upd H p (.dK [])) p = some (.dK []) := upd_same
      have sm := Lc.same_new (o := .dK []) np
      have bd1 : ∀ a, (B a ∨ a = p) → (upd H p (.dK [])) a ≠ none := fun a z => z.elim (fun z => by
        obtain ⟨o, e⟩ := some_of_ne (bd a z)
        rw [sm a o e]
        simp) fun z => by rw [z, e1]; simp
      have r1 : Reps ⟨K, hdc hd p⟩ (fun a => B a ∨ a = p) (upd H p (.dK [])) ds vs := ((reps_h ds vs hno).mp h2).mv fun a o e nb => ⟨sm a o e, fun z => z.elim nb fun z => by rw [z, np] at e; cases e⟩
      have eo := eo_start (W := W) (Z := Zdc (VA := VA) Z p) (N := N) hn bd1 (fun a z => z.imp (mb a) id) r1 (by omega) (by rw [h1]; exact hW)
      have eo2 := eo.set (i := i) (d := hnd 1) (v := .ref p) (by simpa using hi) (by
        unfold hnd
        simp only [Rep]
        exact ⟨p, rfl, .inl ⟨1, rfl, by unfold hdc; rw [if_pos rfl]⟩⟩)
      have R1 : (Zdc (VA := VA) Z p).R (upd H p (.dK [])) (s0, []) := ⟨Z.same R0 sm, e1, zp⟩
      have sr : Sr ⟨K, hdc hd p⟩ (Zdc (VA := VA) Z p) W (fun a => B a ∨ a = p) (upd H p (.dK [])) (fun _ => False) (upd H p (.dK [])) ((L2.start N vs).set i (some (.ref p))) ((startR n ds).set i (some (hnd 1))) (s0, []) := ⟨eo2, Lc.Fr.refl _, bd1, fun _ z => z.elim, R1⟩
      have frb : ∀ H', Lc.Fr (Zdc (VA := VA) Z p).M (upd H p (.dK [])) H' → Lc.Fr Z.M H H' := fun H' f b o e => by
        obtain ⟨o', e2, e3⟩ := f b o (sm b o e)
        refine ⟨o', e2, fun nb => e3 fun z => z.elim nb fun z => ?_⟩
        rw [z, np] at e
        cases e
      split at hF
      · rename_i d' s1 e9
        split at hF
        · rename_i hnd'
          cases hF
          refine ⟨p, fun a => B a ∨ a = p, _, fun _ => False, _, _, .rt d, _, sr, e9, fun v H' f1 r3 R3 => ?_⟩
          exact q v H' (frb H' f1) (((rep_h d v hnd').mpr r3).sub fun a z _ => .inl z) R3.1
        · cases hF
      · rename_i ρ' s1 e9
        cases hF
        refine ⟨p, fun a => B a ∨ a = p, _, fun _ => False, _, _, .nx ρ', _, sr, e9, fun O' σ' H' sr' _ => ?_⟩
        exact q .non H' (frb H' sr'.fr) (by simp only [Rep]) sr'.r.1
      · cases hF
    · cases hF
end
def isH (ρ : Rho) (i : Nat) : Bool := match ρ[i]? with
  | some (some (.dict [(.int 1, .none)])) => true
  | _ => false
section
variable {S : Type}
def cDg2 (i : Nat) (f g : Ev (S × KV VA)) : Ev (S × KV VA) := fun ρ s => if isH ρ i = true then bnd (f ρ s) fun k s => bnd (g ρ s) fun z s => match k with
  | .str k => some ((match kvGet s.2 k with | some n => DV.d n | none => z), s)
  | _ => none else none
def cDi (i : Nat) (f : Ev (S × KV VA)) : Ev (S × KV VA) := fun ρ s => if isH ρ i = true then bnd (f ρ s) fun k s => match k with
  | .str k => match kvGet s.2 k with
    | some n => some (DV.d n, s)
    | none => none
  | _ => none else none
def sDp (i : Nat) (f g : Ev (S × KV VA)) : Sv (S × KV VA) := fun ρ s => if isH ρ i = true then bnd (g ρ s) fun v s => bnd (f ρ s) fun k s => match k, DV.of (A := VA) v with
  | .str k, some n => if s.2.length < 1000 then some (.nx ρ, (s.1, kvPut s.2 k n)) else none
  | _, _ => none else none
def aSd (i : Nat) : Ea (S × KV VA) := fun ρ s => if isH ρ i = true ∧ s.2.length < 64 then some ((sortS (s.2.map (·.1))).map .str, s) else none
variable {X : Cx} {K : PySem.W.Frag} {hd : Nat → Addr → Prop} {p : Addr} {Z : Zk S} {W : List Nat} {f g : Ev (S × KV VA)} {e e2 : Expr} {x : Str} {px apos cpos pos pos' : Pos} {i : Nat}
theorem isH_at {B O : Bar} {H : Hp} {σ : L2.St} {ρ : Rho} (eo : Eo ⟨K, hdc hd p⟩ (Zdc (VA := VA) Z p) W B O H σ ρ) (h : isH ρ i = true) (hi : W.contains i = false) : σ[i]? = some (some (.ref p)) := by
  unfold isH at h
  split at h
  · rename_i e
    obtain ⟨v, h1, h2⟩ := eo.er.pl i _ (by simpa using hi) e
    simp only [Rep] at h2
    obtain ⟨a, rfl, ⟨n, e1, h3⟩ | ⟨e1, _⟩⟩ := h2
    · have : n = 1 := by
        have := e1
        simp at this
        omega
      subst this
      have h3 : a = p := by simpa [hdc] using h3
      rw [h1, h3]
    · cases e1
  · cases h
theorem ex_dg2 (hu : X.A.units + 1 < cLine) (hx : PE X (.Name x px) (tVar i)) (he : PE X e (tEx ⟨K, hdc hd p⟩ (Zdc (VA := VA) Z p) W f)) (hf : PE X e2 (tEx ⟨K, hdc hd p⟩ (Zdc (VA := VA) Z p) W g)) (m : M2 X (.Name x px) "get" apos e e2 cpos) (hi : W.contains i = false := by rfl) :
    PE X (.Call (.Attribute (.Name x px) "get" apos) [e, e2] [] cpos) (tEx ⟨K, hdc hd p⟩ (Zdc (VA := VA) Z p) W (cDg2 i f g)) :=
  imp_pe (pe_dget2 hu hx he hf m) fun σ H Q ⟨B, O, ρ, s, d, s', eo, hR, hF, q⟩ => by
    unfold cDg2 at hF
    split at hF
    · rename_i hh
      obtain ⟨k, s1, h1, hF⟩ := bnd_some hF
      obtain ⟨z, s2, h2, hF⟩ := bnd_some hF
      have hv := isH_at eo hh hi
      refine ⟨.ref p, hv, p, rfl, .inl ⟨_, .inl hR.2.1⟩, B, O, ρ, s, k, s1, eo, hR, h1, fun v1 H1 f1 r1 R1 => ?_⟩
      refine ⟨B, O, ρ, s1, z, s2, eo.fr f1, R1, h2, fun v2 H2 f2 r2 R2 => ?_⟩
      cases k with
      | str k =>
        cases hF
        have r1 := r1.fr f2 fun a z => .inl (eo.mb a z)
        simp only [Rep] at r1
        subst r1
        refine ⟨_, DGet.k (k := Sum.inr k) R2.2.1, ?_⟩
        rw [kv_get]
        cases hk : kvGet s'.2 k with
        | none =>
          rw [hk] at q
          exact q _ H2 (f1.trans f2) r2 R2
        | some n =>
          rw [hk] at q
          exact q _ H2 (f1.trans f2) (DV.rep _ _ _ n) R2
      | _ => cases hF
    · cases hF
theorem ex_di (hu : X.A.units + 1 < cLine) (hx : PE X (.Name x px) (tVar i)) (he : PE X e (tEx ⟨K, hdc hd p⟩ (Zdc (VA := VA) Z p) W f)) (hs : NoSl e) (hi : W.contains i = false := by rfl) :
    PE X (.Subscript (.Name x px) e pos) (tEx ⟨K, hdc hd p⟩ (Zdc (VA := VA) Z p) W (cDi i f)) :=
  imp_pe (pe_dget hu hx he hs) fun σ H Q ⟨B, O, ρ, s, d, s', eo, hR, hF, q⟩ => by
    unfold cDi at hF
    split at hF
    · rename_i hh
      obtain ⟨k, s1, h1, hF⟩ := bnd_some hF
      have hv := isH_at eo hh hi
      refine ⟨.ref p, hv, B, O, ρ, s, k, s1, eo, hR, h1, fun v1 H1 f1 r1 R1 => ?_⟩
      split at hF
      · rename_i k
        split at hF
        · rename_i n hn
          cases hF
          simp only [Rep] at r1
          subst r1
          have := DGet.k (k := Sum.inr k) R1.2.1
          rw [kv_get, hn] at this
          exact ⟨p, DV.v n, rfl, this, q _ H1 f1 (DV.rep _ _ _ n) R1⟩
        · cases hF
      · cases hF
    · cases hF
theorem nl_sortD (hc : X.calm = true) (hg : Gl X "sorted") (hm : X.mg "sorted" = none) (hx : PE X (.Name x px) (tVar i)) (hs : starEach [.Name x px] X.env = (false, eval (.Name x px) X.env) :: starEach [] X.env := by rfl) (hi : W.contains i = false := by rfl) :
    PE X (.Call (.Name "sorted" pos') [.Name x px] [] pos) (tNl ⟨K, hdc hd p⟩ (Zdc (VA := VA) Z p) W (aSd i)) :=
  imp_pe (pe_callB (call_sortedD hc) hg hm (by decide +kernel) (pa_cons hx pa_nil hs) (he := hs)) fun σ H Q ⟨B, O, ρ, s, l, s', eo, hR, hF, q⟩ => by
    unfold aSd at hF
    split at hF
    · rename_i hh
      cases hF
      have hv := isH_at eo hh.1 hi
      refine ⟨.ref p, hv, p, _, s.2.map (·.1), rfl, .inl hR.2.1, ?_, by rw [List.length_map]; exact hh.2, fun ys p2 hp hso np => ?_⟩
      · unfold kvV
        rw [List.map_map, List.map_map]
        rfl
      · have e := sortS_eq hp hso
        subst e
        exact q p2 _ _ np (Lc.Fr.new np) upd_same reps_strs ((Zdc (VA := VA) Z p).same hR (Lc.same_new np))
    · cases hF
theorem es_dput {value : Expr} (hu : X.A.units + 1 < cLine) (hx : PE X (.Name x px) (tVar i)) (he : PE X e (tEx ⟨K, hdc hd p⟩ (Zdc (VA := VA) Z p) W f)) (hv : PE X value (tEx ⟨K, hdc hd p⟩ (Zdc (VA := VA) Z p) W g)) (hs : swapsWith value (some (.Subscript (.Name x px) e pos')) pos.line X.env = pure false := by rfl) (hi : W.contains i = false := by rfl) :
    PS X (.Assign [.Subscript (.Name x px) e pos'] value pos) (tSt ⟨K, hdc hd p⟩ (Zdc (VA := VA) Z p) W (sDp i f g)) :=
  imp_ps (ps_dput hu hx he hv hs) fun E σ H ⟨B, H0, O, ρ, s, r, s', sr, hF, q⟩ => by
    unfold sDp at hF
    split at hF
    · rename_i hh
      obtain ⟨v, s1, h1, hF⟩ := bnd_some hF
      obtain ⟨k, s2, h2, hF⟩ := bnd_some hF
      refine ⟨B, O, ρ, s, v, s1, sr.eo, sr.r, h1, fun v1 H1 f1 r1 R1 => ?_⟩
      have eo1 := sr.eo.fr f1
      refine ⟨.ref p, isH_at eo1 hh hi, B, O, ρ, s1, k, s2, eo1, R1, h2, fun v2 H2 f2 r2 R2 => ?_⟩
      split at hF
      case _ k n hof =>
        split at hF
        · rename_i hl
          cases hF
          have r1 := r1.fr f2 fun a z => .inl (sr.eo.mb a z)
          have hv9 := DV.back _ _ hof
          subst hv9
          have r1 := DV.only _ _ _ _ _ r1
          simp only [Rep] at r2
          subst r1 r2
          refine ⟨p, _, rfl, DPut.k (k := Sum.inr _) R2.2.1 (by unfold kvV; rw [List.length_map]; exact Nat.lt_of_lt_of_le hl (by decide)), ?_⟩
          rw [kv_put]
          have f3 : Lc.Fr (Zdc (VA := VA) Z p).M H (upd H2 p (.dK (kvV (kvPut s2.2 k n)))) := (f1.trans f2).trans (Lc.Fr.mut (.inr rfl))
          have R3 : (Zdc (VA := VA) Z p).R (upd H2 p (.dK (kvV (kvPut s2.2 k n)))) (s2.1, kvPut s2.2 k n) := by
            refine ⟨Z.loc H2 _ s2.1 R2.1 fun a m => ?_, upd_same, R2.2.2⟩
            rw [upd_ne]
            intro z
            exact R2.2.2 (z ▸ m)
          exact q O σ _ (sr.step f3 R3) (Ch.of f3)
        · cases hF
      case _ => cases hF
    · cases hF
end
end Dg
set_option Elab.async false
set_option linter.all false
set_option maxRecDepth 100000
set_option maxHeartbeats 4000000
/-! a def's own dict: len, list; defs called beside it -/
namespace Dg
open PySem PySem.Spec PyProof.Rows L2 Ds Dl
section
variable {VA : Type} [DV VA] {S : Type}
variable {X : Cx} {K : PySem.W.Frag} {hd : Nat → Addr → Prop} {p : Addr} {Z : Zk S} {W : List Nat} {x : Str} {px pos pos' : Pos} {i : Nat}
variable {P : Program} {w : World} {mg : Str → Option Value} {base : Heap} {n k : Nat} {ps : List Str} {F : Fn S}
end
end Dg
set_option Elab.async false
set_option linter.all false
set_option maxRecDepth 100000
set_option maxHeartbeats 4000000
/-! a comprehension of two clauses; starred things in displays and calls -/
namespace Dl
open PySem PySem.Spec PyProof.Rows L2
section
variable {S : Type}
variable {X : Cx} {G : Kx} {Z : Zk S} {W : List Nat} {f : Ev S}
variable {e tg tg1 : Expr} {es : List Expr} {pos p : Pos}
/-- *e, .. -/
def asLT : D → Option (List D)
  | .list ds => some ds
  | .tuple ds => some ds
  | _ => none
def aStar (f : Ev S) (fa : Ea S) : Ea S := fun ρ s => bnd (f ρ s) fun x s => match asLT x with
  | some xs => bnd (fa ρ s) fun ys s => some (xs ++ ys, s)
  | none => none
theorem asLT_rep {B : Bar} {H : Hp} {d : D} {v : V} {xs : List D} (h : Rep G B H d v) (e : asLT d = some xs) : ∃ a vs, v = .ref a ∧ (SqT G.K H a vs ∨ SqL G.K H a vs) ∧ Reps G B H xs vs := by
  unfold asLT at e
  split at e
  · cases e
    obtain ⟨a, vs, rfl, _, h1, h2⟩ := h.sqL
    exact ⟨a, vs, rfl, .inr h1, h2⟩
  · cases e
    obtain ⟨a, vs, rfl, h1, h2⟩ := h.sqT
    exact ⟨a, vs, rfl, .inl h1, h2⟩
  · cases e
theorem ea_star {fa : Ea S} (ha : PE X e (tEx G Z W f)) (hr : PA X es (tEa G Z W fa)) (hK : X.K = G.K := by rfl) (hs : starEach (.Starred e p :: es) X.env = (true, eval e X.env) :: starEach es X.env := by rfl) : PA X (.Starred e p :: es) (tEa G Z W (aStar f fa)) :=
  imp_pa (StX.pa_star ha hr hs) fun σ H Q ⟨B, O, ρ, s, d, s', eo, hR, hf, q⟩ => by
    unfold aStar at hf
    obtain ⟨x, s1, h1, hf⟩ := bnd_some hf
    split at hf
    · rename_i xs hx
      obtain ⟨y, s2, h2, hf⟩ := bnd_some hf
      cases hf
      refine ⟨B, O, ρ, s, x, s1, eo, hR, h1, fun v H1 f1 r1 R1 => ?_⟩
      obtain ⟨a, vs, rfl, hS, rs⟩ := asLT_rep r1 hx
      rw [hK]
      refine ⟨a, vs, rfl, hS, B, O, ρ, s1, y, _, eo.fr f1, R1, h2, fun u H2 f2 r2 R2 => ?_⟩
      exact q _ H2 (f1.trans f2) ((rs.fr f2 fun a z => .inl (eo.mb a z)).append r2) R2
    · cases hf
end
end Dl
set_option Elab.async false
set_option linter.all false
set_option maxRecDepth 100000
set_option maxHeartbeats 4000000
/-! dicts as data: keys texts and whole numbers, values any data -/
namespace Dl
open PySem PySem.Spec PyProof.Rows L2
theorem Room_un1 {A : Around} {k : Nat} (hr : Room k A) : A.units + 1 < cLine := by have := hr.un; omega
def kdD : Key → D
  | .inl i => .int i
  | .inr x => .str x
theorem key_kd (q : Key) : keyD (kdD q) = some q := by cases q <;> rfl
def valD (kvs : List (D × D)) (q : Key) : Option D := (kvs.find? fun p => decide (keyD p.1 = some q)).map (·.2)
def putD (kvs : List (D × D)) (q : Key) (d : D) : List (D × D) := if (kvs.any fun p => decide (keyD p.1 = some q)) = true then kvs.map (fun p => if keyD p.1 = some q then (p.1, d) else p) else kvs ++ [(kdD q, d)]
def mergeD (kvs : List (D × D)) : List (D × D) → List (D × D)
  | [] => kvs
  | (k, d) :: r => match keyD k with
    | some q => mergeD (putD kvs q d) r
    | none => mergeD kvs r
/-- a dict that is none of the handles, and not too great -/
def okD (kvs : List (D × D)) : Bool := !isHn kvs && decide (kvs.length < 4096)
theorem okD_hn {kvs : List (D × D)} (h : okD kvs = true) : isHn kvs = false := by
  unfold okD at h
  have h1 := ((Bool.and_eq_true _ _).mp h).1
  simpa using h1
theorem okD_len {kvs : List (D × D)} (h : okD kvs = true) : kvs.length < 4096 := by
  unfold okD at h
  exact of_decide_eq_true ((Bool.and_eq_true _ _).mp h).2
section
variable {G : Kx} {B : Bar} {H : Hp}
theorem Repk.len : ∀ {kvs : List (D × D)} {kv : List (Key × V)}, Repk G B H kvs kv → kv.length = kvs.length
  | [], _, h => by simp only [Repk] at h; subst h; rfl
  | (_, d) :: ds, vs, h => by
    simp only [Repk] at h
    obtain ⟨q, v, r, rfl, _, _, h2⟩ := h
    simp [Repk.len h2]
theorem key_rep {k : D} {q : Key} {v : V} (h : Rep G B H k v) (e : keyD k = some q) : v = kV q := by
  cases k with
  | str x => cases e; simp only [Rep] at h; exact h
  | int x => cases e; simp only [Rep] at h; exact h
  | _ => cases e
theorem repk_val : ∀ {kvs : List (D × D)} {kv : List (Key × V)}, Repk G B H kvs kv → ∀ q, (valD kvs q = none ∧ valV kv q = none) ∨ ∃ d v, valD kvs q = some d ∧ valV kv q = some v ∧ Rep G B H d v
  | [], _, h, q => by simp only [Repk] at h; subst h; exact .inl ⟨rfl, rfl⟩
  | (k, d) :: ds, vs, h, q => by
    simp only [Repk] at h
    obtain ⟨q', v, r, rfl, e, h1, h2⟩ := h
    by_cases hq : q' = q
    · subst hq
      exact .inr ⟨d, v, by simp [valD, List.find?_cons, e], valV_pos rfl, h1⟩
    · have e1 : valD ((k, d) :: ds) q = valD ds q := by
        unfold valD
        rw [List.find?_cons, decide_eq_false (show ¬ keyD k = some q from fun z => hq (by rw [e] at z; exact Option.some.inj z))]
      rw [e1, valV_neg (p := (q', v)) hq]
      exact repk_val h2 q
theorem repk_any : ∀ {kvs : List (D × D)} {kv : List (Key × V)}, Repk G B H kvs kv → ∀ q, (kvs.any fun p => decide (keyD p.1 = some q)) = kv.any fun p => decide (p.1 = q)
  | [], _, h, q => by simp only [Repk] at h; subst h; rfl
  | (k, d) :: ds, vs, h, q => by
    simp only [Repk] at h
    obtain ⟨q', v, r, rfl, e, h1, h2⟩ := h
    rw [List.any_cons, List.any_cons, repk_any h2 q]
    congr 1
    show decide (keyD k = some q) = decide (q' = q)
    rw [e]
    simp
theorem repk_app : ∀ {kvs : List (D × D)} {kv : List (Key × V)}, Repk G B H kvs kv → ∀ {q d v}, Rep G B H d v → Repk G B H (kvs ++ [(kdD q, d)]) (kv ++ [(q, v)])
  | [], _, h, q, d, v, hv => by
    simp only [Repk] at h
    subst h
    simp only [List.nil_append, Repk]
    exact ⟨q, v, [], rfl, key_kd q, hv, rfl⟩
  | (k, d0) :: ds, vs, h, q, d, v, hv => by
    simp only [Repk] at h
    obtain ⟨q', v', r, rfl, e, h1, h2⟩ := h
    simp only [List.cons_append, Repk]
    exact ⟨q', v', r ++ [(q, v)], rfl, e, h1, repk_app h2 hv⟩
theorem repk_map : ∀ {kvs : List (D × D)} {kv : List (Key × V)}, Repk G B H kvs kv → ∀ {q d v}, Rep G B H d v → Repk G B H (kvs.map (fun p => if keyD p.1 = some q then (p.1, d) else p)) (kv.map fun p => if p.1 = q then (p.1, v) else p)
  | [], _, h, q, d, v, hv => by
    simp only [Repk] at h
    subst h
    simp only [List.map_nil, Repk]
  | (k, d0) :: ds, vs, h, q, d, v, hv => by
    simp only [Repk] at h
    obtain ⟨q', v', r, rfl, e, h1, h2⟩ := h
    rw [List.map_cons, List.map_cons]
    by_cases hq : q' = q
    · subst hq
      rw [if_pos (show keyD (k, d0).1 = some q' from e), if_pos rfl]
      simp only [Repk]
      exact ⟨q', v, _, rfl, e, hv, repk_map h2 hv⟩
    · rw [if_neg (show ¬ keyD (k, d0).1 = some q from fun z => hq (Option.some.inj (e.symm.trans z))), if_neg hq]
      simp only [Repk]
      exact ⟨q', v', _, rfl, e, h1, repk_map h2 hv⟩
theorem repk_put {kvs : List (D × D)} {kv : List (Key × V)} (h : Repk G B H kvs kv) {q : Key} {d : D} {v : V} (hv : Rep G B H d v) : Repk G B H (putD kvs q d) (putK kv q v) := by
  unfold putD putK
  rw [repk_any h q]
  split
  · exact repk_map h hv
  · exact repk_app h hv
theorem repk_merge : ∀ {more : List (D × D)} {mv : List (Key × V)} {kvs : List (D × D)} {kv : List (Key × V)}, Repk G B H more mv → Repk G B H kvs kv → Repk G B H (mergeD kvs more) (mergeK kv mv)
  | [], _, kvs, kv, h, h0 => by
    simp only [Repk] at h
    subst h
    exact h0
  | (k, d) :: ds, vs, kvs, kv, h, h0 => by
    simp only [Repk] at h
    obtain ⟨q', v', r, rfl, e, h1, h2⟩ := h
    unfold mergeD
    rw [e]
    exact repk_merge (mv := r) h2 (repk_put h0 h1)
end
abbrev Ek (S : Type) := Rho → S → Option (List (D × D) × S)
/-- a reading whose value is a dict there -/
def tDs {S : Type} (G : Kx) (Z : Zk S) (W : List Nat) (f : Ek S) : TE := fun σ H Q =>
  ∃ (B O : Bar) (ρ : Rho) (s : S) (d : List (D × D)) (s' : S), Eo G Z W B O H σ ρ ∧ Z.R H s ∧ f ρ s = some (d, s') ∧
    ∀ a kv H', Lc.Fr Z.M H H' → H' a = some (.dK kv) → ¬ Z.M a → Repk G (fun a => B a ∨ O a) H' d kv → Z.R H' s' → Q (.ref a) H'
/-- a reading whose value is a new dict -/
def tNd {S : Type} (G : Kx) (Z : Zk S) (W : List Nat) (f : Ek S) : TE := fun σ H Q =>
  ∃ (B O : Bar) (ρ : Rho) (s : S) (d : List (D × D)) (s' : S), Eo G Z W B O H σ ρ ∧ Z.R H s ∧ f ρ s = some (d, s') ∧ okD d = true ∧
    ∀ p kv H', H p = none → Lc.Fr Z.M H H' → H' p = some (.dK kv) → Repk G (fun a => (B a ∨ a = p) ∨ O a) H' d kv → Z.R H' s' → Q (.ref p) H'
def kOf {S : Type} (f : Ev S) : Ek S := fun ρ s => bnd (f ρ s) fun d s => match d with
  | .dict kvs => if isHn kvs = true then none else some (kvs, s)
  | _ => none
def kOwn {S : Type} (i : Nat) : Ek S := fun ρ s => match ρ[i]? with
  | some (some (.dict kvs)) => some (kvs, s)
  | _ => none
def cNd {S : Type} (f : Ek S) : Ev S := fun ρ s => bnd (f ρ s) fun ds s => if okD ds = true then some (.dict ds, s) else none
def cDx {S : Type} (f : Ek S) (g : Ev S) : Ev S := fun ρ s => bnd (f ρ s) fun m s => bnd (g ρ s) fun k s => match keyD k with
  | some q => match valD m q with
    | some d => some (d, s)
    | none => none
  | none => none
def cDgx {S : Type} (f : Ek S) (g h : Ev S) : Ev S := fun ρ s => bnd (f ρ s) fun m s => bnd (g ρ s) fun k s => bnd (h ρ s) fun z s => match keyD k with
  | some q => some ((valD m q).getD z, s)
  | none => none
section
variable {S : Type} {X : Cx} {G : Kx} {Z : Zk S} {W : List Nat} {f g : Ev S} {fk : Ek S} {a b c e tg : Expr} {es : List Expr} {st : Stmt} {pos p apos cpos : Pos} {x : Str}
theorem ds_ex (h : PE X e (tEx G Z W f)) : PE X e (tDs G Z W (kOf f)) := imp_pe h fun σ H Q ⟨B, O, ρ, s, d, s', eo, hR, hf, q⟩ => by
  unfold kOf at hf
  obtain ⟨y, s1, h1, hf⟩ := bnd_some hf
  split at hf
  · rename_i kvs
    split at hf
    · cases hf
    · rename_i hn
      cases hf
      refine ⟨B, O, ρ, s, _, _, eo, hR, h1, fun v H1 f1 r1 R1 => ?_⟩
      simp only [Rep] at r1
      obtain ⟨a, rfl, ⟨n, rfl, _⟩ | ⟨_, kv, h2, h3, h4⟩⟩ := r1
      · exact absurd rfl hn
      · exact q a kv H1 f1 h2 (fun z => h3 (.inl (eo.mb a z))) h4 R1
  · cases hf
theorem ds_own {i : Nat} (h : PE X e (tVar i)) (hw : W.contains i = true := by rfl) : PE X e (tDs G Z W (kOwn i)) := imp_pe h fun σ H Q ⟨B, O, ρ, s, d, s', eo, hR, hf, q⟩ => by
  unfold kOwn at hf
  split at hf
  · rename_i kvs hd
    cases hf
    obtain ⟨om, o1, o2⟩ := eo.er.ow
    obtain ⟨a2, a3, h0, kv, h1, h2⟩ := o2 i _ (by simpa using hw) hd
    exact ⟨_, a2, q _ kv H (Lc.Fr.refl H) h1 (fun z => eo.ob _ a3 (eo.mb _ z)) h2 hR⟩
  · cases hf
theorem ex_nd (h : PE X e (tNd G Z W fk)) : PE X e (tEx G Z W (cNd fk)) := imp_pe h fun σ H Q ⟨B, O, ρ, s, d, s', eo, hR, hf, q⟩ => by
  unfold cNd at hf
  obtain ⟨y, s1, h1, hf⟩ := bnd_some hf
  split at hf
  · rename_i hk
    cases hf
    refine ⟨B, O, ρ, s, y, _, eo, hR, h1, hk, fun p kv H' hp f1 h2 h3 R1 => q _ H' f1 ?_ R1⟩
    simp only [Rep]
    exact ⟨p, rfl, .inr ⟨okD_hn hk, kv, h2, eo.new hp, h3.sub fun a z _ => z.elim (fun z => .inl (.inl z)) .inr⟩⟩
  · cases hf
/-! reading -/
theorem ex_dx (hu : X.A.units + 1 < cLine) (ha : PE X a (tDs G Z W fk)) (hb : PE X b (tEx G Z W g)) (hs : NoSl b) : PE X (.Subscript a b pos) (tEx G Z W (cDx fk g)) :=
  imp_pe (pe_dget hu ha hb hs) fun σ H Q ⟨B, O, ρ, s, d, s', eo, hR, hf, q⟩ => by
    unfold cDx at hf
    obtain ⟨m, s1, h1, hf⟩ := bnd_some hf
    obtain ⟨k, s2, h2, hf⟩ := bnd_some hf
    split at hf
    · rename_i qk hk
      split at hf
      · rename_i d0 hv
        cases hf
        refine ⟨B, O, ρ, s, m, s1, eo, hR, h1, fun a kv H1 f1 ha nM hr R1 => ?_⟩
        refine ⟨B, O, ρ, s1, k, _, eo.fr f1, R1, h2, fun u H2 f2 r2 R2 => ?_⟩
        rcases repk_val (hr.fr f2 fun a z => .inl (eo.mb a z)) qk with ⟨z, _⟩ | ⟨d1, v, z1, z2, z3⟩
        · rw [hv] at z; cases z
        · rw [hv] at z1
          cases z1
          refine ⟨a, v, rfl, ?_, q v H2 (f1.trans f2) z3 R2⟩
          rw [key_rep r2 hk, ← z2]
          exact DGet.k (f2.at ha nM)
      · cases hf
    · cases hf
theorem ex_dgx {h : Ev S} {e2 : Expr} (hu : X.A.units + 1 < cLine) (ha : PE X a (tDs G Z W fk)) (hb : PE X b (tEx G Z W g)) (hc : PE X e2 (tEx G Z W h)) (m : M2 X a "get" apos b e2 cpos) : PE X (.Call (.Attribute a "get" apos) [b, e2] [] cpos) (tEx G Z W (cDgx fk g h)) :=
  imp_pe (pe_dget2 hu ha hb hc m) fun σ H Q ⟨B, O, ρ, s, d, s', eo, hR, hf, q⟩ => by
    unfold cDgx at hf
    obtain ⟨m, s1, h1, hf⟩ := bnd_some hf
    obtain ⟨k, s2, h2, hf⟩ := bnd_some hf
    obtain ⟨z0, s3, h3, hf⟩ := bnd_some hf
    split at hf
    · rename_i qk hk
      cases hf
      refine ⟨B, O, ρ, s, m, s1, eo, hR, h1, fun a kv H1 f1 ha nM hr R1 => ?_⟩
      refine ⟨a, rfl, .inl ⟨kv, .inl ha⟩, B, O, ρ, s1, k, _, eo.fr f1, R1, h2, fun u H2 f2 r2 R2 => ?_⟩
      refine ⟨B, O, ρ, s2, z0, _, (eo.fr f1).fr f2, R2, h3, fun u3 H3 f3 r3 R3 => ?_⟩
      refine ⟨valV kv qk, ?_, q _ H3 ((f1.trans f2).trans f3) ?_ R3⟩
      · rw [key_rep r2 hk]
        exact DGet.k (f3.at (f2.at ha nM) nM)
      · rcases repk_val ((hr.fr f2 fun a z => .inl (eo.mb a z)).fr f3 fun a z => .inl (eo.mb a z)) qk with ⟨z, z2⟩ | ⟨d1, v, z1, z2, z3⟩
        · rw [z, z2]; exact r3
        · rw [z1, z2]; exact z3
    · cases hf
/-! making -/
def kNew : Ek S := fun _ s => some ([], s)
theorem nd_new : PE X (.Dict [] [] pos) (tNd G Z W kNew) := imp_pe pe_dnewK fun σ H Q ⟨B, O, ρ, s, d, s', eo, hR, hf, hk, q⟩ => by
  cases hf
  intro p np
  exact q p [] _ np (Lc.Fr.new np) upd_same (by simp only [Repk]) (Z.same hR (Lc.same_new np))
/-- the pairs of a display -/
def Repp (G : Kx) (B : Bar) (H : Hp) : List (D × D) → List (V × V) → Prop
  | [], ps => ps = []
  | (k, d) :: r, ps => ∃ u v t, ps = (u, v) :: t ∧ Rep G B H k u ∧ Rep G B H d v ∧ Repp G B H r t
def tEk (G : Kx) (Z : Zk S) (W : List Nat) (f : Ek S) (σ : L2.St) (H : Hp) (Q : List (V × V) → Hp → Prop) : Prop :=
  ∃ (B O : Bar) (ρ : Rho) (s : S) (d : List (D × D)) (s' : S), Eo G Z W B O H σ ρ ∧ Z.R H s ∧ f ρ s = some (d, s') ∧
    ∀ v H', Lc.Fr Z.M H H' → Repp G (fun a => B a ∨ O a) H' d v → Z.R H' s' → Q v H'
structure EPs (X : Cx) (G : Kx) (Z : Zk S) (W : List Nat) (pos : Pos) (keys : List (Option Expr)) (values : List Expr) (f : Ek S) : Prop where
  ex : ∃ trs, PPs X pos keys values trs ∧ ∀ σ H Q, tEk G Z W f σ H Q → tPairs trs σ H Q
def kNil : Ek S := fun _ s => some ([], s)
def kCons (f g : Ev S) (r : Ek S) : Ek S := fun ρ s => bnd (f ρ s) fun k s => bnd (g ρ s) fun v s => bnd (r ρ s) fun m s => some ((k, v) :: m, s)
theorem Repp.fr {B : Bar} {H H' : Hp} {M : Bar} (f : Lc.Fr M H H') (m : ∀ a, M a → B a) : ∀ {ds : List (D × D)} {ps : List (V × V)}, Repp G B H ds ps → Repp G B H' ds ps
  | [], _, h => h
  | (k, d) :: r, _, ⟨u, v, t, e, h1, h2, h3⟩ => ⟨u, v, t, e, h1.fr f m, h2.fr f m, Repp.fr f m h3⟩
theorem eps_nil : EPs X G Z W pos [] [] kNil := ⟨[], pps_nil, fun σ H Q ⟨B, O, ρ, s, d, s', eo, hR, hf, q⟩ => by
  cases hf
  exact q [] H (Lc.Fr.refl H) rfl hR⟩
theorem eps_cons {ks : List (Option Expr)} {vs : List Expr} {r : Ek S} (hk : PE X a (tEx G Z W f)) (hv : PE X b (tEx G Z W g)) (hr : EPs X G Z W pos ks vs r) : EPs X G Z W pos (some a :: ks) (b :: vs) (kCons f g r) := by
  obtain ⟨trs, h1, h2⟩ := hr.ex
  refine ⟨_, pps_cons hk hv h1, fun σ H Q ⟨B, O, ρ, s, d, s', eo, hR, hf, q⟩ => ?_⟩
  unfold kCons at hf
  obtain ⟨k, s1, g1, hf⟩ := bnd_some hf
  obtain ⟨v, s2, g2, hf⟩ := bnd_some hf
  obtain ⟨m, s3, g3, hf⟩ := bnd_some hf
  cases hf
  refine ⟨B, O, ρ, s, k, s1, eo, hR, g1, fun u H1 f1 r1 R1 => ⟨B, O, ρ, s1, v, s2, eo.fr f1, R1, g2, fun w H2 f2 r2 R2 => h2 _ _ _ ⟨B, O, ρ, s2, m, _, (eo.fr f1).fr f2, R2, g3, fun ps H3 f3 r3 R3 => ?_⟩⟩⟩
  exact q _ H3 ((f1.trans f2).trans f3) ⟨u, w, ps, rfl, (r1.fr f2 fun a z => .inl (eo.mb a z)).fr f3 fun a z => .inl (eo.mb a z), r2.fr f3 fun a z => .inl (eo.mb a z), r3⟩ R3
/-- keys that are some -/
def keysOk : List (D × D) → Bool
  | [] => true
  | (k, _) :: r => (keyD k).isSome && keysOk r
theorem repp_k {B : Bar} {H : Hp} : ∀ {ds : List (D × D)} {ps : List (V × V)}, keysOk ds = true → Repp G B H ds ps → ∃ kv, ps = kv.map (fun kv => (kV kv.1, kv.2)) ∧ Repk G B H ds kv
  | [], _, _, h => ⟨[], h, by simp only [Repk]⟩
  | (k, d) :: r, _, hk, ⟨u, v, t, e, h1, h2, h3⟩ => by
    unfold keysOk at hk
    rw [Bool.and_eq_true] at hk
    obtain ⟨q, hq⟩ := Option.isSome_iff_exists.mp hk.1
    obtain ⟨kv, rfl, h4⟩ := repp_k hk.2 h3
    refine ⟨(q, v) :: kv, ?_, ?_⟩
    · rw [e, key_rep h1 hq]; rfl
    · simp only [Repk]
      exact ⟨q, v, kv, rfl, hq, h2, h4⟩
def kDisp (f : Ek S) : Ek S := fun ρ s => bnd (f ρ s) fun m s => if keysOk m = true ∧ m.length ≤ 15 then some (mergeD [] m, s) else none
theorem nd_disp {keys : List (Option Expr)} {values : List Expr} (h : EPs X G Z W pos keys values fk) (hall : keys.all (·.isSome) = true) (hl : keys.length = values.length) (h0 : keys ≠ []) (h15 : keys.length ≤ 15) : PE X (.Dict keys values pos) (tNd G Z W (kDisp fk)) := by
  obtain ⟨trs, h1, h2⟩ := h.ex
  refine imp_pe (pe_disp h1 hall hl h0 h15) fun σ H Q ⟨B, O, ρ, s, d, s', eo, hR, hf, hk, q⟩ => ?_
  unfold kDisp at hf
  obtain ⟨m, s1, g1, hf⟩ := bnd_some hf
  split at hf
  · rename_i hm
    cases hf
    intro p np
    have nM : ¬ Z.M p := fun z => eo.bd p (eo.mb p z) np
    have eo1 := eo.bar np (.dK [])
    have e1 : (upd H p (.dK [])) p = some (.dK []) := upd_same
    refine h2 _ _ _ ⟨fun a => B a ∨ a = p, O, ρ, s, m, _, eo1, Z.same hR (Lc.same_new np), g1, fun ps H2 f2 r2 R2 => ?_⟩
    obtain ⟨kv, rfl, r3⟩ := repp_k hm.1 r2
    refine ⟨f2.at e1 nM, kv, rfl, by rw [r3.len]; exact hm.2, ?_⟩
    have f3 : Lc.Fr Z.M H (upd H2 p (.dK (mergeK [] kv))) := Lc.Fr.own ((Lc.Fr.new np).trans f2) np
    refine q p _ _ np f3 upd_same ?_ (Z.loc _ _ _ R2 fun a z => upd_ne fun y => nM (y ▸ z))
    refine repk_merge (r3.mv fun a o e n => ⟨?_, n⟩) (by simp only [Repk])
    rw [upd_ne fun z => n (.inl (.inr z))]
    exact e
  · cases hf
/-! own dicts -/
def sOwnD (i : Nat) (f : Ek S) : Sv S := fun ρ s => bnd (f ρ s) fun ds s => if okD ds = true then some (.nx (ρ.set i (some (.dict ds))), s) else none
theorem es_ownD {i : Nat} {pos' : Pos} (hN : X.N.Nodup) (hi : X.N[i]? = some x) (hx : Loc X.env.scope x) (he : PE X e (tNd G Z W fk)) (hw : W.contains i = true := by rfl) (hs : swapsWith e (some (.Name x pos')) pos.line X.env = pure false := by rfl) (hf : X.fn x = true ∨ X.env.scope.names.lookup x = some .local := by first | exact .inl rfl | exact .inr rfl | assumption) :
    PS X (.Assign [.Name x pos'] e pos) (tSt G Z W (sOwnD i fk)) :=
  imp_ps (ps_set hN hi hx he hs hf) fun E σ H ⟨B, H0, O, ρ, s, r, s', sr, hf, q⟩ => by
    unfold sOwnD at hf
    obtain ⟨d, s1, h1, hf⟩ := bnd_some hf
    split at hf
    · rename_i hk
      cases hf
      refine ⟨B, O, ρ, s, d, _, sr.eo, sr.r, h1, hk, fun p kv H' hp f1 h2 h3 R1 => ?_⟩
      obtain ⟨sr2, ch2⟩ := sr.ownG (i := i) (by simpa using hw) hp f1 (.inr ⟨kv, h2⟩) (d0 := .dict d) ⟨okD_hn hk, kv, h2, h3⟩ R1
      exact q _ _ H' sr2 ch2
    · cases hf
def sPutO (i : Nat) (f g : Ev S) : Sv S := fun ρ s => bnd (g ρ s) fun v s => bnd (f ρ s) fun k s => match ρ[i]?, keyD k with
  | some (some (.dict kvs)), some q => if okD (putD kvs q v) = true then some (.nx (ρ.set i (some (.dict (putD kvs q v)))), s) else none
  | _, _ => none
theorem LoD.dk {H : Hp} {P : Addr} {kv : List (Key × V)} : LoD (upd H P (.dK kv)) P := .inr ⟨kv, upd_same⟩
theorem es_putO {i : Nat} {value : Expr} {px pos' : Pos} (hu : X.A.units + 1 < cLine) (hx : PE X (.Name x px) (tVar i)) (he : PE X e (tEx G Z W f)) (hv : PE X value (tEx G Z W g)) (hs : swapsWith value (some (.Subscript (.Name x px) e pos')) pos.line X.env = pure false := by rfl) (hw : W.contains i = true := by rfl) :
    PS X (.Assign [.Subscript (.Name x px) e pos'] value pos) (tSt G Z W (sPutO i f g)) :=
  imp_ps (ps_dput hu hx he hv hs) fun E σ H ⟨B, H0, O, ρ, s, r, s', sr, hf, q⟩ => by
    unfold sPutO at hf
    obtain ⟨v, s1, h1, hf⟩ := bnd_some hf
    obtain ⟨k, s2, h2, hf⟩ := bnd_some hf
    split at hf
    · rename_i kvs qk hd hk
      split at hf
      · rename_i ho
        cases hf
        refine ⟨B, O, ρ, s, v, s1, sr.eo, sr.r, h1, fun v1 H1 f1 r1 R1 => ?_⟩
        have sr1 := sr.step f1 R1
        obtain ⟨P, a2, _, _, _⟩ := sr1.mutG (i := i) (by simpa using hw) hd
        refine ⟨.ref P, a2, B, O, ρ, s1, k, _, sr1.eo, R1, h2, fun v2 H2 f2 r2 R2 => ?_⟩
        have sr2 := sr1.step f2 R2
        obtain ⟨P2, b2, ⟨h0, kv, b4, b5⟩, b3, mu⟩ := sr2.mutG (i := i) (by simpa using hw) hd
        rw [a2] at b2
        cases b2
        have hl := okD_len ho
        have hlk : kv.length < sizeLine := by
          have h9 := b5.len
          have h8 : kvs.length ≤ (putD kvs qk v).length := by
            unfold putD
            split
            · rw [List.length_map]; exact Nat.le_refl _
            · simp
          exact Nat.lt_of_lt_of_le (show kv.length < 4096 by omega) (by decide)
        refine ⟨P, _, rfl, by rw [key_rep r2 hk]; exact DPut.k b4 hlk, ?_⟩
        have k5 : ∀ a o, H2 a = some o → ¬ (B a ∨ O a) → upd H2 P (.dK (putK kv qk v1)) a = some o ∧ ¬ (B a ∨ O a) := fun a o e n => ⟨by rw [upd_ne fun z => n (.inr (by rw [z]; exact b3))]; exact e, n⟩
        obtain ⟨sr3, ch3⟩ := mu (.dict (putD kvs qk v)) (.dK (putK kv qk v1)) LoD.dk ⟨okD_hn ho, _, upd_same, (repk_put b5 (r1.fr f2 fun a z => .inl (sr.mb a z))).mv k5⟩
        exact q O σ _ sr3 ((Ch.of (f1.trans f2)).trans ch3)
      · cases hf
    · cases hf
end
end Dl
set_option Elab.async false
set_option linter.all false
set_option maxRecDepth 100000
set_option maxHeartbeats 4000000
/-! list(d.items()), dict(list of pairs), x[i] = e of an own list, << -/
namespace Dl
open PySem PySem.Spec PyProof.Rows L2
/-- the pairs that a list of pairs tells -/
def pairsD : List D → Option (List (D × D))
  | [] => some []
  | .tuple [k, v] :: r => match keyD k, pairsD r with
    | some _, some m => some ((k, v) :: m)
    | _, _ => none
  | _ => none
section
variable {G : Kx} {B : Bar} {H : Hp}
theorem pairs_rep : ∀ {ds : List D} {m : List (D × D)} {vs : List V}, pairsD ds = some m → Reps G B H ds vs → ∃ (ps : List Addr) (kv : List (Key × V)), vs = ps.map V.ref ∧ Paired (fun p (q : Key × V) => SqT G.K H p [kV q.1, q.2]) ps kv ∧ Repk G B H m kv
  | [], m, vs, h, hr => by
    cases h
    simp only [Reps] at hr
    subst hr
    exact ⟨[], [], rfl, .nil, by simp only [Repk]⟩
  | d :: ds, m, vs, h, hr => by
    unfold pairsD at h
    split at h
    · rename_i e; cases e
    · rename_i k v r e
      cases e
      simp only [Reps] at hr
      obtain ⟨u, us, rfl, h1, h2⟩ := hr
      split at h
      · rename_i q m2 hk hm
        cases h
        obtain ⟨ps, kv, rfl, h3, h4⟩ := pairs_rep hm h2
        obtain ⟨a, ws, rfl, h5, h6⟩ := h1.sqT
        simp only [Reps] at h6
        obtain ⟨x, r1, rfl, g1, y, r2, rfl, g2, rfl⟩ := h6
        rw [key_rep g1 hk] at h5
        refine ⟨a :: ps, (q, y) :: kv, rfl, .cons h5 h3, ?_⟩
        simp only [Repk]
        exact ⟨q, y, kv, rfl, hk, g2, h4⟩
      · cases h
    · cases h
end
section
variable {S : Type} {X : Cx} {G : Kx} {Z : Zk S} {W : List Nat} {f g : Ev S} {fk : Ek S} {a b c e tg : Expr} {es : List Expr} {st : Stmt} {pos p apos cpos : Pos} {x : Str}
theorem Reps.set {B : Bar} {H : Hp} : ∀ {ds : List D} {vs : List V} {j : Nat} {d : D} {v : V}, Reps G B H ds vs → Rep G B H d v → Reps G B H (ds.set j d) (vs.set j v)
  | [], _, j, d, v, h, hv => by simp only [Reps] at h; subst h; cases j <;> exact Reps.nil
  | a :: ds, vs, 0, d, v, h, hv => by
    simp only [Reps] at h
    obtain ⟨u, r, rfl, h1, h2⟩ := h
    exact Reps.cons hv h2
  | a :: ds, vs, j + 1, d, v, h, hv => by
    simp only [Reps] at h
    obtain ⟨u, r, rfl, h1, h2⟩ := h
    exact Reps.cons h1 (Reps.set h2 hv)
end
end Dl
set_option Elab.async false
set_option linter.all false
set_option maxRecDepth 100000
set_option maxHeartbeats 4000000
/-! dict(t) of a tuple of pairs -/
namespace Dl
open PySem PySem.Spec PyProof.Rows L2
/-- a tuple whose object has no dict -/
def PT (K : PySem.W.Frag) (H : Hp) (a : Addr) (vs : List V) : Prop := (∃ o : Obj, H a = some (.frz o (.tup vs)) ∧ o.dict = none) ∨ KT K a vs
theorem PT.sq {K : PySem.W.Frag} {H : Hp} {a : Addr} {vs : List V} (h : PT K H a vs) : SqT K H a vs := by
  rcases h with ⟨o, h, _⟩ | h
  · exact .inl (.inr ⟨o, h⟩)
  · exact h.sq
theorem PT.plain {X : Cx} {pins : List (Addr × Obj)} {σ : L2.St} {H : Hp} {s : Shared} {a : Addr} {vs : List V} (I : Inv X pins σ H s) (h : PT X.K H a vs) : ∃ its : List Value, Vals vs its ∧ PlainSeq "tuple" s.heap a its.toArray ∧ vs.length ≤ sizeLine := by
  rcases h with ⟨o, h, hd⟩ | ⟨o, its, n, hk, hc, hs, hz, r, hd⟩
  · obtain ⟨e1, z, its, r, o2, e2, c2, n, d2⟩ := (show ObjOk X.prog X.w H s.heap a (.frz o (.tup vs)) from I.hok a _ h)
    rw [e1] at e2
    cases e2
    exact ⟨its, r, ⟨o, n, e1, c2, hd, d2⟩, z⟩
  · have := r.length
    refine ⟨its.toList, r, ⟨o, n, I.kIn a o hk, hc, hd, by simpa using hs⟩, ?_⟩
    simp only [Array.length_toList] at this
    omega
theorem items_of {X : Cx} {pins : List (Addr × Obj)} {σ : L2.St} {H : Hp} {s : Shared} (I : Inv X pins σ H s) : ∀ {ps : List Addr} {kvs : List (Key × V)}, Paired (fun p (q : Key × V) => SqT X.K H p [kV q.1, q.2]) ps kvs →
    ∃ prs : List (Value × Value), prs.length = ps.length ∧ L2.KV kvs (List.zipWith (fun (q : Key × V) (p : Value × Value) => (q.1, p.2)) kvs prs) ∧ ∀ (j : Nat) (k v : Value), prs[j]? = some (k, v) → ∃ b q, ps[j]? = some b ∧ kvs[j]? = some q ∧ PairAt s.heap b k v ∧ keyIs q.1 k = true
  | _, _, .nil => ⟨[], rfl, .nil, fun j k v e => by simp at e⟩
  | _, _, .cons (a := p) (b := q) h t => by
    obtain ⟨prs, hl, rel, hp⟩ := items_of I t
    obtain ⟨its, rv, ht, _⟩ := I.tuple h
    obtain ⟨u, y, ei, ru, ry⟩ := vals2 rv
    subst ei
    refine ⟨(u, y) :: prs, by simp [hl], .cons ⟨rfl, ry⟩ rel, fun j k v e => ?_⟩
    cases j with
    | zero =>
      cases e
      exact ⟨p, q, rfl, rfl, .inl ht, kV_is (P := X.prog) (w := X.w) ru⟩
    | succ j =>
      obtain ⟨b, q2, e1, e2, e3⟩ := hp j k v (by simpa using e)
      exact ⟨b, q2, by simpa using e1, by simpa using e2, e3⟩
theorem call_dictT {X : Cx} (hcalm : X.calm = true) : CallR X (.type "dict") (fun xs H Q => ∃ (a : Addr) (ps : List Addr) (kvs : List (Key × V)), xs = [.ref a] ∧ PT X.K H a (ps.map V.ref) ∧ Paired (fun p q => SqT X.K H p [kV q.1, q.2]) ps kvs ∧
    ∀ p, H p = none → Q (.ref p) (upd H p (.dK (mergeK [] kvs)))) := by
  intro pins s σ H xs us Q I r ⟨a, ps, kvs, ex, hq, hp, q⟩
  subst ex
  obtain ⟨u, eu, rx⟩ := vals1 r
  subst eu
  cases rx
  obtain ⟨its, rv, pl, hz⟩ := hq.plain I
  have ei := refs_at rv
  subst ei
  rw [List.length_map] at hz
  obtain ⟨prs, hl, rel, hpr⟩ := items_of I hp
  have hkl : kvs.length = ps.length := by
    clear hpr rel hl q hz rv pl hq
    induction hp with
    | nil => rfl
    | cons _ _ ih => simp [ih]
  have hpi : PairItems s.heap (ps.map Value.ref).toArray (fun j => ps.getD j 0) prs := by
    refine ⟨by simp [hl], fun j k v e => ?_⟩
    obtain ⟨b, q2, e1, e2, e3, _⟩ := hpr j k v e
    have : ps.getD j 0 = b := by simp [List.getD, e1]
    show (ps.map Value.ref).toArray[j]? = some (.ref (ps.getD j 0)) ∧ PairAt s.heap (ps.getD j 0) k v
    rw [this]
    exact ⟨by simp [e1], e3⟩
  have hav : PairsHave (mixKind X.prog X.w) prs.length (PairRel prs) (List.zipWith (fun (q : Key × V) (p : Value × Value) => (q.1, p.2)) kvs prs) := by
    refine ⟨by simp [hkl, hl], fun i key v e => ?_⟩
    obtain ⟨b, q2, e1, e2, _, e4⟩ := hpr i key v e
    have e : prs[i]? = some (key, v) := e
    exact ⟨q2.1, by rw [List.getElem?_zipWith, e2, e], e4⟩
  refine PySem.call_dict_pairs (knd := mixKind X.prog X.w) (PairArg.tuple (prog := X.prog) (w := X.w) a _ (fun j => ps.getD j 0) prs) (I.ok.hd hcalm) ⟨pl, hpi⟩ hav (by rw [hl]; exact hz) fun h' tk hd' k => ?_
  have hm : (s.heap.objs.size == sysModules) = false := beq_eq_false_iff_ne.mpr (Nat.ne_of_lt I.big).symm
  have hlen : (mergeK [] kvs).length ≤ sizeLine := by
    refine Nat.le_trans (length_mergeK kvs []) ?_
    rw [List.length_nil, Nat.zero_add, hkl]
    exact hz
  exact ⟨.ref s.heap.objs.size, upd H s.heap.objs.size (.dK (mergeK [] kvs)), I.laid (t' := tk) (fun b o e => k b o (fun z => nomatch z) e) (Nat.le_refl _) (show ObjOk X.prog X.w _ _ _ (.dK (mergeK [] kvs)) from ⟨hlen, hm, merged [] _, L2.KV.merge rel .nil, hd'⟩), rfl, q _ (I.hok.fresh (Nat.le_refl _))⟩
/-- dict(e), e a tuple of pairs -/
def kPairsT {S : Type} (f : Ev S) : Ek S := fun ρ s => bnd (f ρ s) fun d s => match d with
  | .tuple ds => match pairsD ds with
    | some m => some (mergeD [] m, s)
    | none => none
  | _ => none
theorem pairs_allTup : ∀ {ds : List D} {m : List (D × D)}, pairsD ds = some m → allTup ds = true
  | [], _, _ => rfl
  | d :: ds, m, h => by
    unfold pairsD at h
    split at h
    · rename_i e; cases e
    · rename_i k v r e
      cases e
      split at h
      · rename_i hm
        exact pairs_allTup (ds := ds) hm
      · cases h
    · cases h
section
variable {S : Type} {X : Cx} {G : Kx} {Z : Zk S} {W : List Nat} {f : Ev S} {e : Expr} {pos p : Pos}
theorem nd_pairsT (hc : X.calm = true) (hg : Gl X "dict") (hm : X.mg "dict" = none) (he : PE X e (tEx G Z W f)) (hs : starEach [e] X.env = (false, eval e X.env) :: starEach [] X.env := by rfl) (hpl : (backTo pos (starEach ([] : List Expr) X.env)).any (·.1) = false := by rfl) (hK : G.K = X.K := by rfl) :
    PE X (.Call (.Name "dict" p) [e] [] pos) (tNd G Z W (kPairsT f)) :=
  imp_pe (pe_callTy (call_dictT hc) hg hm (by decide +kernel) (pa_cons he pa_nil hs) (he := hs) (hpl := hpl)) fun σ H Q ⟨B, O, ρ, s, d, s', eo, hR, hf, hk, q⟩ => by
    unfold kPairsT at hf
    obtain ⟨y, s1, h1, hf⟩ := bnd_some hf
    split at hf
    · rename_i ds
      split at hf
      · rename_i m hm
        cases hf
        refine ⟨B, O, ρ, s, _, _, eo, hR, h1, fun v H1 f1 r1 R1 => ?_⟩
        have r1' := r1
        simp only [Rep] at r1'
        obtain ⟨a, vs, rfl, h3, h4⟩ := r1'
        obtain ⟨ps, kv, rfl, h5, h6⟩ := pairs_rep hm h4
        have hpt : PT X.K H1 a (ps.map V.ref) := by
          rw [← hK]
          rcases h3 with ⟨⟨_, z⟩ | z, _⟩ | z
          · rw [pairs_allTup hm] at z; cases z
          · exact .inl z
          · exact .inr z
        refine ⟨a, ps, kv, rfl, hpt, hK ▸ h5, fun p np => ?_⟩
        have sm := Lc.same_new (o := .dK (mergeK [] kv)) np
        refine q p _ _ (f1.free np) (f1.trans (Lc.Fr.new np)) upd_same ?_ (Z.same R1 sm)
        refine repk_merge (h6.mv fun b o e n => ⟨sm b o e, fun z => ?_⟩) (by simp only [Repk])
        rcases z with (z | z) | z
        · exact n (.inl z)
        · rw [z, np] at e; cases e
        · exact n (.inr z)
      · cases hf
    · cases hf
end
end Dl
set_option Elab.async false
set_option linter.all false
set_option maxRecDepth 100000
set_option maxHeartbeats 4000000
/-! sorted(d) of a dict whose keys are texts -/
namespace Dl
open PySem PySem.Spec PyProof.Rows L2
/-- the keys of a dict, all texts -/
def keysS : List (D × D) → Option (List Str)
  | [] => some []
  | (.str x, _) :: r => match keysS r with
    | some ks => some (x :: ks)
    | none => none
  | _ => none
def aSortK {S : Type} (f : Ek S) : Ea S := fun ρ s => bnd (f ρ s) fun m s => match keysS m with
  | some ks => if ks.length < 64 then some ((sortS ks).map .str, s) else none
  | none => none
theorem keys_rep {G : Kx} {B : Bar} {H : Hp} : ∀ {m : List (D × D)} {kv : List (Key × V)} {ks : List Str}, Repk G B H m kv → keysS m = some ks → kv.map (·.1) = ks.map Sum.inr
  | [], kv, ks, h, e => by
    simp only [Repk] at h
    subst h
    cases e
    rfl
  | (k, d) :: m, kv, ks, h, e => by
    simp only [Repk] at h
    obtain ⟨q, v, r, rfl, h0, h1, h2⟩ := h
    cases k with
    | str x =>
      unfold keysS at e
      split at e
      · rename_i ks2 e2
        cases e
        cases h0
        simp only [List.map_cons, keys_rep h2 e2]
      · cases e
    | _ => simp [keysS] at e
section
variable {S : Type} {X : Cx} {G : Kx} {Z : Zk S} {W : List Nat} {fk : Ek S} {e : Expr} {pos p : Pos}
theorem nl_sortK (hc : X.calm = true) (hg : Gl X "sorted") (hm : X.mg "sorted" = none) (he : PE X e (tDs G Z W fk)) (hs : starEach [e] X.env = (false, eval e X.env) :: starEach [] X.env := by rfl) :
    PE X (.Call (.Name "sorted" p) [e] [] pos) (tNl G Z W (aSortK fk)) :=
  imp_pe (pe_callB (call_sortedD hc) hg hm (by decide +kernel) (pa_cons he pa_nil hs) (he := hs)) fun σ H Q ⟨B, O, ρ, s, l, s', eo, hR, hf, q⟩ => by
    unfold aSortK at hf
    obtain ⟨m, s1, h1, hf⟩ := bnd_some hf
    split at hf
    · rename_i ks hk
      split at hf
      · rename_i hl
        cases hf
        refine ⟨B, O, ρ, s, m, _, eo, hR, h1, fun a kv H1 f1 ha nM hr R1 => ?_⟩
        refine ⟨a, kv, ks, rfl, .inl ha, keys_rep hr hk, hl, fun ys p2 hp hso np => ?_⟩
        have ey := sortS_eq hp hso
        subst ey
        exact q p2 _ _ (f1.free np) (f1.trans (Lc.Fr.new np)) upd_same reps_strs (Z.same R1 (Lc.same_new np))
      · cases hf
    · cases hf
end
end Dl
set_option Elab.async false
set_option linter.all false
set_option maxRecDepth 100000
set_option maxHeartbeats 4000000
namespace Lw42
open PySem PySem.Spec PyProof.Rows L2 Dl
-- sum_of: slots totals 0, times 1, number 2, parts 3, more 4, kind 5, often 6; cells times
def B_sum_of {S : Type} : Sv (S × KV) :=
    (sSeq (sSet 2 (cK (.int 0)))
    (sSeq (sFor (iOf asL (cVar 0)) (gTp (gC (gNm 3) (gC (gNm 4) gN0)))
    (sSeq (sAug 2 (pI0 fun i j => .int (i + j)) (cVar 4))
      (sFor (iOf asT (cVar 3)) (gTp (gC (gNm 5) (gC (gNm 6) gN0)))
      (sDp 1 (cVar 5) (cB pAdd (cDg2 1 (cVar 5) (cK (.int 0))) (cVar 6))))))
    (sRet (cN pTup (aCons (cN pTuple (aCons (cNl (lcF (iOf asL (cNl (aSd 1))) (gNm 5) qYes (cN pTup (aCons (cVar 5) (aCons (cDi 1 (cVar 5)) aNil))) [5])) aNil)) (aCons (cVar 2) aNil))))))
def K_sum_of {S : Type} : Fn S := fnDk 7 1 B_sum_of

-- so_often: slots total 0, often 1, parts 2, number 3, kind 4, times 5; cells often
def B_so_often {S : Type}  : Sv S :=
    (sSeq (sAsg (cVar 0) (gTp (gC (gNm 2) (gC (gNm 3) gN0))))
    (sRet (cN pTup (aCons (cN pTuple (aCons (cNl (lcF (iOf asT (cVar 2)) (gTp (gC (gNm 4) (gC (gNm 5) gN0))) qYes (cN pTup (aCons (cVar 4) (aCons (cB pMul (cVar 5) (cVar 1)) aNil))) [4, 5])) aNil)) (aCons (cB pMul (cVar 3) (cVar 1)) aNil)))))
def K_so_often {S : Type}  : Fn S := fnD 6 (B_so_often )

-- no_less: slots one 0, other 1, times 2, kind 3, often 4; cells times
def B_no_less {S : Type}  : Sv S :=
    (sSeq (sSet 2 (cNd (kPairsT (cB pIx (cVar 0) (cK (.int 0))))))
    (sRet (cAnd (cB pGe (cB pIx (cVar 0) (cK (.int 1))) (cB pIx (cVar 1) (cK (.int 1)))) (cQu false (iOf asT (cB pIx (cVar 1) (cK (.int 0)))) (gTp (gC (gNm 3) (gC (gNm 4) gN0))) qYes (cB pGe (cDgx (kOf (cVar 2)) (cVar 3) (cK (.int 0))) (cVar 4)) [3, 4]))))
def K_no_less {S : Type}  : Fn S := fnD 5 (B_no_less )

-- summed: slots form 0, forms 1, times 2, ones 3, others 4, often 5, one 6
def B_summed {S : Type} (F_so_often : Fn S) (F_no_less : Fn S) (F_sum_of : Fn S) : Sv S :=
    (sSeq (sIf (qOr (qT (cB pNe (cN pLen (aCons (cVar 1) aNil)) (cN pLen (aCons (cVar 2) aNil)))) (qT (cQu true (iOf asT (cVar 2)) (gNm 5) qYes (cB pLt (cVar 5) (cK (.int 0))) [5])))
    (sRet (cK (.bool false)))
    sNx)
    (sSeq (sIf (qOr (qT (cB pNe (cB pIx (cVar 0) (cK (.int 0))) (cK (.str "least")))) (qT (cQu true (iOf asT (cVar 1)) (gNm 6) qYes (cB pNe (cB pIx (cVar 6) (cK (.int 0))) (cK (.str "least"))) [6])))
    (sRet (cK (.bool false)))
    sNx)
    (sSeq (sSet 3 (cNl (lcF (iOfA pZip (aCons (cVar 1) (aCons (cVar 2) aNil))) (gTp (gC (gNm 6) (gC (gNm 5) gN0))) qYes (cCall 2 F_so_often (aCons (cB pIx (cVar 6) (cK (.int 1))) (aCons (cVar 5) aNil))) [6, 5])))
    (sSeq (sSet 4 (cNl (lcF (iOfA pZip (aCons (cVar 1) (aCons (cVar 2) aNil))) (gTp (gC (gNm 6) (gC (gNm 5) gN0))) qYes (cCall 2 F_so_often (aCons (cB pIx (cVar 6) (cK (.int 2))) (aCons (cVar 5) aNil))) [6, 5])))
    (sRet (cCall 2 F_no_less (aCons (cCall 1 F_sum_of (aCons (cN pLst (aCons (cB pIx (cVar 0) (cK (.int 1))) (aStar (cVar 4) aNil))) aNil)) (aCons (cCall 1 F_sum_of (aCons (cN pLst (aCons (cB pIx (cVar 0) (cK (.int 2))) (aStar (cVar 3) aNil))) aNil)) aNil))))))))
def K_summed {S : Type} (F_so_often : Fn S) (F_no_less : Fn S) (F_sum_of : Fn S) : Fn S := fnD 7 (B_summed F_so_often F_no_less F_sum_of)

-- _law_word: slots _law_deck_here 0, _law_least 1, _law_most 2, _law_letters 3, _law_word_here 4, _law_k 5
def B_w_word {S : Type} (F_w_draw : Fn S) : Sv S :=
    (sSeq (sSet 3 (cK (.str "abcdefghijklmnopqrstuvwxyz")))
    (sSeq (sSet 4 (cK (.str "")))
    (sSeq (sFor (iOfA pR1 (aCons (cB pAdd (cVar 1) (cCall 2 F_w_draw (aCons (cVar 0) (aCons (cB pAdd (cB pSub (cVar 2) (cVar 1)) (cK (.int 1))) aNil)))) aNil)) (gNm 5)
    (sSet 4 (cB pAdd (cVar 4) (cB pIx (cVar 3) (cCall 2 F_w_draw (aCons (cVar 0) (aCons (cK (.int 26)) aNil)))))))
    (sRet (cVar 4)))))
def K_w_word {S : Type} (F_w_draw : Fn S) : Fn S := fnD 6 (B_w_word F_w_draw)

-- _law_kinds: slots _law_deck_here 0, _law_many 1, _law_taken 2, _law_kinds_here 3, _law_k 4, _law_word_here 5, _law_way 6, _law_at 7, _law_one 8, _law_sign 9; cells _law_kinds_here; own [3]
def B_w_kinds {S : Type} (F_w_word : Fn S) (F_w_draw : Fn S) : Sv S :=
    (sSeq (sSet 2 (cK (.str "absurd all an and any are as at be by false if is least many more no not only or same some than")))
    (sSeq (sSet 2 (cNl (aSplit (cB pAdd (cVar 2) (cK (.str " the then there every either unless"))) (cK (.str " ")))))
    (sSeq (sOwn 3 (aN lenOk aNil))
    (sSeq (sFor (iOfA pR1 (aCons (cVar 1) aNil)) (gNm 4)
    (sSeq (sSet 5 (cCall 3 F_w_word (aCons (cVar 0) (aCons (cK (.int 2)) (aCons (cK (.int 8)) aNil)))))
      (sSeq (sSet 6 (cCall 2 F_w_draw (aCons (cVar 0) (aCons (cK (.int 3)) aNil))))
      (sSeq (sIf (qAnd (qT (cB pEq (cVar 6) (cK (.int 1)))) (qT (cB pNe (cVar 3) (cN pLst aNil))))
      (sSet 5 (cFl (cSl pSl (cB pAdd (cB pIx (cVar 3) (cK (.int 0))) (cVar 5)) oNo (oOf (cK (.int 8))))))
      sNx)
      (sSeq (sIf (qAnd (qT (cB pEq (cVar 6) (cK (.int 2)))) (qT (cB pNe (cVar 3) (cN pLst aNil))))
      (sSeq (sSet 7 (cFl (cCall 2 F_w_draw (aCons (cVar 0) (aCons (cN pLen (aCons (cB pIx (cVar 3) (cK (.int 0))) aNil)) aNil)))))
        (sSet 5 (cFl (cB pAdd (cB pAdd (cSl pSl (cB pIx (cVar 3) (cK (.int 0))) oNo (oOf (cVar 7))) (cB pIx (cVar 5) (cK (.int 0)))) (cSl pSl (cB pIx (cVar 3) (cK (.int 0))) (oOf (cB pAdd (cVar 7) (cK (.int 1)))) oNo)))))
      sNx)
      (sSeq (sIf (qOr (qT (cB pIn (cVar 5) (cVar 2))) (qT (cB pIn (cVar 5) (cVar 3))))
      (sSet 5 (cFl (cB pIx (cNl (lcF (iOf asL (cNl (lcF (iOf asS (cK (.str "abcdefghijklmnopqrst"))) (gNm 9) qYes (cB pAdd (cK (.str "q")) (cVar 9)) [9]))) (gNm 8) (qT (cB pNotIn (cVar 8) (cVar 3))) (cVar 8) [8])) (cK (.int 0)))))
      sNx)
      (sApp 3 (cVar 5))))))))
    (sRet (cVar 3))))))
def K_w_kinds {S : Type} (F_w_word : Fn S) (F_w_draw : Fn S) : Fn S := fnD 10 (B_w_kinds F_w_word F_w_draw)

-- _law_names: slots _law_deck_here 0, _law_many 1, _law_names_here 2, _law_k 3, _law_name 4, _law_one 5; cells _law_names_here; own [2]
def B_w_names {S : Type} (F_w_draw : Fn S) (F_w_word : Fn S) : Sv S :=
    (sSeq (sOwn 2 (aN lenOk aNil))
    (sSeq (sFor (iOfA pR1 (aCons (cVar 1) aNil)) (gNm 3)
    (sSeq (sSet 4 (cB pAdd (cB pIx (cK (.str "ABCDEFGHIJKLMNOPQRSTUVWXYZ")) (cCall 2 F_w_draw (aCons (cVar 0) (aCons (cK (.int 26)) aNil)))) (cCall 3 F_w_word (aCons (cVar 0) (aCons (cK (.int 0)) (aCons (cK (.int 7)) aNil))))))
      (sSeq (sIf (qT (cB pIn (cVar 4) (cVar 2)))
      (sSet 4 (cFl (cB pIx (cNl (lcF (iOf asL (cN pLst (aCons (cK (.str "Qa")) (aCons (cK (.str "Qb")) (aCons (cK (.str "Qc")) (aCons (cK (.str "Qd")) (aCons (cK (.str "Qe")) (aCons (cK (.str "Qf")) (aCons (cK (.str "Qg")) aNil))))))))) (gNm 5) (qT (cB pNotIn (cVar 5) (cVar 2))) (cVar 5) [5])) (cK (.int 0)))))
      sNx)
      (sApp 2 (cVar 4)))))
    (sRet (cVar 2))))
def K_w_names {S : Type} (F_w_draw : Fn S) (F_w_word : Fn S) : Fn S := fnD 6 (B_w_names F_w_draw F_w_word)

-- _law_sum: slots _law_deck_here 0, _law_kinds_here 1, _law_great 2, _law_parts 3, _law_kind 4; own [3]
def B_w_sum {S : Type} (F_w_draw : Fn S) : Sv S :=
    (sSeq (sOwn 3 (aN lenOk aNil))
    (sSeq (sFor (iOf asL (cNl (aN pSorted (aCons (cVar 1) aNil)))) (gNm 4)
    (sIf (qT (cB pEq (cCall 2 F_w_draw (aCons (cVar 0) (aCons (cK (.int 2)) aNil))) (cK (.int 1))))
      (sApp 3 (cN pTup (aCons (cVar 4) (aCons (cB pAdd (cK (.int 1)) (cCall 2 F_w_draw (aCons (cVar 0) (aCons (cB pIx (cN pLst (aCons (cK (.int 3)) (aCons (cVar 2) aNil))) (cCall 2 F_w_draw (aCons (cVar 0) (aCons (cK (.int 2)) aNil)))) aNil)))) aNil))))
      sNx))
    (sRet (cN pTup (aCons (cN pTuple (aCons (cVar 3) aNil)) (aCons (cCall 2 F_w_draw (aCons (cVar 0) (aCons (cB pIx (cN pLst (aCons (cK (.int 4)) (aCons (cVar 2) aNil))) (cCall 2 F_w_draw (aCons (cVar 0) (aCons (cK (.int 2)) aNil)))) aNil))) aNil))))))
def K_w_sum {S : Type} (F_w_draw : Fn S) : Fn S := fnD 5 (B_w_sum F_w_draw)

-- _law_count: slots _law_total 0, _law_counts 1, _law_kind 2, _law_times 3; cells _law_counts
def B_w_count {S : Type}  : Sv S :=
    (sRet (cB pAdd (cB pIx (cVar 0) (cK (.int 1))) (cN pSum (aCons (cNl (lcF (iOf asT (cB pIx (cVar 0) (cK (.int 0)))) (gTp (gC (gNm 2) (gC (gNm 3) gN0))) qYes (cB pMul (cVar 3) (cDgx (kOf (cVar 1)) (cVar 2) (cK (.int 0)))) [2, 3])) aNil))))
def K_w_count {S : Type}  : Fn S := fnD 4 (B_w_count )

-- _law_more: slots _law_form 0, _law_counts 1
def B_w_more {S : Type} (F_w_count : Fn S) : Sv S :=
    (sRet (cB pSub (cCall 2 F_w_count (aCons (cB pIx (cVar 0) (cK (.int 1))) (aCons (cVar 1) aNil))) (cCall 2 F_w_count (aCons (cB pIx (cVar 0) (cK (.int 2))) (aCons (cVar 1) aNil)))))
def K_w_more {S : Type} (F_w_count : Fn S) : Fn S := fnD 2 (B_w_more F_w_count)

-- _law_over: slots _law_form 0, _law_forms 1, _law_times 2, _law_counts 3, _law_found 4, _law_k 5
def B_w_over {S : Type} (F_w_more : Fn S) : Sv S :=
    (sSeq (sSet 4 (cCall 2 F_w_more (aCons (cVar 0) (aCons (cVar 3) aNil))))
    (sSeq (sFor (iOfA pR1 (aCons (cN pLen (aCons (cVar 1) aNil)) aNil)) (gNm 5)
    (sSet 4 (cB pSub (cVar 4) (cB pMul (cB pIx (cVar 2) (cVar 5)) (cCall 2 F_w_more (aCons (cB pIx (cVar 1) (cVar 5)) (aCons (cVar 3) aNil)))))))
    (sRet (cVar 4))))
def K_w_over {S : Type} (F_w_more : Fn S) : Fn S := fnD 6 (B_w_over F_w_more)

-- _law_due: slots _law_form 0, _law_forms 1, _law_times 2, _law_kinds_here 3, _law_none 4, _law_one 5, _law_kind 6; cells _law_form, _law_forms, _law_none, _law_times
def B_w_due {S : Type} (F_w_over : Fn S) : Sv S :=
    (sSeq (sIf (qT (cB pNe (cNl (lcF (iOf asT (cB pAdd (cN pTup (aCons (cVar 0) aNil)) (cVar 1))) (gNm 5) (qT (cB pNe (cB pIx (cVar 5) (cK (.int 0))) (cK (.str "least")))) (cVar 5) [5])) (cN pLst aNil)))
    (sRet (cK (.bool false)))
    sNx)
    (sSeq (sSet 4 (cCall 4 F_w_over (aCons (cVar 0) (aCons (cVar 1) (aCons (cVar 2) (aCons (cNd kNew) aNil))))))
    (sSeq (sIf (qT (cB pLt (cVar 4) (cK (.int 0))))
    (sRet (cK (.bool false)))
    sNx)
    (sRet (cB pEq (cNl (lcF (iOf asL (cVar 3)) (gNm 6) (qT (cB pLt (cCall 4 F_w_over (aCons (cVar 0) (aCons (cVar 1) (aCons (cVar 2) (aCons (cNd (kDisp (kCons (cVar 6) (cK (.int 1)) kNil))) aNil))))) (cVar 4))) (cVar 6) [6])) (cN pLst aNil))))))
def K_w_due {S : Type} (F_w_over : Fn S) : Fn S := fnD 7 (B_w_due F_w_over)

-- _law_side: slots _law_parts 0, _law_number 1, _law_kind 2; cells _law_parts
def B_w_side {S : Type}  : Sv S :=
    (sRet (cN pTup (aCons (cN pTuple (aCons (cNl (lcF (iOf asL (cNl (aSortK (kOf (cVar 0))))) (gNm 2) (qT (cB pGt (cDx (kOf (cVar 0)) (cVar 2)) (cK (.int 0)))) (cN pTup (aCons (cVar 2) (aCons (cDx (kOf (cVar 0)) (cVar 2)) aNil))) [2])) aNil)) (aCons (cVar 1) aNil))))
def K_w_side {S : Type}  : Fn S := fnD 3 (B_w_side )

-- _law_built: slots _law_deck_here 0, _law_kinds_here 1, _law_forms 2, _law_times 3, _law_none 4, _law_ahead 5, _law_behind 6, _law_kind 7, _law_much 8, _law_more_here 9, _law_first 10, _law_k 11; cells _law_forms, _law_kind, _law_times; own [5, 6]
def B_w_built {S : Type} (F_w_more : Fn S) (F_w_draw : Fn S) (F_w_side : Fn S) : Sv S :=
    (sSeq (sSet 4 (cN pSum (aCons (cNl (lcF (iOfA pR1 (aCons (cN pLen (aCons (cVar 2) aNil)) aNil)) (gNm 11) qYes (cB pMul (cB pIx (cVar 3) (cVar 11)) (cCall 2 F_w_more (aCons (cB pIx (cVar 2) (cVar 11)) (aCons (cNd kNew) aNil)))) [11])) aNil)))
    (sSeq (sOwnD 5 kNew)
    (sSeq (sOwnD 6 kNew)
    (sSeq (sFor (iOf asL (cVar 1)) (gNm 7)
    (sSeq (sSet 8 (cB pSub (cN pSum (aCons (cNl (lcF (iOfA pR1 (aCons (cN pLen (aCons (cVar 2) aNil)) aNil)) (gNm 11) qYes (cB pMul (cB pIx (cVar 3) (cVar 11)) (cCall 2 F_w_more (aCons (cB pIx (cVar 2) (cVar 11)) (aCons (cNd (kDisp (kCons (cVar 7) (cK (.int 1)) kNil))) aNil)))) [11])) aNil)) (cVar 4)))
      (sSeq (sSet 9 (cB pIx (cN pLst (aCons (cK (.int 0)) (aCons (cK (.int 1)) (aCons (cK (.int 5)) aNil)))) (cCall 2 F_w_draw (aCons (cVar 0) (aCons (cK (.int 3)) aNil)))))
      (sSeq (sPutO 5 (cVar 7) (cB pAdd (cN pMax2 (aCons (cK (.int 0)) (aCons (cVar 8) aNil))) (cVar 9)))
      (sSeq (sPutO 6 (cVar 7) (cB pAdd (cN pMax2 (aCons (cK (.int 0)) (aCons (cB pSub (cK (.int 0)) (cVar 8)) aNil))) (cVar 9)))
      (sIf (qT (cB pEq (cCall 2 F_w_draw (aCons (cVar 0) (aCons (cK (.int 4)) aNil))) (cK (.int 1))))
      (sPutO 5 (cVar 7) (cB pAdd (cB pAdd (cDx (kOwn 5) (cVar 7)) (cK (.int 1))) (cCall 2 F_w_draw (aCons (cVar 0) (aCons (cK (.int 3)) aNil)))))
      sNx))))))
    (sSeq (sSet 9 (cB pIx (cN pLst (aCons (cK (.int 0)) (aCons (cK (.int 1)) (aCons (cK (.int 7)) aNil)))) (cCall 2 F_w_draw (aCons (cVar 0) (aCons (cK (.int 3)) aNil)))))
    (sSeq (sSet 10 (cB pAdd (cB pAdd (cN pMax2 (aCons (cK (.int 0)) (aCons (cVar 4) aNil))) (cVar 9)) (cB pIx (cN pLst (aCons (cK (.int 0)) (aCons (cK (.int 0)) (aCons (cK (.int 2)) aNil)))) (cCall 2 F_w_draw (aCons (cVar 0) (aCons (cK (.int 3)) aNil))))))
    (sRet (cN pTup (aCons (cK (.str "least")) (aCons (cCall 2 F_w_side (aCons (cVar 5) (aCons (cVar 10) aNil))) (aCons (cCall 2 F_w_side (aCons (cVar 6) (aCons (cB pAdd (cN pMax2 (aCons (cK (.int 0)) (aCons (cB pSub (cK (.int 0)) (cVar 4)) aNil))) (cVar 9)) aNil))) aNil)))))))))))
def K_w_built {S : Type} (F_w_more : Fn S) (F_w_draw : Fn S) (F_w_side : Fn S) : Fn S := fnD 12 (B_w_built F_w_more F_w_draw F_w_side)

-- _law_bent_sum: slots _law_deck_here 0, _law_total 1, _law_kinds_here 2, _law_parts 3, _law_step 4, _law_at 5; own [3]
def B_w_bent_sum {S : Type} (F_w_draw : Fn S) (F_w_side : Fn S) : Sv S :=
    (sSeq (sOwnD 3 (kPairsT (cB pIx (cVar 1) (cK (.int 0)))))
    (sSeq (sSet 4 (cB pIx (cN pLst (aCons (cK (.int 1)) (aCons (cU pNeg (cK (.int 1))) aNil))) (cCall 2 F_w_draw (aCons (cVar 0) (aCons (cK (.int 2)) aNil)))))
    (sSeq (sSet 5 (cCall 2 F_w_draw (aCons (cVar 0) (aCons (cB pAdd (cN pLen (aCons (cVar 2) aNil)) (cK (.int 1))) aNil))))
    (sSeq (sIf (qT (cB pEq (cVar 5) (cN pLen (aCons (cVar 2) aNil))))
    (sRet (cN pTup (aCons (cB pIx (cVar 1) (cK (.int 0))) (aCons (cN pMax2 (aCons (cK (.int 0)) (aCons (cB pAdd (cB pIx (cVar 1) (cK (.int 1))) (cVar 4)) aNil))) aNil))))
    sNx)
    (sSeq (sPutO 3 (cB pIx (cVar 2) (cVar 5)) (cN pMax2 (aCons (cK (.int 0)) (aCons (cB pAdd (cDgx (kOwn 3) (cB pIx (cVar 2) (cVar 5)) (cK (.int 0))) (cVar 4)) aNil))))
    (sRet (cCall 2 F_w_side (aCons (cVar 3) (aCons (cB pIx (cVar 1) (cK (.int 1))) aNil)))))))))
def K_w_bent_sum {S : Type} (F_w_draw : Fn S) (F_w_side : Fn S) : Fn S := fnD 6 (B_w_bent_sum F_w_draw F_w_side)

-- _law_bent: slots _law_deck_here 0, _law_form 1, _law_kinds_here 2, _law_way 3
def B_w_bent {S : Type} (F_w_draw : Fn S) (F_w_bent_sum : Fn S) : Sv S :=
    (sSeq (sSet 3 (cCall 2 F_w_draw (aCons (cVar 0) (aCons (cK (.int 5)) aNil))))
    (sSeq (sIf (qT (cB pLt (cVar 3) (cK (.int 2))))
    (sRet (cN pTup (aCons (cK (.str "least")) (aCons (cCall 3 F_w_bent_sum (aCons (cVar 0) (aCons (cB pIx (cVar 1) (cK (.int 1))) (aCons (cVar 2) aNil)))) (aCons (cB pIx (cVar 1) (cK (.int 2))) aNil)))))
    sNx)
    (sSeq (sIf (qT (cB pLt (cVar 3) (cK (.int 4))))
    (sRet (cN pTup (aCons (cK (.str "least")) (aCons (cB pIx (cVar 1) (cK (.int 1))) (aCons (cCall 3 F_w_bent_sum (aCons (cVar 0) (aCons (cB pIx (cVar 1) (cK (.int 2))) (aCons (cVar 2) aNil)))) aNil)))))
    sNx)
    (sRet (cN pTup (aCons (cK (.str "least")) (aCons (cB pIx (cVar 1) (cK (.int 2))) (aCons (cB pIx (cVar 1) (cK (.int 1))) aNil))))))))
def K_w_bent {S : Type} (F_w_draw : Fn S) (F_w_bent_sum : Fn S) : Fn S := fnD 4 (B_w_bent F_w_draw F_w_bent_sum)

-- _law_told: slots _law_form 0, _law_forms 1, _law_times 2, _law_due_here 3, _law_found 4
def B_w_told {S : Type} (F_summed : Fn S) : Sv S :=
    (sSeq (sSet 4 (cCall 3 F_summed (aCons (cVar 0) (aCons (cVar 1) (aCons (cVar 2) aNil)))))
    (sRet (cAnd (cU (pIsi "bool") (cVar 4)) (cB pEq (cVar 4) (cVar 3)))))
def K_w_told {S : Type} (F_summed : Fn S) : Fn S := fnD 5 (B_w_told F_summed)

end Lw42
namespace K42
open PySem
def topS (i : Nat) : Stmt := PySem.Challenge.pw_linecourt_k42_whole_summed_kind_by_kind.main.body.getD i (.Pass ⟨0, 0, 0, 0⟩)
end K42
set_option Elab.async false
set_option linter.all false
set_option maxRecDepth 100000
set_option maxHeartbeats 4000000
namespace K42
open PySem PySem.Spec PyProof.Rows L2 Dl Lw42
section
variable {P : Program} {w : World} {K : PySem.W.Frag} {mg : Str → Option Value} {base : Heap} {f : Addr} {fd : FuncData}
-- sum_of: slots totals 0, times 1, number 2, parts 3, more 4, kind 5, often 6; cells times
abbrev s_sum_of : Stmt := topS 1
abbrev N_sum_of : List Str := ["totals", "times", "number", "parts", "more", "kind", "often"]
theorem sc_sum_of : FnScope N_sum_of ["totals"] (defScope s_sum_of) := ⟨rfl, rfl, rfl, by decide +kernel, rfl, by decide +kernel, by decide +kernel⟩
theorem P_sum_of {S : Type} {Z : Zk S} {hd : Nat → Addr → Prop} {k : Nat} (U : Fun K "sum_of" "sum_of" s_sum_of f fd) (m_tuple : mg "tuple" = none) (m_sorted : mg "sorted" = none) :
    FnOk P w K mg base CX0 (k + 1) f fd ["totals"] (spD ⟨K, hd⟩ Z 1 K_sum_of) :=
  fn_okD (W := []) (i := 1) (F := B_sum_of) U sc_sum_of rfl rfl (by decide) (by decide) rfl rfl (fun cdv A outer s H E => ps_set sc_sum_of.nd rfl (.inr rfl) pe_dnewK) fun p cdv A outer s H E hr => by
    unfold B_sum_of
    exact (es_cons (es_set (i := 2) sc_sum_of.nd rfl (.inl rfl) ex_int)
    (es_cons (es_for PassesOwn.never rfl (ei_list (ex_var 0)) (eg_tup rfl (egs_cons (eg_name (i := 3) sc_sum_of.nd rfl (.inl rfl)) (egs_cons (eg_name (i := 4) sc_sum_of.nd rfl (.inl rfl)) egs_nil)) (fun _ _ _ h => glC (fun _ _ _ h => glC (fun _ _ _ h => gl0 h) h) h))
    (es_cons (es_aug (ps_aug (i := 2) sc_sum_of.nd rfl (.inl rfl) (ex_var 4) ip_add) os_ip)
      (es_one (es_for PassesOwn.never rfl (ei_tup (ex_var 3)) (eg_tup rfl (egs_cons (eg_name (i := 5) sc_sum_of.nd rfl (.inl rfl)) (egs_cons (eg_name (i := 6) sc_sum_of.nd rfl (.inl rfl)) egs_nil)) (fun _ _ _ h => glC (fun _ _ _ h => glC (fun _ _ _ h => gl0 h) h) h))
      (es_one (es_dput (Room_units1 hr) (pv 1) (ex_var 5) (ex_bin od_add os_add (ex_dg2 (Room_units1 hr) (pv 1) (ex_var 5) ex_int ⟨rfl, rfl, rfl, rfl⟩) (ex_var 6))))))))
    (es_one (es_ret (ex_tup (ea_cons (ex_callTy od_tuple os_tuple (by rfl) m_tuple (by decide +kernel) (ea_cons (ex_nl (nl_lc (own := [("kind", 5)]) (tt := tYes) rfl sc_sum_of.nd (ei_list (ex_nl (nl_sortD rfl (by rfl) m_sorted (pv 1)))) (blkOk_by (N := N_sum_of) (sc := defScope s_sum_of) (by decide +kernel)) (fun _ _ _ _ _ => (eg_name (i := 5) sc_sum_of.nd rfl (.inl rfl))) (fun _ _ _ _ _ => pts_nil) (fun _ _ _ h => yes_of h) (fun _ _ _ _ _ => (ex_tup (ea_cons (ex_var 5) (ea_cons (ex_di (Room_units1 hr) (pv 1) (ex_var 5) (fun _ _ => rfl)) ea_nil)))))) ea_nil)) (ea_cons (ex_var 2) ea_nil)))))))

-- so_often: slots total 0, often 1, parts 2, number 3, kind 4, times 5; cells often
abbrev s_so_often : Stmt := topS 2
abbrev N_so_often : List Str := ["total", "often", "parts", "number", "kind", "times"]
theorem sc_so_often : FnScope N_so_often ["total", "often"] (defScope s_so_often) := ⟨rfl, rfl, rfl, by decide +kernel, rfl, by decide +kernel, by decide +kernel⟩
theorem P_so_often {S : Type} {Z : Zk S} {hd : Nat → Addr → Prop} {k : Nat} (U : Fun K "so_often" "so_often" s_so_often f fd) (m_tuple : mg "tuple" = none) :
    FnOk P w K mg base CX0 (k + 1) f fd ["total", "often"] (spD ⟨K, hd⟩ Z 2 (K_so_often )) :=
  fn_ok (W := []) (F := B_so_often ) U sc_so_often rfl rfl (by decide) (by decide) fun cdv A outer s H E hr => by
    unfold B_so_often
    exact (es_cons (es_asgT (ps_asg (ex_var 0) (eg_tup rfl (egs_cons (eg_name (i := 2) sc_so_often.nd rfl (.inl rfl)) (egs_cons (eg_name (i := 3) sc_so_often.nd rfl (.inl rfl)) egs_nil)) (fun _ _ _ h => glC (fun _ _ _ h => glC (fun _ _ _ h => gl0 h) h) h))))
    (es_one (es_ret (ex_tup (ea_cons (ex_callTy od_tuple os_tuple (by rfl) m_tuple (by decide +kernel) (ea_cons (ex_nl (nl_lc (own := [("kind", 4), ("times", 5)]) (tt := tYes) rfl sc_so_often.nd (ei_tup (ex_var 2)) (blkOk_by (N := N_so_often) (sc := defScope s_so_often) (by decide +kernel)) (fun _ _ _ _ _ => (eg_tup rfl (egs_cons (eg_name (i := 4) sc_so_often.nd rfl (.inl rfl)) (egs_cons (eg_name (i := 5) sc_so_often.nd rfl (.inl rfl)) egs_nil)) (fun _ _ _ h => glC (fun _ _ _ h => glC (fun _ _ _ h => gl0 h) h) h))) (fun _ _ _ _ _ => pts_nil) (fun _ _ _ h => yes_of h) (fun _ _ _ _ _ => (ex_tup (ea_cons (ex_var 4) (ea_cons (ex_bin op_mulW os_mul (ex_var 5) (ex_var 1)) ea_nil)))))) ea_nil)) (ea_cons (ex_bin op_mulW os_mul (ex_var 3) (ex_var 1)) ea_nil))))))

-- no_less: slots one 0, other 1, times 2, kind 3, often 4; cells times
abbrev s_no_less : Stmt := topS 3
abbrev N_no_less : List Str := ["one", "other", "times", "kind", "often"]
theorem sc_no_less : FnScope N_no_less ["one", "other"] (defScope s_no_less) := ⟨rfl, rfl, rfl, by decide +kernel, rfl, by decide +kernel, by decide +kernel⟩
theorem P_no_less {S : Type} {Z : Zk S} {hd : Nat → Addr → Prop} {k : Nat} {c T : Addr} (U : FunC K "no_less" "no_less" s_no_less f fd c) (TB : GxR.TabB base mg c T) (zt : ZTab Z T) (m_dict : mg "dict" = none) (m_all : mg "all" = none) :
    FnOk P w K mg base CX0 (k + 1 + 1) f fd ["one", "other"] (spD ⟨K, hd⟩ Z 2 (K_no_less )) :=
  fn_okC (W := []) (F := B_no_less ) U sc_no_less rfl rfl (by decide) (by decide) fun A outer s H E hr2 => by
    have hr := hr2.mono (Nat.le_succ k)
    unfold B_no_less
    exact (es_cons (es_set (i := 2) sc_no_less.nd rfl (.inr rfl) (ex_nd (nd_pairsT rfl (by rfl) m_dict (ex_ix ix_seq os_ix (ex_var 0) ex_int (fun _ _ => rfl)))))
    (es_one (es_ret (ex_and (ex_cmp op_ge os_ge (ex_ix ix_seq os_ix (ex_var 0) ex_int (fun _ _ => rfl)) (ex_ix ix_seq os_ix (ex_var 1) ex_int (fun _ _ => rfl)) (nomark _)) (ex_one (ex_all (own := [("kind", 3), ("often", 4)]) (tt := tYes) zt TB rfl hr2 (by rfl) m_all rfl sc_no_less.nd (ei_tup (ex_ix ix_seq os_ix (ex_var 1) ex_int (fun _ _ => rfl))) (blkOk_by (N := N_no_less) (sc := defScope s_no_less) (by decide +kernel)) (fun _ _ _ _ _ _ => (eg_tup rfl (egs_cons (eg_name (i := 3) sc_no_less.nd rfl (.inl rfl)) (egs_cons (eg_name (i := 4) sc_no_less.nd rfl (.inl rfl)) egs_nil)) (fun _ _ _ h => glC (fun _ _ _ h => glC (fun _ _ _ h => gl0 h) h) h))) (fun _ _ _ _ _ _ hr => pts_nil) (fun _ _ _ h => yes_of h) (fun _ _ _ _ _ _ hr => (ex_cmp op_ge os_ge (ex_dgx (Room_un1 hr) (ds_ex (ex_var 2)) (ex_var 3) ex_int ⟨rfl, rfl, rfl, rfl⟩) (ex_var 4) (nomark _)))))))))

-- summed: slots form 0, forms 1, times 2, ones 3, others 4, often 5, one 6
abbrev s_summed : Stmt := topS 4
abbrev N_summed : List Str := ["form", "forms", "times", "ones", "others", "often", "one"]
theorem sc_summed : FnScope N_summed ["form", "forms", "times"] (defScope s_summed) := ⟨rfl, rfl, rfl, by decide +kernel, rfl, by decide +kernel, by decide +kernel⟩
theorem P_summed {S : Type} {Z : Zk S} {hd : Nat → Addr → Prop} {k : Nat} {c T : Addr} (U : FunC K "summed" "summed" s_summed f fd c) (TB : GxR.TabB base mg c T) (zt : ZTab Z T) {F_so_often : Fn S} {k_so_often : Nat} (C_so_often : Lc.Dn P w K mg base "so_often" ["total", "often"] k_so_often (spD ⟨K, hd⟩ Z 2 F_so_often)) (h_so_often : k_so_often ≤ k) {F_no_less : Fn S} {k_no_less : Nat} (C_no_less : Lc.Dn P w K mg base "no_less" ["one", "other"] k_no_less (spD ⟨K, hd⟩ Z 2 F_no_less)) (h_no_less : k_no_less ≤ k) {F_sum_of : Fn S} {k_sum_of : Nat} (C_sum_of : Lc.Dn P w K mg base "sum_of" ["totals"] k_sum_of (spD ⟨K, hd⟩ Z 1 F_sum_of)) (h_sum_of : k_sum_of ≤ k) (m_any : mg "any" = none) (m_len : mg "len" = none) (m_zip : mg "zip" = none) :
    FnOk P w K mg base CX0 (k + 1 + 1) f fd ["form", "forms", "times"] (spD ⟨K, hd⟩ Z 3 (K_summed F_so_often F_no_less F_sum_of)) :=
  fn_okC (W := []) (F := B_summed F_so_often F_no_less F_sum_of) U sc_summed rfl rfl (by decide) (by decide) fun A outer s H E hr2 => by
    have hr := hr2.mono (Nat.le_succ k)
    unfold B_summed
    exact (es_cons (es_if (PW.pt (ew_or (et_cmp (od_ne hr.units) os_ne (ex_callB od_len os_len (by rfl) m_len (by decide +kernel) (ea_cons (ex_var 1) ea_nil)) (ex_callB od_len os_len (by rfl) m_len (by decide +kernel) (ea_cons (ex_var 2) ea_nil)) (nomark _) (fun _ _ _ h => pNe_bool h)) (pw_or1 (et_val (ex_any (own := [("often", 5)]) (tt := tYes) zt TB rfl hr2 (by rfl) m_any rfl sc_summed.nd (ei_tup (ex_var 2)) (blkOk_by (N := N_summed) (sc := defScope s_summed) (by decide +kernel)) (fun _ _ _ _ _ _ => (eg_name (i := 5) sc_summed.nd rfl (.inl rfl))) (fun _ _ _ _ _ _ hr => pts_nil) (fun _ _ _ h => yes_of h) (fun _ _ _ _ _ _ hr => (ex_cmp (od_lt hr.units) os_lt (ex_var 5) ex_int (nomark _))))))))
    (es_one (es_ret ex_bl))
    es_nil)
    (es_cons (es_if (PW.pt (ew_or (et_cmp (od_ne hr.units) os_ne (ex_ix ix_seq os_ix (ex_var 0) ex_int (fun _ _ => rfl)) ex_str (nomark _) (fun _ _ _ h => pNe_bool h)) (pw_or1 (et_val (ex_any (own := [("one", 6)]) (tt := tYes) zt TB rfl hr2 (by rfl) m_any rfl sc_summed.nd (ei_tup (ex_var 1)) (blkOk_by (N := N_summed) (sc := defScope s_summed) (by decide +kernel)) (fun _ _ _ _ _ _ => (eg_name (i := 6) sc_summed.nd rfl (.inl rfl))) (fun _ _ _ _ _ _ hr => pts_nil) (fun _ _ _ h => yes_of h) (fun _ _ _ _ _ _ hr => (ex_cmp (od_ne hr.units) os_ne (ex_ix ix_seq os_ix (ex_var 6) ex_int (fun _ _ => rfl)) ex_str (nomark _))))))))
    (es_one (es_ret ex_bl))
    es_nil)
    (es_cons (es_setNl (ps_setLc (i := 3) (own := [("one", 6), ("often", 5)]) (tt := tYes) rfl sc_summed.nd rfl rfl (sw_true rfl rfl rfl (by decide +kernel)) (ei_zip (pi_zipF (by rfl) m_zip (ea_cons (ex_var 1) (ea_cons (ex_var 2) ea_nil)))) (blkOk_by (N := N_summed) (sc := defScope s_summed) (by decide +kernel)) (fun _ _ _ _ _ => (eg_tup rfl (egs_cons (eg_name (i := 6) sc_summed.nd rfl (.inl rfl)) (egs_cons (eg_name (i := 5) sc_summed.nd rfl (.inl rfl)) egs_nil)) (fun _ _ _ h => glC (fun _ _ _ h => glC (fun _ _ _ h => gl0 h) h) h))) (fun _ _ _ _ _ => pts_nil) (fun _ _ _ _ _ => (ex_call C_so_often (hr.mono h_so_often) (by rfl) (ea_cons (ex_ix ix_seq os_ix (ex_var 6) ex_int (fun _ _ => rfl)) (ea_cons (ex_var 5) ea_nil))))) (fun _ _ _ h => nl_lcT (hu := by decide) (fun _ _ _ h => yes_of h) h))
    (es_cons (es_setNl (ps_setLc (i := 4) (own := [("one", 6), ("often", 5)]) (tt := tYes) rfl sc_summed.nd rfl rfl (sw_true rfl rfl rfl (by decide +kernel)) (ei_zip (pi_zipF (by rfl) m_zip (ea_cons (ex_var 1) (ea_cons (ex_var 2) ea_nil)))) (blkOk_by (N := N_summed) (sc := defScope s_summed) (by decide +kernel)) (fun _ _ _ _ _ => (eg_tup rfl (egs_cons (eg_name (i := 6) sc_summed.nd rfl (.inl rfl)) (egs_cons (eg_name (i := 5) sc_summed.nd rfl (.inl rfl)) egs_nil)) (fun _ _ _ h => glC (fun _ _ _ h => glC (fun _ _ _ h => gl0 h) h) h))) (fun _ _ _ _ _ => pts_nil) (fun _ _ _ _ _ => (ex_call C_so_often (hr.mono h_so_often) (by rfl) (ea_cons (ex_ix ix_seq os_ix (ex_var 6) ex_int (fun _ _ => rfl)) (ea_cons (ex_var 5) ea_nil))))) (fun _ _ _ h => nl_lcT (hu := by decide) (fun _ _ _ h => yes_of h) h))
    (es_one (es_ret (ex_call C_no_less (hr.mono h_no_less) (by rfl) (ea_cons (ex_call C_sum_of (hr.mono h_sum_of) (by rfl) (ea_cons (ex_lst (ea_cons (ex_ix ix_seq os_ix (ex_var 0) ex_int (fun _ _ => rfl)) (ea_star (ex_var 4) ea_nil))) ea_nil)) (ea_cons (ex_call C_sum_of (hr.mono h_sum_of) (by rfl) (ea_cons (ex_lst (ea_cons (ex_ix ix_seq os_ix (ex_var 0) ex_int (fun _ _ => rfl)) (ea_star (ex_var 3) ea_nil))) ea_nil)) ea_nil)))))))))

-- _law_word: slots _law_deck_here 0, _law_least 1, _law_most 2, _law_letters 3, _law_word_here 4, _law_k 5
abbrev s_w_word : Stmt := topS 9
abbrev N_w_word : List Str := ["_law_deck_here", "_law_least", "_law_most", "_law_letters", "_law_word_here", "_law_k"]
theorem sc_w_word : FnScope N_w_word ["_law_deck_here", "_law_least", "_law_most"] (defScope s_w_word) := ⟨rfl, rfl, rfl, by decide +kernel, rfl, by decide +kernel, by decide +kernel⟩
theorem P_w_word {S : Type} {Z : Zk S} {hd : Nat → Addr → Prop} {k : Nat} (U : Fun K "_law_word" "_law_word" s_w_word f fd) {F_w_draw : Fn S} {k_w_draw : Nat} (C_w_draw : Lc.Dn P w K mg base "_law_draw" ["_law_deck_here", "_law_most"] k_w_draw (spD ⟨K, hd⟩ Z 2 F_w_draw)) (h_w_draw : k_w_draw ≤ k) (m_range : mg "range" = none) :
    FnOk P w K mg base CX0 (k + 1) f fd ["_law_deck_here", "_law_least", "_law_most"] (spD ⟨K, hd⟩ Z 3 (K_w_word F_w_draw)) :=
  fn_ok (W := []) (F := B_w_word F_w_draw) U sc_w_word rfl rfl (by decide) (by decide) fun cdv A outer s H E hr => by
    unfold B_w_word
    exact (es_cons (es_set (i := 3) sc_w_word.nd rfl (.inl rfl) ex_str)
    (es_cons (es_set (i := 4) sc_w_word.nd rfl (.inl rfl) ex_str)
    (es_cons (es_for PassesOwn.never rfl (ei_range1 (pi_range1 (by rfl) m_range (ea_cons (ex_bin od_add os_add (ex_var 1) (ex_call C_w_draw (hr.mono h_w_draw) (by rfl) (ea_cons (ex_var 0) (ea_cons (ex_bin od_add os_add (ex_bin op_sub os_sub (ex_var 2) (ex_var 1)) ex_int) ea_nil)))) ea_nil))) (eg_name (i := 5) sc_w_word.nd rfl (.inl rfl))
    (es_one (es_set (i := 4) sc_w_word.nd rfl (.inl rfl) (ex_bin od_add os_add (ex_var 4) (ex_ix ix_seq os_ix (ex_var 3) (ex_call C_w_draw (hr.mono h_w_draw) (by rfl) (ea_cons (ex_var 0) (ea_cons ex_int ea_nil))) (fun _ _ => rfl))))))
    (es_one (es_ret (ex_var 4))))))

-- _law_kinds: slots _law_deck_here 0, _law_many 1, _law_taken 2, _law_kinds_here 3, _law_k 4, _law_word_here 5, _law_way 6, _law_at 7, _law_one 8, _law_sign 9; cells _law_kinds_here; own [3]
abbrev s_w_kinds : Stmt := topS 10
abbrev N_w_kinds : List Str := ["_law_deck_here", "_law_many", "_law_taken", "_law_kinds_here", "_law_k", "_law_word_here", "_law_way", "_law_at", "_law_one", "_law_sign"]
theorem sc_w_kinds : FnScope N_w_kinds ["_law_deck_here", "_law_many"] (defScope s_w_kinds) := ⟨rfl, rfl, rfl, by decide +kernel, rfl, by decide +kernel, by decide +kernel⟩
theorem P_w_kinds {S : Type} {Z : Zk S} {hd : Nat → Addr → Prop} {k : Nat} (U : Fun K "_law_kinds" "_law_kinds" s_w_kinds f fd) {F_w_word : Fn S} {k_w_word : Nat} (C_w_word : Lc.Dn P w K mg base "_law_word" ["_law_deck_here", "_law_least", "_law_most"] k_w_word (spD ⟨K, hd⟩ Z 3 F_w_word)) (h_w_word : k_w_word ≤ k) {F_w_draw : Fn S} {k_w_draw : Nat} (C_w_draw : Lc.Dn P w K mg base "_law_draw" ["_law_deck_here", "_law_most"] k_w_draw (spD ⟨K, hd⟩ Z 2 F_w_draw)) (h_w_draw : k_w_draw ≤ k) (m_range : mg "range" = none) (m_len : mg "len" = none) :
    FnOk P w K mg base CX0 (k + 1) f fd ["_law_deck_here", "_law_many"] (spD ⟨K, hd⟩ Z 2 (K_w_kinds F_w_word F_w_draw)) :=
  fn_ok (W := [3]) (F := B_w_kinds F_w_word F_w_draw) U sc_w_kinds rfl rfl (by decide) (by decide) fun cdv A outer s H E hr => by
    unfold B_w_kinds
    exact (es_cons (es_set (i := 2) sc_w_kinds.nd rfl (.inl rfl) ex_str)
    (es_cons (es_set (i := 2) sc_w_kinds.nd rfl (.inl rfl) (ex_nl (nl_split (ex_bin od_add os_add (ex_var 2) ex_str) ex_str)))
    (es_cons (es_own (i := 3) sc_w_kinds.nd rfl (.inr rfl) (nl_lst ea_nil))
    (es_cons (es_for PassesOwn.never rfl (ei_range1 (pi_range1 (by rfl) m_range (ea_cons (ex_var 1) ea_nil))) (eg_name (i := 4) sc_w_kinds.nd rfl (.inl rfl))
    (es_cons (es_set (i := 5) sc_w_kinds.nd rfl (.inl rfl) (ex_call C_w_word (hr.mono h_w_word) (by rfl) (ea_cons (ex_var 0) (ea_cons ex_int (ea_cons ex_int ea_nil)))))
      (es_cons (es_set (i := 6) sc_w_kinds.nd rfl (.inl rfl) (ex_call C_w_draw (hr.mono h_w_draw) (by rfl) (ea_cons (ex_var 0) (ea_cons ex_int ea_nil))))
      (es_cons (es_if (et_weak (PW.pt (ew_and (et_cmp (od_eq hr.units) os_eq (ex_var 6) ex_int (nomark _) (fun _ _ _ h => pEq_bool h)) (pw_and1 (et_cmp (od_ne hr.units) os_ne (ex_var 3) (ex_lst ea_nil) (nomark _) (fun _ _ _ h => pNe_bool h))))))
      (es_one (es_set (i := 5) sc_w_kinds.nd rfl (.inl rfl) (ex_weak (ex_slice od_sl os_sl (ex_bin od_add os_add (ex_ix ix_seq os_ix (ex_var 3) ex_int (fun _ _ => rfl)) (ex_var 5)) eo_none (eo_some ex_int)))))
      es_nil)
      (es_cons (es_if (et_weak (PW.pt (ew_and (et_cmp (od_eq hr.units) os_eq (ex_var 6) ex_int (nomark _) (fun _ _ _ h => pEq_bool h)) (pw_and1 (et_cmp (od_ne hr.units) os_ne (ex_var 3) (ex_lst ea_nil) (nomark _) (fun _ _ _ h => pNe_bool h))))))
      (es_cons (es_set (i := 7) sc_w_kinds.nd rfl (.inl rfl) (ex_weak (ex_call C_w_draw (hr.mono h_w_draw) (by rfl) (ea_cons (ex_var 0) (ea_cons (ex_callB od_len os_len (by rfl) m_len (by decide +kernel) (ea_cons (ex_ix ix_seq os_ix (ex_var 3) ex_int (fun _ _ => rfl)) ea_nil)) ea_nil)))))
        (es_one (es_set (i := 5) sc_w_kinds.nd rfl (.inl rfl) (ex_weak (ex_bin od_add os_add (ex_bin od_add os_add (ex_slice od_sl os_sl (ex_ix ix_seq os_ix (ex_var 3) ex_int (fun _ _ => rfl)) eo_none (eo_some (ex_var 7))) (ex_ix ix_seq os_ix (ex_var 5) ex_int (fun _ _ => rfl))) (ex_slice od_sl os_sl (ex_ix ix_seq os_ix (ex_var 3) ex_int (fun _ _ => rfl)) (eo_some (ex_bin od_add os_add (ex_var 7) ex_int)) eo_none))))))
      es_nil)
      (es_cons (es_if (et_weak (PW.pt (ew_or (et_cmp (od_in (Room_units65 hr)) os_in (ex_var 5) (ex_var 2) (by rfl) (fun _ _ _ h => pIn_bool h)) (pw_or1 (et_cmp (od_in (Room_units65 hr)) os_in (ex_var 5) (ex_var 3) (by rfl) (fun _ _ _ h => pIn_bool h))))))
      (es_one (es_set (i := 5) sc_w_kinds.nd rfl (.inl rfl) (ex_weak (ex_ix ix_seq os_ix (ex_nl (nl_lc (own := [("_law_one", 8)]) rfl sc_w_kinds.nd (ei_list (ex_nl (nl_lc (own := [("_law_sign", 9)]) (tt := tYes) rfl sc_w_kinds.nd (ei_str ex_str) (blkOk_by (N := N_w_kinds) (sc := defScope s_w_kinds) (by decide +kernel)) (fun _ _ _ _ _ => (eg_name (i := 9) sc_w_kinds.nd rfl (.inl rfl))) (fun _ _ _ _ _ => pts_nil) (fun _ _ _ h => yes_of h) (fun _ _ _ _ _ => (ex_bin od_add os_add ex_str (ex_var 9)))))) (blkOk_by (N := N_w_kinds) (sc := defScope s_w_kinds) (by decide +kernel)) (fun _ _ _ _ _ => (eg_name (i := 8) sc_w_kinds.nd rfl (.inl rfl))) (fun _ _ _ _ _ => pts_one (et_cmp (od_notIn (Room_units65 hr)) os_notIn (ex_var 8) (ex_var 3) (by rfl) (fun _ _ _ h => pNotIn_bool h))) (fun _ _ _ h => h) (fun _ _ _ _ _ => (ex_var 8)))) ex_int (fun _ _ => rfl)))))
      es_nil)
      (es_one (es_app2 (ps_expr (pe_bm PySem.F.plainAttrs_list PySem.F.slot_list_append PySem.F.type_list_append mt_append (pv 3) (pa_cons (ex_var 5) pa_nil)))))))))))
    (es_one (es_ret (ex_var 3)))))))

-- _law_names: slots _law_deck_here 0, _law_many 1, _law_names_here 2, _law_k 3, _law_name 4, _law_one 5; cells _law_names_here; own [2]
abbrev s_w_sum : Stmt := topS 13
abbrev N_w_sum : List Str := ["_law_deck_here", "_law_kinds_here", "_law_great", "_law_parts", "_law_kind"]
theorem sc_w_sum : FnScope N_w_sum ["_law_deck_here", "_law_kinds_here", "_law_great"] (defScope s_w_sum) := ⟨rfl, rfl, rfl, by decide +kernel, rfl, by decide +kernel, by decide +kernel⟩
theorem P_w_sum {S : Type} {Z : Zk S} {hd : Nat → Addr → Prop} {k : Nat} (U : Fun K "_law_sum" "_law_sum" s_w_sum f fd) {F_w_draw : Fn S} {k_w_draw : Nat} (C_w_draw : Lc.Dn P w K mg base "_law_draw" ["_law_deck_here", "_law_most"] k_w_draw (spD ⟨K, hd⟩ Z 2 F_w_draw)) (h_w_draw : k_w_draw ≤ k) (m_sorted : mg "sorted" = none) (m_tuple : mg "tuple" = none) :
    FnOk P w K mg base CX0 (k + 1) f fd ["_law_deck_here", "_law_kinds_here", "_law_great"] (spD ⟨K, hd⟩ Z 3 (K_w_sum F_w_draw)) :=
  fn_ok (W := [3]) (F := B_w_sum F_w_draw) U sc_w_sum rfl rfl (by decide) (by decide) fun cdv A outer s H E hr => by
    unfold B_w_sum
    exact (es_cons (es_own (i := 3) sc_w_sum.nd rfl (.inl rfl) (nl_lst ea_nil))
    (es_cons (es_for PassesOwn.never rfl (ei_list (ex_nl (nl_callB cr_sortedS on_sorted (by rfl) m_sorted (by decide +kernel) (ea_cons (ex_var 1) ea_nil)))) (eg_name (i := 4) sc_w_sum.nd rfl (.inl rfl))
    (es_one (es_if (et_cmp (od_eq hr.units) os_eq (ex_call C_w_draw (hr.mono h_w_draw) (by rfl) (ea_cons (ex_var 0) (ea_cons ex_int ea_nil))) ex_int (nomark _) (fun _ _ _ h => pEq_bool h))
      (es_one (es_app2 (ps_expr (pe_bm PySem.F.plainAttrs_list PySem.F.slot_list_append PySem.F.type_list_append mt_append (pv 3) (pa_cons (ex_tup (ea_cons (ex_var 4) (ea_cons (ex_bin od_add os_add ex_int (ex_call C_w_draw (hr.mono h_w_draw) (by rfl) (ea_cons (ex_var 0) (ea_cons (ex_ix ix_seq os_ix (ex_lst (ea_cons ex_int (ea_cons (ex_var 2) ea_nil))) (ex_call C_w_draw (hr.mono h_w_draw) (by rfl) (ea_cons (ex_var 0) (ea_cons ex_int ea_nil))) (fun _ _ => rfl)) ea_nil)))) ea_nil))) pa_nil)))))
      es_nil)))
    (es_one (es_ret (ex_tup (ea_cons (ex_callTy od_tuple os_tuple (by rfl) m_tuple (by decide +kernel) (ea_cons (ex_var 3) ea_nil)) (ea_cons (ex_call C_w_draw (hr.mono h_w_draw) (by rfl) (ea_cons (ex_var 0) (ea_cons (ex_ix ix_seq os_ix (ex_lst (ea_cons ex_int (ea_cons (ex_var 2) ea_nil))) (ex_call C_w_draw (hr.mono h_w_draw) (by rfl) (ea_cons (ex_var 0) (ea_cons ex_int ea_nil))) (fun _ _ => rfl)) ea_nil))) ea_nil)))))))

-- _law_count: slots _law_total 0, _law_counts 1, _law_kind 2, _law_times 3; cells _law_counts
abbrev s_w_count : Stmt := topS 14
abbrev N_w_count : List Str := ["_law_total", "_law_counts", "_law_kind", "_law_times"]
theorem sc_w_count : FnScope N_w_count ["_law_total", "_law_counts"] (defScope s_w_count) := ⟨rfl, rfl, rfl, by decide +kernel, rfl, by decide +kernel, by decide +kernel⟩
theorem P_w_count {S : Type} {Z : Zk S} {hd : Nat → Addr → Prop} {k : Nat} (U : Fun K "_law_count" "_law_count" s_w_count f fd) (m_sum : mg "sum" = none) :
    FnOk P w K mg base CX0 (k + 1) f fd ["_law_total", "_law_counts"] (spD ⟨K, hd⟩ Z 2 (K_w_count )) :=
  fn_ok (W := []) (F := B_w_count ) U sc_w_count rfl rfl (by decide) (by decide) fun cdv A outer s H E hr => by
    unfold B_w_count
    exact (es_one (es_ret (ex_bin od_add os_add (ex_ix ix_seq os_ix (ex_var 0) ex_int (fun _ _ => rfl)) (ex_callB (cr_sum rfl) os_sum (by rfl) m_sum (by decide +kernel) (ea_cons (ex_nl (nl_lc (own := [("_law_kind", 2), ("_law_times", 3)]) (tt := tYes) rfl sc_w_count.nd (ei_tup (ex_ix ix_seq os_ix (ex_var 0) ex_int (fun _ _ => rfl))) (blkOk_by (N := N_w_count) (sc := defScope s_w_count) (by decide +kernel)) (fun _ _ _ _ _ => (eg_tup rfl (egs_cons (eg_name (i := 2) sc_w_count.nd rfl (.inl rfl)) (egs_cons (eg_name (i := 3) sc_w_count.nd rfl (.inl rfl)) egs_nil)) (fun _ _ _ h => glC (fun _ _ _ h => glC (fun _ _ _ h => gl0 h) h) h))) (fun _ _ _ _ _ => pts_nil) (fun _ _ _ h => yes_of h) (fun _ _ _ _ _ => (ex_bin op_mulW os_mul (ex_var 3) (ex_dgx (Room_un1 hr) (ds_ex (ex_var 1)) (ex_var 2) ex_int ⟨rfl, rfl, rfl, rfl⟩))))) ea_nil)))))

-- _law_more: slots _law_form 0, _law_counts 1
abbrev s_w_more : Stmt := topS 15
abbrev N_w_more : List Str := ["_law_form", "_law_counts"]
theorem sc_w_more : FnScope N_w_more ["_law_form", "_law_counts"] (defScope s_w_more) := ⟨rfl, rfl, rfl, by decide +kernel, rfl, by decide +kernel, by decide +kernel⟩
theorem P_w_more {S : Type} {Z : Zk S} {hd : Nat → Addr → Prop} {k : Nat} (U : Fun K "_law_more" "_law_more" s_w_more f fd) {F_w_count : Fn S} {k_w_count : Nat} (C_w_count : Lc.Dn P w K mg base "_law_count" ["_law_total", "_law_counts"] k_w_count (spD ⟨K, hd⟩ Z 2 F_w_count)) (h_w_count : k_w_count ≤ k) :
    FnOk P w K mg base CX0 (k + 1) f fd ["_law_form", "_law_counts"] (spD ⟨K, hd⟩ Z 2 (K_w_more F_w_count)) :=
  fn_ok (W := []) (F := B_w_more F_w_count) U sc_w_more rfl rfl (by decide) (by decide) fun cdv A outer s H E hr => by
    unfold B_w_more
    exact (es_one (es_ret (ex_bin op_sub os_sub (ex_call C_w_count (hr.mono h_w_count) (by rfl) (ea_cons (ex_ix ix_seq os_ix (ex_var 0) ex_int (fun _ _ => rfl)) (ea_cons (ex_var 1) ea_nil))) (ex_call C_w_count (hr.mono h_w_count) (by rfl) (ea_cons (ex_ix ix_seq os_ix (ex_var 0) ex_int (fun _ _ => rfl)) (ea_cons (ex_var 1) ea_nil))))))

-- _law_over: slots _law_form 0, _law_forms 1, _law_times 2, _law_counts 3, _law_found 4, _law_k 5
abbrev s_w_over : Stmt := topS 16
abbrev N_w_over : List Str := ["_law_form", "_law_forms", "_law_times", "_law_counts", "_law_found", "_law_k"]
theorem sc_w_over : FnScope N_w_over ["_law_form", "_law_forms", "_law_times", "_law_counts"] (defScope s_w_over) := ⟨rfl, rfl, rfl, by decide +kernel, rfl, by decide +kernel, by decide +kernel⟩
theorem P_w_over {S : Type} {Z : Zk S} {hd : Nat → Addr → Prop} {k : Nat} (U : Fun K "_law_over" "_law_over" s_w_over f fd) {F_w_more : Fn S} {k_w_more : Nat} (C_w_more : Lc.Dn P w K mg base "_law_more" ["_law_form", "_law_counts"] k_w_more (spD ⟨K, hd⟩ Z 2 F_w_more)) (h_w_more : k_w_more ≤ k) (m_range : mg "range" = none) (m_len : mg "len" = none) :
    FnOk P w K mg base CX0 (k + 1) f fd ["_law_form", "_law_forms", "_law_times", "_law_counts"] (spD ⟨K, hd⟩ Z 4 (K_w_over F_w_more)) :=
  fn_ok (W := []) (F := B_w_over F_w_more) U sc_w_over rfl rfl (by decide) (by decide) fun cdv A outer s H E hr => by
    unfold B_w_over
    exact (es_cons (es_set (i := 4) sc_w_over.nd rfl (.inl rfl) (ex_call C_w_more (hr.mono h_w_more) (by rfl) (ea_cons (ex_var 0) (ea_cons (ex_var 3) ea_nil))))
    (es_cons (es_for PassesOwn.never rfl (ei_range1 (pi_range1 (by rfl) m_range (ea_cons (ex_callB od_len os_len (by rfl) m_len (by decide +kernel) (ea_cons (ex_var 1) ea_nil)) ea_nil))) (eg_name (i := 5) sc_w_over.nd rfl (.inl rfl))
    (es_one (es_set (i := 4) sc_w_over.nd rfl (.inl rfl) (ex_bin op_sub os_sub (ex_var 4) (ex_bin op_mulW os_mul (ex_ix ix_seq os_ix (ex_var 2) (ex_var 5) (fun _ _ => rfl)) (ex_call C_w_more (hr.mono h_w_more) (by rfl) (ea_cons (ex_ix ix_seq os_ix (ex_var 1) (ex_var 5) (fun _ _ => rfl)) (ea_cons (ex_var 3) ea_nil))))))))
    (es_one (es_ret (ex_var 4)))))

-- _law_due: slots _law_form 0, _law_forms 1, _law_times 2, _law_kinds_here 3, _law_none 4, _law_one 5, _law_kind 6; cells _law_form, _law_forms, _law_none, _law_times
abbrev s_w_due : Stmt := topS 17
abbrev N_w_due : List Str := ["_law_form", "_law_forms", "_law_times", "_law_kinds_here", "_law_none", "_law_one", "_law_kind"]
theorem sc_w_due : FnScope N_w_due ["_law_form", "_law_forms", "_law_times", "_law_kinds_here"] (defScope s_w_due) := ⟨rfl, rfl, rfl, by decide +kernel, rfl, by decide +kernel, by decide +kernel⟩
theorem P_w_due {S : Type} {Z : Zk S} {hd : Nat → Addr → Prop} {k : Nat} (U : Fun K "_law_due" "_law_due" s_w_due f fd) {F_w_over : Fn S} {k_w_over : Nat} (C_w_over : Lc.Dn P w K mg base "_law_over" ["_law_form", "_law_forms", "_law_times", "_law_counts"] k_w_over (spD ⟨K, hd⟩ Z 4 F_w_over)) (h_w_over : k_w_over ≤ k) :
    FnOk P w K mg base CX0 (k + 1) f fd ["_law_form", "_law_forms", "_law_times", "_law_kinds_here"] (spD ⟨K, hd⟩ Z 4 (K_w_due F_w_over)) :=
  fn_ok (W := []) (F := B_w_due F_w_over) U sc_w_due rfl rfl (by decide) (by decide) fun cdv A outer s H E hr => by
    unfold B_w_due
    exact (es_cons (es_if (et_cmp (od_ne hr.units) os_ne (ex_nl (nl_lc (own := [("_law_one", 5)]) rfl sc_w_due.nd (ei_tup (ex_bin od_add os_add (ex_tup (ea_cons (ex_var 0) ea_nil)) (ex_var 1))) (blkOk_by (N := N_w_due) (sc := defScope s_w_due) (by decide +kernel)) (fun _ _ _ _ _ => (eg_name (i := 5) sc_w_due.nd rfl (.inl rfl))) (fun _ _ _ _ _ => pts_one (et_cmp (od_ne hr.units) os_ne (ex_ix ix_seq os_ix (ex_var 5) ex_int (fun _ _ => rfl)) ex_str (nomark _) (fun _ _ _ h => pNe_bool h))) (fun _ _ _ h => h) (fun _ _ _ _ _ => (ex_var 5)))) (ex_lst ea_nil) (nomark _) (fun _ _ _ h => pNe_bool h))
    (es_one (es_ret ex_bl))
    es_nil)
    (es_cons (es_set (i := 4) sc_w_due.nd rfl (.inr rfl) (ex_call C_w_over (hr.mono h_w_over) (by rfl) (ea_cons (ex_var 0) (ea_cons (ex_var 1) (ea_cons (ex_var 2) (ea_cons (ex_nd nd_new) ea_nil))))))
    (es_cons (es_if (et_cmp (od_lt hr.units) os_lt (ex_var 4) ex_int (nomark _) (fun _ _ _ h => pLt_bool h))
    (es_one (es_ret ex_bl))
    es_nil)
    (es_one (es_ret (ex_cmp (od_eq hr.units) os_eq (ex_nl (nl_lc (own := [("_law_kind", 6)]) rfl sc_w_due.nd (ei_list (ex_var 3)) (blkOk_by (N := N_w_due) (sc := defScope s_w_due) (by decide +kernel)) (fun _ _ _ _ _ => (eg_name (i := 6) sc_w_due.nd rfl (.inl rfl))) (fun _ _ _ _ _ => pts_one (et_cmp (od_lt hr.units) os_lt (ex_call C_w_over (hr.mono h_w_over) (by rfl) (ea_cons (ex_var 0) (ea_cons (ex_var 1) (ea_cons (ex_var 2) (ea_cons (ex_nd (nd_disp (eps_cons (ex_var 6) ex_int eps_nil) rfl rfl (by simp) (by decide))) ea_nil))))) (ex_var 4) (nomark _) (fun _ _ _ h => pLt_bool h))) (fun _ _ _ h => h) (fun _ _ _ _ _ => (ex_var 6)))) (ex_lst ea_nil) (nomark _)))))))

-- _law_side: slots _law_parts 0, _law_number 1, _law_kind 2; cells _law_parts
abbrev s_w_side : Stmt := topS 18
abbrev N_w_side : List Str := ["_law_parts", "_law_number", "_law_kind"]
theorem sc_w_side : FnScope N_w_side ["_law_parts", "_law_number"] (defScope s_w_side) := ⟨rfl, rfl, rfl, by decide +kernel, rfl, by decide +kernel, by decide +kernel⟩
theorem P_w_side {S : Type} {Z : Zk S} {hd : Nat → Addr → Prop} {k : Nat} (U : Fun K "_law_side" "_law_side" s_w_side f fd) (m_tuple : mg "tuple" = none) (m_sorted : mg "sorted" = none) :
    FnOk P w K mg base CX0 (k + 1) f fd ["_law_parts", "_law_number"] (spD ⟨K, hd⟩ Z 2 (K_w_side )) :=
  fn_ok (W := []) (F := B_w_side ) U sc_w_side rfl rfl (by decide) (by decide) fun cdv A outer s H E hr => by
    unfold B_w_side
    exact (es_one (es_ret (ex_tup (ea_cons (ex_callTy od_tuple os_tuple (by rfl) m_tuple (by decide +kernel) (ea_cons (ex_nl (nl_lc (own := [("_law_kind", 2)]) rfl sc_w_side.nd (ei_list (ex_nl (nl_sortK rfl (by rfl) m_sorted (ds_ex (ex_var 0))))) (blkOk_by (N := N_w_side) (sc := defScope s_w_side) (by decide +kernel)) (fun _ _ _ _ _ => (eg_name (i := 2) sc_w_side.nd rfl (.inl rfl))) (fun _ _ _ _ _ => pts_one (et_cmp op_gt os_gt (ex_dx (Room_un1 hr) (ds_ex (ex_var 0)) (ex_var 2) (fun _ _ => rfl)) ex_int (nomark _) (fun _ _ _ h => pIB_bool h))) (fun _ _ _ h => h) (fun _ _ _ _ _ => (ex_tup (ea_cons (ex_var 2) (ea_cons (ex_dx (Room_un1 hr) (ds_ex (ex_var 0)) (ex_var 2) (fun _ _ => rfl)) ea_nil)))))) ea_nil)) (ea_cons (ex_var 1) ea_nil)))))

-- _law_built: slots _law_deck_here 0, _law_kinds_here 1, _law_forms 2, _law_times 3, _law_none 4, _law_ahead 5, _law_behind 6, _law_kind 7, _law_much 8, _law_more_here 9, _law_first 10, _law_k 11; cells _law_forms, _law_kind, _law_times; own [5, 6]
abbrev s_w_built : Stmt := topS 19
abbrev N_w_built : List Str := ["_law_deck_here", "_law_kinds_here", "_law_forms", "_law_times", "_law_none", "_law_ahead", "_law_behind", "_law_kind", "_law_much", "_law_more_here", "_law_first", "_law_k"]
theorem sc_w_built : FnScope N_w_built ["_law_deck_here", "_law_kinds_here", "_law_forms", "_law_times"] (defScope s_w_built) := ⟨rfl, rfl, rfl, by decide +kernel, rfl, by decide +kernel, by decide +kernel⟩
theorem P_w_built {S : Type} {Z : Zk S} {hd : Nat → Addr → Prop} {k : Nat} (U : Fun K "_law_built" "_law_built" s_w_built f fd) {F_w_more : Fn S} {k_w_more : Nat} (C_w_more : Lc.Dn P w K mg base "_law_more" ["_law_form", "_law_counts"] k_w_more (spD ⟨K, hd⟩ Z 2 F_w_more)) (h_w_more : k_w_more ≤ k) {F_w_draw : Fn S} {k_w_draw : Nat} (C_w_draw : Lc.Dn P w K mg base "_law_draw" ["_law_deck_here", "_law_most"] k_w_draw (spD ⟨K, hd⟩ Z 2 F_w_draw)) (h_w_draw : k_w_draw ≤ k) {F_w_side : Fn S} {k_w_side : Nat} (C_w_side : Lc.Dn P w K mg base "_law_side" ["_law_parts", "_law_number"] k_w_side (spD ⟨K, hd⟩ Z 2 F_w_side)) (h_w_side : k_w_side ≤ k) (m_sum : mg "sum" = none) (m_range : mg "range" = none) (m_len : mg "len" = none) (m_max : mg "max" = none) :
    FnOk P w K mg base CX0 (k + 1) f fd ["_law_deck_here", "_law_kinds_here", "_law_forms", "_law_times"] (spD ⟨K, hd⟩ Z 4 (K_w_built F_w_more F_w_draw F_w_side)) :=
  fn_ok (W := [5, 6]) (F := B_w_built F_w_more F_w_draw F_w_side) U sc_w_built rfl rfl (by decide) (by decide) fun cdv A outer s H E hr => by
    unfold B_w_built
    exact (es_cons (es_set (i := 4) sc_w_built.nd rfl (.inl rfl) (ex_callB (cr_sum rfl) os_sum (by rfl) m_sum (by decide +kernel) (ea_cons (ex_nl (nl_lc (own := [("_law_k", 11)]) (tt := tYes) rfl sc_w_built.nd (ei_range1 (pi_range1 (by rfl) m_range (ea_cons (ex_callB od_len os_len (by rfl) m_len (by decide +kernel) (ea_cons (ex_var 2) ea_nil)) ea_nil))) (blkOk_by (N := N_w_built) (sc := defScope s_w_built) (by decide +kernel)) (fun _ _ _ _ _ => (eg_name (i := 11) sc_w_built.nd rfl (.inl rfl))) (fun _ _ _ _ _ => pts_nil) (fun _ _ _ h => yes_of h) (fun _ _ _ _ _ => (ex_bin op_mulW os_mul (ex_ix ix_seq os_ix (ex_var 3) (ex_var 11) (fun _ _ => rfl)) (ex_call C_w_more (hr.mono h_w_more) (by rfl) (ea_cons (ex_ix ix_seq os_ix (ex_var 2) (ex_var 11) (fun _ _ => rfl)) (ea_cons (ex_nd nd_new) ea_nil))))))) ea_nil)))
    (es_cons (es_ownD (i := 5) sc_w_built.nd rfl (.inl rfl) nd_new)
    (es_cons (es_ownD (i := 6) sc_w_built.nd rfl (.inl rfl) nd_new)
    (es_cons (es_for PassesOwn.never rfl (ei_list (ex_var 1)) (eg_name (i := 7) sc_w_built.nd rfl (.inr rfl))
    (es_cons (es_set (i := 8) sc_w_built.nd rfl (.inl rfl) (ex_bin op_sub os_sub (ex_callB (cr_sum rfl) os_sum (by rfl) m_sum (by decide +kernel) (ea_cons (ex_nl (nl_lc (own := [("_law_k", 11)]) (tt := tYes) rfl sc_w_built.nd (ei_range1 (pi_range1 (by rfl) m_range (ea_cons (ex_callB od_len os_len (by rfl) m_len (by decide +kernel) (ea_cons (ex_var 2) ea_nil)) ea_nil))) (blkOk_by (N := N_w_built) (sc := defScope s_w_built) (by decide +kernel)) (fun _ _ _ _ _ => (eg_name (i := 11) sc_w_built.nd rfl (.inl rfl))) (fun _ _ _ _ _ => pts_nil) (fun _ _ _ h => yes_of h) (fun _ _ _ _ _ => (ex_bin op_mulW os_mul (ex_ix ix_seq os_ix (ex_var 3) (ex_var 11) (fun _ _ => rfl)) (ex_call C_w_more (hr.mono h_w_more) (by rfl) (ea_cons (ex_ix ix_seq os_ix (ex_var 2) (ex_var 11) (fun _ _ => rfl)) (ea_cons (ex_nd (nd_disp (eps_cons (ex_var 7) ex_int eps_nil) rfl rfl (by simp) (by decide))) ea_nil))))))) ea_nil)) (ex_var 4)))
      (es_cons (es_set (i := 9) sc_w_built.nd rfl (.inl rfl) (ex_ix ix_seq os_ix (ex_lst (ea_cons ex_int (ea_cons ex_int (ea_cons ex_int ea_nil)))) (ex_call C_w_draw (hr.mono h_w_draw) (by rfl) (ea_cons (ex_var 0) (ea_cons ex_int ea_nil))) (fun _ _ => rfl)))
      (es_cons (es_putO (Room_un1 hr) (pv 5) (ex_var 7) (ex_bin od_add os_add (ex_callB (call_max2 rfl) os_max2 (by rfl) m_max (by decide +kernel) (ea_cons ex_int (ea_cons (ex_var 8) ea_nil))) (ex_var 9)))
      (es_cons (es_putO (Room_un1 hr) (pv 6) (ex_var 7) (ex_bin od_add os_add (ex_callB (call_max2 rfl) os_max2 (by rfl) m_max (by decide +kernel) (ea_cons ex_int (ea_cons (ex_bin op_sub os_sub ex_int (ex_var 8)) ea_nil))) (ex_var 9)))
      (es_one (es_if (et_cmp (od_eq hr.units) os_eq (ex_call C_w_draw (hr.mono h_w_draw) (by rfl) (ea_cons (ex_var 0) (ea_cons ex_int ea_nil))) ex_int (nomark _) (fun _ _ _ h => pEq_bool h))
      (es_one (es_putO (Room_un1 hr) (pv 5) (ex_var 7) (ex_bin od_add os_add (ex_bin od_add os_add (ex_dx (Room_un1 hr) (ds_own (pv 5)) (ex_var 7) (fun _ _ => rfl)) ex_int) (ex_call C_w_draw (hr.mono h_w_draw) (by rfl) (ea_cons (ex_var 0) (ea_cons ex_int ea_nil))))))
      es_nil)))))))
    (es_cons (es_set (i := 9) sc_w_built.nd rfl (.inl rfl) (ex_ix ix_seq os_ix (ex_lst (ea_cons ex_int (ea_cons ex_int (ea_cons ex_int ea_nil)))) (ex_call C_w_draw (hr.mono h_w_draw) (by rfl) (ea_cons (ex_var 0) (ea_cons ex_int ea_nil))) (fun _ _ => rfl)))
    (es_cons (es_set (i := 10) sc_w_built.nd rfl (.inl rfl) (ex_bin od_add os_add (ex_bin od_add os_add (ex_callB (call_max2 rfl) os_max2 (by rfl) m_max (by decide +kernel) (ea_cons ex_int (ea_cons (ex_var 4) ea_nil))) (ex_var 9)) (ex_ix ix_seq os_ix (ex_lst (ea_cons ex_int (ea_cons ex_int (ea_cons ex_int ea_nil)))) (ex_call C_w_draw (hr.mono h_w_draw) (by rfl) (ea_cons (ex_var 0) (ea_cons ex_int ea_nil))) (fun _ _ => rfl))))
    (es_one (es_ret (ex_tup (ea_cons ex_str (ea_cons (ex_call C_w_side (hr.mono h_w_side) (by rfl) (ea_cons (ex_var 5) (ea_cons (ex_var 10) ea_nil))) (ea_cons (ex_call C_w_side (hr.mono h_w_side) (by rfl) (ea_cons (ex_var 6) (ea_cons (ex_bin od_add os_add (ex_callB (call_max2 rfl) os_max2 (by rfl) m_max (by decide +kernel) (ea_cons ex_int (ea_cons (ex_bin op_sub os_sub ex_int (ex_var 4)) ea_nil))) (ex_var 9)) ea_nil))) ea_nil))))))))))))

-- _law_bent_sum: slots _law_deck_here 0, _law_total 1, _law_kinds_here 2, _law_parts 3, _law_step 4, _law_at 5; own [3]
abbrev s_w_bent_sum : Stmt := topS 20
abbrev N_w_bent_sum : List Str := ["_law_deck_here", "_law_total", "_law_kinds_here", "_law_parts", "_law_step", "_law_at"]
theorem sc_w_bent_sum : FnScope N_w_bent_sum ["_law_deck_here", "_law_total", "_law_kinds_here"] (defScope s_w_bent_sum) := ⟨rfl, rfl, rfl, by decide +kernel, rfl, by decide +kernel, by decide +kernel⟩
theorem P_w_bent_sum {S : Type} {Z : Zk S} {hd : Nat → Addr → Prop} {k : Nat} (U : Fun K "_law_bent_sum" "_law_bent_sum" s_w_bent_sum f fd) {F_w_draw : Fn S} {k_w_draw : Nat} (C_w_draw : Lc.Dn P w K mg base "_law_draw" ["_law_deck_here", "_law_most"] k_w_draw (spD ⟨K, hd⟩ Z 2 F_w_draw)) (h_w_draw : k_w_draw ≤ k) {F_w_side : Fn S} {k_w_side : Nat} (C_w_side : Lc.Dn P w K mg base "_law_side" ["_law_parts", "_law_number"] k_w_side (spD ⟨K, hd⟩ Z 2 F_w_side)) (h_w_side : k_w_side ≤ k) (m_dict : mg "dict" = none) (m_len : mg "len" = none) (m_max : mg "max" = none) :
    FnOk P w K mg base CX0 (k + 1) f fd ["_law_deck_here", "_law_total", "_law_kinds_here"] (spD ⟨K, hd⟩ Z 3 (K_w_bent_sum F_w_draw F_w_side)) :=
  fn_ok (W := [3]) (F := B_w_bent_sum F_w_draw F_w_side) U sc_w_bent_sum rfl rfl (by decide) (by decide) fun cdv A outer s H E hr => by
    unfold B_w_bent_sum
    exact (es_cons (es_ownD (i := 3) sc_w_bent_sum.nd rfl (.inl rfl) (nd_pairsT rfl (by rfl) m_dict (ex_ix ix_seq os_ix (ex_var 1) ex_int (fun _ _ => rfl))))
    (es_cons (es_set (i := 4) sc_w_bent_sum.nd rfl (.inl rfl) (ex_ix ix_seq os_ix (ex_lst (ea_cons ex_int (ea_cons (ex_un un_neg us_neg ex_int) ea_nil))) (ex_call C_w_draw (hr.mono h_w_draw) (by rfl) (ea_cons (ex_var 0) (ea_cons ex_int ea_nil))) (fun _ _ => rfl)))
    (es_cons (es_set (i := 5) sc_w_bent_sum.nd rfl (.inl rfl) (ex_call C_w_draw (hr.mono h_w_draw) (by rfl) (ea_cons (ex_var 0) (ea_cons (ex_bin od_add os_add (ex_callB od_len os_len (by rfl) m_len (by decide +kernel) (ea_cons (ex_var 2) ea_nil)) ex_int) ea_nil))))
    (es_cons (es_if (et_cmp (od_eq hr.units) os_eq (ex_var 5) (ex_callB od_len os_len (by rfl) m_len (by decide +kernel) (ea_cons (ex_var 2) ea_nil)) (nomark _) (fun _ _ _ h => pEq_bool h))
    (es_one (es_ret (ex_tup (ea_cons (ex_ix ix_seq os_ix (ex_var 1) ex_int (fun _ _ => rfl)) (ea_cons (ex_callB (call_max2 rfl) os_max2 (by rfl) m_max (by decide +kernel) (ea_cons ex_int (ea_cons (ex_bin od_add os_add (ex_ix ix_seq os_ix (ex_var 1) ex_int (fun _ _ => rfl)) (ex_var 4)) ea_nil))) ea_nil)))))
    es_nil)
    (es_cons (es_putO (Room_un1 hr) (pv 3) (ex_ix ix_seq os_ix (ex_var 2) (ex_var 5) (fun _ _ => rfl)) (ex_callB (call_max2 rfl) os_max2 (by rfl) m_max (by decide +kernel) (ea_cons ex_int (ea_cons (ex_bin od_add os_add (ex_dgx (Room_un1 hr) (ds_own (pv 3)) (ex_ix ix_seq os_ix (ex_var 2) (ex_var 5) (fun _ _ => rfl)) ex_int ⟨rfl, rfl, rfl, rfl⟩) (ex_var 4)) ea_nil))))
    (es_one (es_ret (ex_call C_w_side (hr.mono h_w_side) (by rfl) (ea_cons (ex_var 3) (ea_cons (ex_ix ix_seq os_ix (ex_var 1) ex_int (fun _ _ => rfl)) ea_nil))))))))))

-- _law_bent: slots _law_deck_here 0, _law_form 1, _law_kinds_here 2, _law_way 3
abbrev s_w_bent : Stmt := topS 21
abbrev N_w_bent : List Str := ["_law_deck_here", "_law_form", "_law_kinds_here", "_law_way"]
theorem sc_w_bent : FnScope N_w_bent ["_law_deck_here", "_law_form", "_law_kinds_here"] (defScope s_w_bent) := ⟨rfl, rfl, rfl, by decide +kernel, rfl, by decide +kernel, by decide +kernel⟩
theorem P_w_bent {S : Type} {Z : Zk S} {hd : Nat → Addr → Prop} {k : Nat} (U : Fun K "_law_bent" "_law_bent" s_w_bent f fd) {F_w_draw : Fn S} {k_w_draw : Nat} (C_w_draw : Lc.Dn P w K mg base "_law_draw" ["_law_deck_here", "_law_most"] k_w_draw (spD ⟨K, hd⟩ Z 2 F_w_draw)) (h_w_draw : k_w_draw ≤ k) {F_w_bent_sum : Fn S} {k_w_bent_sum : Nat} (C_w_bent_sum : Lc.Dn P w K mg base "_law_bent_sum" ["_law_deck_here", "_law_total", "_law_kinds_here"] k_w_bent_sum (spD ⟨K, hd⟩ Z 3 F_w_bent_sum)) (h_w_bent_sum : k_w_bent_sum ≤ k) :
    FnOk P w K mg base CX0 (k + 1) f fd ["_law_deck_here", "_law_form", "_law_kinds_here"] (spD ⟨K, hd⟩ Z 3 (K_w_bent F_w_draw F_w_bent_sum)) :=
  fn_ok (W := []) (F := B_w_bent F_w_draw F_w_bent_sum) U sc_w_bent rfl rfl (by decide) (by decide) fun cdv A outer s H E hr => by
    unfold B_w_bent
    exact (es_cons (es_set (i := 3) sc_w_bent.nd rfl (.inl rfl) (ex_call C_w_draw (hr.mono h_w_draw) (by rfl) (ea_cons (ex_var 0) (ea_cons ex_int ea_nil))))
    (es_cons (es_if (et_cmp (od_lt hr.units) os_lt (ex_var 3) ex_int (nomark _) (fun _ _ _ h => pLt_bool h))
    (es_one (es_ret (ex_tup (ea_cons ex_str (ea_cons (ex_call C_w_bent_sum (hr.mono h_w_bent_sum) (by rfl) (ea_cons (ex_var 0) (ea_cons (ex_ix ix_seq os_ix (ex_var 1) ex_int (fun _ _ => rfl)) (ea_cons (ex_var 2) ea_nil)))) (ea_cons (ex_ix ix_seq os_ix (ex_var 1) ex_int (fun _ _ => rfl)) ea_nil))))))
    es_nil)
    (es_cons (es_if (et_cmp (od_lt hr.units) os_lt (ex_var 3) ex_int (nomark _) (fun _ _ _ h => pLt_bool h))
    (es_one (es_ret (ex_tup (ea_cons ex_str (ea_cons (ex_ix ix_seq os_ix (ex_var 1) ex_int (fun _ _ => rfl)) (ea_cons (ex_call C_w_bent_sum (hr.mono h_w_bent_sum) (by rfl) (ea_cons (ex_var 0) (ea_cons (ex_ix ix_seq os_ix (ex_var 1) ex_int (fun _ _ => rfl)) (ea_cons (ex_var 2) ea_nil)))) ea_nil))))))
    es_nil)
    (es_one (es_ret (ex_tup (ea_cons ex_str (ea_cons (ex_ix ix_seq os_ix (ex_var 1) ex_int (fun _ _ => rfl)) (ea_cons (ex_ix ix_seq os_ix (ex_var 1) ex_int (fun _ _ => rfl)) ea_nil)))))))))

-- _law_told: slots _law_form 0, _law_forms 1, _law_times 2, _law_due_here 3, _law_found 4
abbrev s_w_told : Stmt := topS 22
abbrev N_w_told : List Str := ["_law_form", "_law_forms", "_law_times", "_law_due_here", "_law_found"]
theorem sc_w_told : FnScope N_w_told ["_law_form", "_law_forms", "_law_times", "_law_due_here"] (defScope s_w_told) := ⟨rfl, rfl, rfl, by decide +kernel, rfl, by decide +kernel, by decide +kernel⟩
theorem P_w_told {S : Type} {Z : Zk S} {hd : Nat → Addr → Prop} {k : Nat} (U : Fun K "_law_told" "_law_told" s_w_told f fd) {F_summed : Fn S} {k_summed : Nat} (C_summed : Lc.Dn P w K mg base "summed" ["form", "forms", "times"] k_summed (spD ⟨K, hd⟩ Z 3 F_summed)) (h_summed : k_summed ≤ k) (m_isinstance : mg "isinstance" = none) (m_bool : mg "bool" = none) :
    FnOk P w K mg base CX0 (k + 1) f fd ["_law_form", "_law_forms", "_law_times", "_law_due_here"] (spD ⟨K, hd⟩ Z 4 (K_w_told F_summed)) :=
  fn_ok (W := []) (F := B_w_told F_summed) U sc_w_told rfl rfl (by decide) (by decide) fun cdv A outer s H E hr => by
    unfold B_w_told
    exact (es_cons (es_set (i := 4) sc_w_told.nd rfl (.inl rfl) (ex_call C_summed (hr.mono h_summed) (by rfl) (ea_cons (ex_var 0) (ea_cons (ex_var 1) (ea_cons (ex_var 2) ea_nil)))))
    (es_one (es_ret (ex_and (ex_isi (by rfl) m_isinstance (ex_var 4) (pe_bltn (v := .ty "bool") (by rfl) m_bool (by decide +kernel) rfl)) (ex_one (ex_cmp (od_eq hr.units) os_eq (ex_var 4) (ex_var 3) (nomark _)))))))

-- law: slots _law_script 0, _law_deck_here 1, _law_turn 2, _law_far 3, _law_kinds_here 4, _law_forms 5, _law_times 6, _law_great 7, _law_often 8, _law_k 9, _law_one 10, _law_some 11, _law_form 12, _law_less 13, _law_odd 14
abbrev s_law : Stmt := topS 23
abbrev N_law : List Str := ["_law_script", "_law_deck_here", "_law_turn", "_law_far", "_law_kinds_here", "_law_forms", "_law_times", "_law_great", "_law_often", "_law_k", "_law_one", "_law_some", "_law_form", "_law_less", "_law_odd"]
theorem sc_law : FnScope N_law ["_law_script"] (defScope s_law) := ⟨rfl, rfl, rfl, by decide +kernel, rfl, by decide +kernel, by decide +kernel⟩
def B_law {S : Type} (F_w_draw : Fn S) (F_w_kinds : Fn S) (F_w_sum : Fn S) (F_w_built : Fn S) (F_w_due : Fn S) (F_w_told : Fn S) (F_w_bent : Fn S) : Sv S :=
    (sSeq (sFor (iOfA pR1 (aCons (cK (.int 4)) aNil)) (gNm 2)
    (sSeq (sSet 3 (cB pEq (cCall 2 F_w_draw (aCons (cVar 1) (aCons (cK (.int 8)) aNil))) (cK (.int 5))))
      (sSeq (sSet 4 (cCall 2 F_w_kinds (aCons (cVar 1) (aCons (cB pIx (cN pLst (aCons (cK (.int 4)) (aCons (cK (.int 6)) (aCons (cK (.int 4)) (aCons (cK (.int 4)) aNil))))) (cCall 2 F_w_draw (aCons (cVar 1) (aCons (cK (.int 4)) aNil)))) aNil))))
      (sSeq (sSet 5 (cN pTup aNil))
      (sSeq (sSet 6 (cN pTup aNil))
      (sSeq (sAsg (cB pIx (cN pLst (aCons (cN pTup (aCons (cK (.int 1000)) (aCons (cB pPow (cK (.int 10)) (cK (.int 4))) aNil))) (aCons (cN pTup (aCons (cB pPow (cK (.int 10)) (cK (.int 8))) (aCons (cK (.int 2)) aNil))) aNil))) (cCall 2 F_w_draw (aCons (cVar 1) (aCons (cK (.int 2)) aNil)))) (gTp (gC (gNm 7) (gC (gNm 8) gN0))))
      (sSeq (sFor (iOfA pR1 (aCons (cB pIx (cN pLst (aCons (cCall 2 F_w_draw (aCons (cVar 1) (aCons (cK (.int 7)) aNil))) (aCons (cB pAdd (cK (.int 12)) (cCall 2 F_w_draw (aCons (cVar 1) (aCons (cK (.int 9)) aNil)))) aNil))) (cN pInt (aCons (cVar 3) aNil))) aNil)) (gNm 9)
      (sSeq (sSet 10 (cCall 3 F_w_sum (aCons (cVar 1) (aCons (cVar 4) (aCons (cVar 7) aNil)))))
        (sSeq (sSet 5 (cB pAdd (cVar 5) (cN pTup (aCons (cN pTup (aCons (cK (.str "least")) (aCons (cVar 10) (aCons (cCall 3 F_w_sum (aCons (cVar 1) (aCons (cVar 4) (aCons (cVar 7) aNil)))) aNil)))) aNil))))
        (sSeq (sSet 11 (cN pLst (aCons (cK (.int 0)) (aCons (cK (.int 1)) (aCons (cCall 2 F_w_draw (aCons (cVar 1) (aCons (cN pMin2 (aCons (cK (.int 5)) (aCons (cVar 8) aNil))) aNil))) (aCons (cCall 2 F_w_draw (aCons (cVar 1) (aCons (cVar 8) aNil))) aNil))))))
        (sSet 6 (cB pAdd (cVar 6) (cN pTup (aCons (cB pIx (cVar 11) (cCall 2 F_w_draw (aCons (cVar 1) (aCons (cK (.int 4)) aNil)))) aNil))))))))
      (sSeq (sSet 12 (cCall 4 F_w_built (aCons (cVar 1) (aCons (cVar 4) (aCons (cVar 5) (aCons (cVar 6) aNil))))))
      (sSeq (sIf (qOr (qNot (qT (cCall 4 F_w_told (aCons (cVar 12) (aCons (cVar 5) (aCons (cVar 6) (aCons (cK (.bool true)) aNil))))))) (qNot (qT (cCall 4 F_w_due (aCons (cVar 12) (aCons (cVar 5) (aCons (cVar 6) (aCons (cVar 4) aNil))))))))
      (sRet (cK (.bool false)))
      sNx)
      (sSeq (sFor (iOfA pR1 (aCons (cK (.int 3)) aNil)) (gNm 9)
      (sSeq (sSet 12 (cCall 3 F_w_bent (aCons (cVar 1) (aCons (cVar 12) (aCons (cVar 4) aNil)))))
        (sIf (qNot (qT (cCall 4 F_w_told (aCons (cVar 12) (aCons (cVar 5) (aCons (cVar 6) (aCons (cCall 4 F_w_due (aCons (cVar 12) (aCons (cVar 5) (aCons (cVar 6) (aCons (cVar 4) aNil))))) aNil)))))))
        (sRet (cK (.bool false)))
        sNx)))
      (sSeq (sSet 13 (cN pTuple (aCons (cNl (lcF (iOf asT (cVar 6)) (gNm 10) qYes (cN pMax2 (aCons (cK (.int 0)) (aCons (cB pSub (cVar 10) (cK (.int 1))) aNil))) [10])) aNil)))
      (sSeq (sIf (qNot (qT (cCall 4 F_w_told (aCons (cVar 12) (aCons (cVar 5) (aCons (cVar 13) (aCons (cCall 4 F_w_due (aCons (cVar 12) (aCons (cVar 5) (aCons (cVar 13) (aCons (cVar 4) aNil))))) aNil)))))))
      (sRet (cK (.bool false)))
      sNx)
      (sSeq (sSet 14 (cB pIx (cN pLst (aCons (cN pTup (aCons (cK (.str "false")) aNil)) (aCons (cN pTup (aCons (cK (.str "not")) (aCons (cVar 12) aNil))) aNil))) (cCall 2 F_w_draw (aCons (cVar 1) (aCons (cK (.int 2)) aNil)))))
      (sSeq (sIf (qNot (qT (cCall 4 F_w_told (aCons (cVar 12) (aCons (cB pAdd (cVar 5) (cN pTup (aCons (cVar 14) aNil))) (aCons (cB pAdd (cVar 6) (cN pTup (aCons (cCall 2 F_w_draw (aCons (cVar 1) (aCons (cK (.int 2)) aNil))) aNil))) (aCons (cK (.bool false)) aNil)))))))
      (sRet (cK (.bool false)))
      sNx)
      (sIf (qNot (qT (cCall 4 F_w_told (aCons (cVar 14) (aCons (cVar 5) (aCons (cVar 6) (aCons (cK (.bool false)) aNil)))))))
      (sRet (cK (.bool false)))
      sNx)))))))))))))))
    (sRet (cK (.bool true))))
theorem P_law {S : Type} {Z : Zk S} {hd : Nat → Addr → Prop} {k : Nat} {F_w_draw : Fn S} {k_w_draw : Nat} (C_w_draw : Lc.Dn P w K mg base "_law_draw" ["_law_deck_here", "_law_most"] k_w_draw (spD ⟨K, hd⟩ Z 2 F_w_draw)) (h_w_draw : k_w_draw ≤ k) {F_w_kinds : Fn S} {k_w_kinds : Nat} (C_w_kinds : Lc.Dn P w K mg base "_law_kinds" ["_law_deck_here", "_law_many"] k_w_kinds (spD ⟨K, hd⟩ Z 2 F_w_kinds)) (h_w_kinds : k_w_kinds ≤ k) {F_w_sum : Fn S} {k_w_sum : Nat} (C_w_sum : Lc.Dn P w K mg base "_law_sum" ["_law_deck_here", "_law_kinds_here", "_law_great"] k_w_sum (spD ⟨K, hd⟩ Z 3 F_w_sum)) (h_w_sum : k_w_sum ≤ k) {F_w_built : Fn S} {k_w_built : Nat} (C_w_built : Lc.Dn P w K mg base "_law_built" ["_law_deck_here", "_law_kinds_here", "_law_forms", "_law_times"] k_w_built (spD ⟨K, hd⟩ Z 4 F_w_built)) (h_w_built : k_w_built ≤ k) {F_w_due : Fn S} {k_w_due : Nat} (C_w_due : Lc.Dn P w K mg base "_law_due" ["_law_form", "_law_forms", "_law_times", "_law_kinds_here"] k_w_due (spD ⟨K, hd⟩ Z 4 F_w_due)) (h_w_due : k_w_due ≤ k) {F_w_told : Fn S} {k_w_told : Nat} (C_w_told : Lc.Dn P w K mg base "_law_told" ["_law_form", "_law_forms", "_law_times", "_law_due_here"] k_w_told (spD ⟨K, hd⟩ Z 4 F_w_told)) (h_w_told : k_w_told ≤ k) {F_w_bent : Fn S} {k_w_bent : Nat} (C_w_bent : Lc.Dn P w K mg base "_law_bent" ["_law_deck_here", "_law_form", "_law_kinds_here"] k_w_bent (spD ⟨K, hd⟩ Z 3 F_w_bent)) (h_w_bent : k_w_bent ≤ k) (m_range : mg "range" = none) (m_int : mg "int" = none) (m_min : mg "min" = none) (m_tuple : mg "tuple" = none) (m_max : mg "max" = none) {cdv : Value} {A : Around} {outer : List Env} {s : Shared} {H : Hp} {E : XK} (hr : Room k (A.deeper (envOfC "law" (defScope s_law) s.heap.objs.size f cdv))) :
    PSs (cxOf CX0 P w K mg base N_law "law" (defScope s_law) f cdv A outer s H E).nox ((defBody s_law).drop 1) (tSt ⟨K, hd⟩ Z [] (B_law F_w_draw F_w_kinds F_w_sum F_w_built F_w_due F_w_told F_w_bent)) := by
    unfold B_law
    exact (es_cons (es_for PassesOwn.never rfl (ei_range1 (pi_range1 (by rfl) m_range (ea_cons ex_int ea_nil))) (eg_name (i := 2) sc_law.nd rfl (.inl rfl))
    (es_cons (es_set (i := 3) sc_law.nd rfl (.inl rfl) (ex_cmp (od_eq hr.units) os_eq (ex_call C_w_draw (hr.mono h_w_draw) (by rfl) (ea_cons (ex_var 1) (ea_cons ex_int ea_nil))) ex_int (nomark _)))
      (es_cons (es_set (i := 4) sc_law.nd rfl (.inl rfl) (ex_call C_w_kinds (hr.mono h_w_kinds) (by rfl) (ea_cons (ex_var 1) (ea_cons (ex_ix ix_seq os_ix (ex_lst (ea_cons ex_int (ea_cons ex_int (ea_cons ex_int (ea_cons ex_int ea_nil))))) (ex_call C_w_draw (hr.mono h_w_draw) (by rfl) (ea_cons (ex_var 1) (ea_cons ex_int ea_nil))) (fun _ _ => rfl)) ea_nil))))
      (es_cons (es_set (i := 5) sc_law.nd rfl (.inl rfl) (ex_tup ea_nil))
      (es_cons (es_set (i := 6) sc_law.nd rfl (.inl rfl) (ex_tup ea_nil))
      (es_cons (es_asgT (ps_asg (ex_ix ix_seq os_ix (ex_lst (ea_cons (ex_tup (ea_cons ex_int (ea_cons (ex_bin op_pow os_pow ex_int ex_int) ea_nil))) (ea_cons (ex_tup (ea_cons (ex_bin op_pow os_pow ex_int ex_int) (ea_cons ex_int ea_nil))) ea_nil))) (ex_call C_w_draw (hr.mono h_w_draw) (by rfl) (ea_cons (ex_var 1) (ea_cons ex_int ea_nil))) (fun _ _ => rfl)) (eg_tup rfl (egs_cons (eg_name (i := 7) sc_law.nd rfl (.inl rfl)) (egs_cons (eg_name (i := 8) sc_law.nd rfl (.inl rfl)) egs_nil)) (fun _ _ _ h => glC (fun _ _ _ h => glC (fun _ _ _ h => gl0 h) h) h))))
      (es_cons (es_for PassesOwn.never rfl (ei_range1 (pi_range1 (by rfl) m_range (ea_cons (ex_ix ix_seq os_ix (ex_lst (ea_cons (ex_call C_w_draw (hr.mono h_w_draw) (by rfl) (ea_cons (ex_var 1) (ea_cons ex_int ea_nil))) (ea_cons (ex_bin od_add os_add ex_int (ex_call C_w_draw (hr.mono h_w_draw) (by rfl) (ea_cons (ex_var 1) (ea_cons ex_int ea_nil)))) ea_nil))) (ex_callTy call_int1 os_int (by rfl) m_int (by decide +kernel) (ea_cons (ex_var 3) ea_nil)) (fun _ _ => rfl)) ea_nil))) (eg_name (i := 9) sc_law.nd rfl (.inl rfl))
      (es_cons (es_set (i := 10) sc_law.nd rfl (.inl rfl) (ex_call C_w_sum (hr.mono h_w_sum) (by rfl) (ea_cons (ex_var 1) (ea_cons (ex_var 4) (ea_cons (ex_var 7) ea_nil)))))
        (es_cons (es_set (i := 5) sc_law.nd rfl (.inl rfl) (ex_bin od_add os_add (ex_var 5) (ex_tup (ea_cons (ex_tup (ea_cons ex_str (ea_cons (ex_var 10) (ea_cons (ex_call C_w_sum (hr.mono h_w_sum) (by rfl) (ea_cons (ex_var 1) (ea_cons (ex_var 4) (ea_cons (ex_var 7) ea_nil)))) ea_nil)))) ea_nil))))
        (es_cons (es_set (i := 11) sc_law.nd rfl (.inl rfl) (ex_lst (ea_cons ex_int (ea_cons ex_int (ea_cons (ex_call C_w_draw (hr.mono h_w_draw) (by rfl) (ea_cons (ex_var 1) (ea_cons (ex_callB (call_min2 rfl) os_min2 (by rfl) m_min (by decide +kernel) (ea_cons ex_int (ea_cons (ex_var 8) ea_nil))) ea_nil))) (ea_cons (ex_call C_w_draw (hr.mono h_w_draw) (by rfl) (ea_cons (ex_var 1) (ea_cons (ex_var 8) ea_nil))) ea_nil))))))
        (es_one (es_set (i := 6) sc_law.nd rfl (.inl rfl) (ex_bin od_add os_add (ex_var 6) (ex_tup (ea_cons (ex_ix ix_seq os_ix (ex_var 11) (ex_call C_w_draw (hr.mono h_w_draw) (by rfl) (ea_cons (ex_var 1) (ea_cons ex_int ea_nil))) (fun _ _ => rfl)) ea_nil)))))))))
      (es_cons (es_set (i := 12) sc_law.nd rfl (.inl rfl) (ex_call C_w_built (hr.mono h_w_built) (by rfl) (ea_cons (ex_var 1) (ea_cons (ex_var 4) (ea_cons (ex_var 5) (ea_cons (ex_var 6) ea_nil))))))
      (es_cons (es_if (PW.pt (ew_or (et_not (et_val (ex_call C_w_told (hr.mono h_w_told) (by rfl) (ea_cons (ex_var 12) (ea_cons (ex_var 5) (ea_cons (ex_var 6) (ea_cons ex_bl ea_nil))))))) (pw_or1 (et_not (et_val (ex_call C_w_due (hr.mono h_w_due) (by rfl) (ea_cons (ex_var 12) (ea_cons (ex_var 5) (ea_cons (ex_var 6) (ea_cons (ex_var 4) ea_nil))))))))))
      (es_one (es_ret ex_bl))
      es_nil)
      (es_cons (es_for PassesOwn.never rfl (ei_range1 (pi_range1 (by rfl) m_range (ea_cons ex_int ea_nil))) (eg_name (i := 9) sc_law.nd rfl (.inl rfl))
      (es_cons (es_set (i := 12) sc_law.nd rfl (.inl rfl) (ex_call C_w_bent (hr.mono h_w_bent) (by rfl) (ea_cons (ex_var 1) (ea_cons (ex_var 12) (ea_cons (ex_var 4) ea_nil)))))
        (es_one (es_if (et_not (et_val (ex_call C_w_told (hr.mono h_w_told) (by rfl) (ea_cons (ex_var 12) (ea_cons (ex_var 5) (ea_cons (ex_var 6) (ea_cons (ex_call C_w_due (hr.mono h_w_due) (by rfl) (ea_cons (ex_var 12) (ea_cons (ex_var 5) (ea_cons (ex_var 6) (ea_cons (ex_var 4) ea_nil))))) ea_nil)))))))
        (es_one (es_ret ex_bl))
        es_nil))))
      (es_cons (es_set (i := 13) sc_law.nd rfl (.inl rfl) (ex_callTy od_tuple os_tuple (by rfl) m_tuple (by decide +kernel) (ea_cons (ex_nl (nl_lc (own := [("_law_one", 10)]) (tt := tYes) rfl sc_law.nd (ei_tup (ex_var 6)) (blkOk_by (N := N_law) (sc := defScope s_law) (by decide +kernel)) (fun _ _ _ _ _ => (eg_name (i := 10) sc_law.nd rfl (.inl rfl))) (fun _ _ _ _ _ => pts_nil) (fun _ _ _ h => yes_of h) (fun _ _ _ _ _ => (ex_callB (call_max2 rfl) os_max2 (by rfl) m_max (by decide +kernel) (ea_cons ex_int (ea_cons (ex_bin op_sub os_sub (ex_var 10) ex_int) ea_nil)))))) ea_nil)))
      (es_cons (es_if (et_not (et_val (ex_call C_w_told (hr.mono h_w_told) (by rfl) (ea_cons (ex_var 12) (ea_cons (ex_var 5) (ea_cons (ex_var 13) (ea_cons (ex_call C_w_due (hr.mono h_w_due) (by rfl) (ea_cons (ex_var 12) (ea_cons (ex_var 5) (ea_cons (ex_var 13) (ea_cons (ex_var 4) ea_nil))))) ea_nil)))))))
      (es_one (es_ret ex_bl))
      es_nil)
      (es_cons (es_set (i := 14) sc_law.nd rfl (.inl rfl) (ex_ix ix_seq os_ix (ex_lst (ea_cons (ex_tup (ea_cons ex_str ea_nil)) (ea_cons (ex_tup (ea_cons ex_str (ea_cons (ex_var 12) ea_nil))) ea_nil))) (ex_call C_w_draw (hr.mono h_w_draw) (by rfl) (ea_cons (ex_var 1) (ea_cons ex_int ea_nil))) (fun _ _ => rfl)))
      (es_cons (es_if (et_not (et_val (ex_call C_w_told (hr.mono h_w_told) (by rfl) (ea_cons (ex_var 12) (ea_cons (ex_bin od_add os_add (ex_var 5) (ex_tup (ea_cons (ex_var 14) ea_nil))) (ea_cons (ex_bin od_add os_add (ex_var 6) (ex_tup (ea_cons (ex_call C_w_draw (hr.mono h_w_draw) (by rfl) (ea_cons (ex_var 1) (ea_cons ex_int ea_nil))) ea_nil))) (ea_cons ex_bl ea_nil)))))))
      (es_one (es_ret ex_bl))
      es_nil)
      (es_one (es_if (et_not (et_val (ex_call C_w_told (hr.mono h_w_told) (by rfl) (ea_cons (ex_var 14) (ea_cons (ex_var 5) (ea_cons (ex_var 6) (ea_cons ex_bl ea_nil)))))))
      (es_one (es_ret ex_bl))
      es_nil))))))))))))))))
    (es_one (es_ret ex_bl)))

end
end K42
set_option Elab.async false
set_option linter.all false
set_option maxRecDepth 100000
set_option maxHeartbeats 4000000
namespace K42
open PySem PySem.Spec PyProof.Rows L2 Dl
section
variable {P : Program} {w : World} {K : PySem.W.Frag} {mg : Str → Option Value} {base : Heap} {f : Addr} {fd : FuncData}
abbrev s_w_mixed : Stmt := topS 6
abbrev N_w_mixed : List Str := ["_law_cell", "_law_k", "_law_number"]
theorem sc_w_mixed : FnScope N_w_mixed ["_law_cell", "_law_k"] (defScope s_w_mixed) := ⟨rfl, rfl, rfl, by decide +kernel, rfl, by decide +kernel, by decide +kernel⟩
def spMixed : Sp := fun vs H Q _ => ∃ a b : Int, vs = [.int a, .int b] ∧ Q (.int (m8F a b)) H
theorem ok_w_mixed {k : Nat} (F : Fun K "_law_mixed" "_law_mixed" s_w_mixed f fd) : FnOk P w K mg base CX0 (k + 1) f fd ["_law_cell", "_law_k"] spMixed := by
  refine F.ok sc_w_mixed (fun vs H Q E h => ?_) (fun cdv A outer s H vs Q E hr h => ?_)
  · obtain ⟨a, b, rfl, _⟩ := h
    rfl
  · obtain ⟨a, b, rfl, q⟩ := h
    refine ⟨_, (pss_cons (ps_set (i := 2) sc_w_mixed.nd rfl (.inl rfl) (pe_op op_mod (pe_op op_add (pe_op op_add (pe_op op_mul (pe_op op_mod (pv 0) pe_int) pe_int) (pe_op op_mul (pv 1) pe_int)) pe_int) pe_int))
      (pss_cons (ps_set (i := 2) sc_w_mixed.nd rfl (.inl rfl) (pe_op op_mod (pe_op op_add (pe_op op_add (pe_op op_mul (pv 2) (pv 2)) (pe_op op_mul pe_int (pv 2))) (pv 1)) pe_int))
      (pss_one (ps_ret (pe_op op_mod (pe_op op_mul (pe_op op_add (pe_op op_mul (pe_op op_mod (pv 2) pe_int) pe_int) (pe_op op_fdiv (pv 2) pe_int)) pe_int) pe_int))))), ?_⟩
    refine ⟨.int a, rfl, a, _, rfl, rfl, (show (0 : Int) < 2147483647 by decide), _, _, rfl, rfl, .inr ⟨by decide, by decide⟩, .int b, rfl, b, 69621, rfl, rfl, .inr ⟨by decide, by decide⟩, _, _, rfl, rfl, _, _, rfl, rfl, _, _, rfl, rfl, (show (0 : Int) < 2147483629 by decide), ?_⟩
    have z0 : 0 ≤ m8a a b := Int.emod_nonneg _ (by decide)
    have z1 : m8a a b < 2147483629 := Int.emod_lt_of_pos _ (by decide)
    show tSeq _ _ _ [some (.int a), some (.int b), some (.int (m8a a b))] H
    refine ⟨.int (m8a a b), rfl, .int (m8a a b), rfl, m8a a b, m8a a b, rfl, rfl, .inl ⟨by omega, by omega⟩, .int (m8a a b), rfl, 16807, m8a a b, rfl, rfl, .inl ⟨by decide, by decide⟩, _, _, rfl, rfl, .int b, rfl, _, _, rfl, rfl, _, _, rfl, rfl, (show (0 : Int) < 2147483587 by decide), ?_⟩
    exact ⟨.int (m8b a b), rfl, m8b a b, 65536, rfl, rfl, (show (0 : Int) < 65536 by decide), _, _, rfl, rfl, .inr ⟨by decide, by decide⟩, .int (m8b a b), rfl, m8b a b, 65536, rfl, rfl, ⟨by decide, by decide⟩, _, _, rfl, rfl, _, _, rfl, rfl, .inr ⟨by decide, by decide⟩, _, _, rfl, rfl, (show (0 : Int) < 2147483563 by decide), q⟩
abbrev s_w_deck : Stmt := topS 7
abbrev N_w_deck : List Str := ["_law_script", "_law_cells"]
theorem sc_w_deck : FnScope N_w_deck ["_law_script"] (defScope s_w_deck) := ⟨rfl, rfl, rfl, by decide +kernel, rfl, by decide +kernel, by decide +kernel⟩
def spDeck (K : PySem.W.Frag) : Sp := fun vs H Q _ => ∃ (a : Addr) (ns : List Int), vs = [.ref a] ∧ SqL K H a (ns.map V.int) ∧ ∀ d H' s, Same H H' → Dk8 d H' s → H d = none → Q (.ref d) H'
theorem ok_w_deck {k : Nat} (F : Fun K "_law_deck" "_law_deck" s_w_deck f fd) (m_list : mg "list" = none) (m_sum : mg "sum" = none) : FnOk P w K mg base CX0 (k + 1) f fd ["_law_script"] (spDeck K) := by
  refine F.ok sc_w_deck (fun vs H Q E h => ?_) (fun cdv A outer s H vs Q E hr h => ?_)
  · obtain ⟨a, ns, rfl, _⟩ := h
    rfl
  · obtain ⟨a, ns, rfl, hS, q⟩ := h
    refine ⟨_, (pss_cons (ps_set (i := 1) sc_w_deck.nd rfl (.inl rfl) (pe_callTy call_list_of (by rfl) m_list (by decide +kernel) (pa_cons (pe_slice sl_list (pv 0) po_none (po_some pe_int)) pa_nil)))
      (pss_one (ps_ret (pe_op op_cat (pe_lst (pa_cons pe_int (pa_cons (pe_op op_mod (pe_callB (cr_sum rfl) (by rfl) m_sum (by decide +kernel) (pa_cons (pv 1) pa_nil)) pe_int) pa_nil))) (pe_revL (pv 1)))))), ?_⟩
    have ec : cutV (ns.map V.int) none (some 63) = (ns.take 63).map V.int := by
      rw [show (63 : Int) = ((63 : Nat) : Int) from rfl, Lc.cut_to, List.map_take]
    have l63 : (ns.take 63).length ≤ 63 := by
      rw [List.length_take]
      omega
    generalize ns.take 63 = nt at ec l63
    refine ⟨.ref a, rfl, _, rfl, a, _, rfl, hS, fun p np => ?_⟩
    rw [ec]
    have s1 := Lc.same_new (o := .lst (nt.map V.int)) np
    have h1 : (upd H p (.lst (nt.map V.int))) p = some (.lst (nt.map V.int)) := upd_same
    generalize upd H p (.lst (nt.map V.int)) = H1 at s1 h1 ⊢
    refine ⟨p, _, rfl, .inl (SqL.of h1), fun c nc => ?_⟩
    have s2 := s1.trans (Lc.same_new (o := .lst (nt.map V.int)) nc)
    have hc : (upd H1 c (.lst (nt.map V.int))) c = some (.lst (nt.map V.int)) := upd_same
    generalize upd H1 c (.lst (nt.map V.int)) = H2 at s2 hc ⊢
    refine ⟨.ref c, rfl, c, nt, rfl, SqL.of hc, _, _, rfl, rfl, (show (0 : Int) < 2147483647 by decide), Lc.sz (by show 2 ≤ 100000; decide), fun t nt' => ?_⟩
    have s3 := s2.trans (Lc.same_new (o := .lst [.int 0, .int (nt.sum % 2147483647)]) nt')
    have hc3 := Lc.same_new (o := .lst [.int 0, .int (nt.sum % 2147483647)]) nt' _ _ hc
    have h3 : (upd H2 t (.lst [.int 0, .int (nt.sum % 2147483647)])) t = some (.lst [.int 0, .int (nt.sum % 2147483647)]) := upd_same
    generalize upd H2 t (.lst [.int 0, .int (nt.sum % 2147483647)]) = H3 at s3 hc3 h3 ⊢
    refine ⟨.ref c, rfl, c, _, rfl, SqL.of hc3, fun r nr => ?_⟩
    rw [← List.map_reverse]
    have s4 := s3.trans (Lc.same_new (o := .lst (nt.reverse.map V.int)) nr)
    have h4 := Lc.same_new (o := .lst (nt.reverse.map V.int)) nr _ _ h3
    have hr4 : (upd H3 r (.lst (nt.reverse.map V.int))) r = some (.lst (nt.reverse.map V.int)) := upd_same
    generalize upd H3 r (.lst (nt.reverse.map V.int)) = H4 at s4 h4 hr4 ⊢
    refine ⟨t, r, _, _, rfl, rfl, h4, hr4, ?_, fun d nd => ?_⟩
    · rw [List.length_map, List.length_reverse]
      exact Lc.sz (by show 2 + nt.length ≤ 100000; omega)
    · exact q d _ (nt.reverse, nt.sum % 2147483647, 0) (s4.trans (Lc.same_new nd)) ⟨upd_same, by rw [List.length_reverse]; exact l63⟩ (s4.free nd)
abbrev s_w_draw : Stmt := topS 8
abbrev N_w_draw : List Str := ["_law_deck_here", "_law_most", "_law_cell"]
theorem sc_w_draw : FnScope N_w_draw ["_law_deck_here", "_law_most"] (defScope s_w_draw) := ⟨rfl, rfl, rfl, by decide +kernel, rfl, by decide +kernel, by decide +kernel⟩
def spDraw : Sp := fun vs H Q _ => ∃ (d : Addr) (s : DS) (m : Int), vs = [.ref d, .int m] ∧ Dk8 d H s ∧ 0 < m ∧ m < 1073741824 ∧ ∀ H', Lc.Fr (fun a => a = d) H H' → Dk8 d H' (drawG s m).2 → Q (.int (drawG s m).1) H'
theorem ok_w_draw {k : Nat} (F : Fun K "_law_draw" "_law_draw" s_w_draw f fd) (m_len : mg "len" = none) (C_w_mixed : Lc.Dn P w K mg base "_law_mixed" ["_law_cell", "_law_k"] 1 spMixed) : FnOk P w K mg base CX0 (k + 2) f fd ["_law_deck_here", "_law_most"] spDraw := by
  refine F.ok sc_w_draw (fun vs H Q E h => ?_) (fun cdv A outer s H vs Q E hr h => ?_)
  · obtain ⟨d, s, m, rfl, _⟩ := h
    rfl
  · obtain ⟨d, ⟨cells, n, sm⟩, m, rfl, ⟨hd, hl⟩, hm, hm2, q⟩ := h
    simp only at hd hl
    refine ⟨_, (pss_cons (ps_asg (pe_op op_add (pe_ix ix_list (pv 0) pe_int (fun _ _ => rfl)) pe_int) (pg_sub (pv 0) pe_int set_list))
      (pss_cons (ps_if (pt_cmpR op_lt (pe_callB call_len_seq (by rfl) m_len (by decide +kernel) (pa_cons (pv 0) pa_nil)) pe_int (nomark _))
      (pss_one (ps_ret (pe_op op_mod (Lc.pe_dn C_w_mixed (hr.mono (by omega)) (by rfl) (pa_cons (pe_ix ix_list (pv 0) pe_int (fun _ _ => rfl)) (pa_cons (pe_ix ix_list (pv 0) pe_int (fun _ _ => rfl)) pa_nil))) (pv 1))))
      pss_nil)
      (pss_cons (ps_set (i := 2) sc_w_draw.nd rfl (.inl rfl) (pe_bm0 PySem.F.plainAttrs_list PySem.F.slot_list_pop PySem.F.type_list_pop mt_pop (pv 0)))
      (pss_cons (ps_if (pt_cmpR op_lt (pv 2) (pe_op op_pow pe_int pe_int) (nomark _))
      (pss_one (ps_ret (pe_op op_mod (Lc.pe_dn C_w_mixed (hr.mono (by omega)) (by rfl) (pa_cons (pv 2) (pa_cons (pe_ix ix_list (pv 0) pe_int (fun _ _ => rfl)) pa_nil))) (pv 1))))
      pss_nil)
      (pss_cons (ps_expr (pe_bm PySem.F.plainAttrs_list PySem.F.slot_list_append PySem.F.type_list_append mt_append (pv 0) (pa_cons (pe_op op_fdiv (pv 2) (pv 1)) pa_nil)))
      (pss_one (ps_ret (pe_op op_mod (pv 2) (pv 1))))))))), ?_⟩
    have ix0 : ∀ (x : V) (r : List V), atI (x :: r) 0 = some x := fun x r => atI_nat (j := 0) rfl
    have ix1 : ∀ (x y : V) (r : List V), atI (x :: y :: r) 1 = some y := fun x y r => atI_nat (j := 1) rfl
    have st0 : ∀ (x y : V) (r : List V), ixN (x :: y :: r).length 0 = some 0 := fun x y r => by
      unfold ixN
      rw [if_pos (by decide), if_pos (by rw [List.length_cons]; omega)]
      rfl
    refine ⟨.ref d, rfl, d, _, 0, .int sm, rfl, rfl, SqL.of hd, ix0 _ _, sm, 1, rfl, rfl, .ref d, rfl, d, _, 0, 0, rfl, rfl, hd, st0 _ _ _, ?_⟩
    have hd1 : (upd H d (.lst ((.int sm :: .int n :: cells.map V.int).set 0 (.int (sm + 1))))) d = some (.lst (.int (sm + 1) :: .int n :: cells.map V.int)) := upd_same
    have f1 : Lc.Fr (fun a => a = d) H (upd H d (.lst ((.int sm :: .int n :: cells.map V.int).set 0 (.int (sm + 1))))) := Lc.Fr.mut rfl
    show tSeq _ _ _ _ (upd H d (.lst ((.int sm :: .int n :: cells.map V.int).set 0 (.int (sm + 1)))))
    generalize (upd H d (.lst ((.int sm :: .int n :: cells.map V.int).set 0 (.int (sm + 1))))) = H1 at hd1 f1 ⊢
    refine ⟨.ref d, rfl, d, _, rfl, .inl (SqL.of hd1), _, 3, rfl, rfl, _, rfl, ?_⟩
    rcases List.eq_nil_or_concat cells with e | ⟨ini, x, e⟩
    · subst e
      refine iteT ?_
      refine ⟨.ref d, rfl, d, _, 1, .int n, rfl, rfl, SqL.of hd1, ix1 _ _ _, .ref d, rfl, d, _, 0, .int (sm + 1), rfl, rfl, SqL.of hd1, ix0 _ _, n, sm + 1, rfl, ?_⟩
      exact ⟨.int m, rfl, _, m, rfl, rfl, hm, q H1 f1 ⟨hd1, Nat.zero_le _⟩⟩
    · have e : cells = ini ++ [x] := by rw [e, List.concat_eq_append]
      subst e
      have eg : (ini ++ [x]).getLast? = some x := by simp
      have edl : (ini ++ [x]).dropLast = ini := List.dropLast_concat
      have hl' : ini.length + 1 ≤ 63 := by simpa using hl
      have el : (V.int (sm + 1) :: V.int n :: (ini ++ [x]).map V.int).length = ini.length + 3 := by simp
      have e0 : decide ((((V.int (sm + 1) :: V.int n :: (ini ++ [x]).map V.int).length : Nat) : Int) < 3) = false := by
        rw [el]
        exact decide_eq_false (by omega)
      rw [e0]
      refine iteF ?_
      refine ⟨.ref d, rfl, .inl ⟨rfl, _, SqL.of hd1⟩, d, _, .int x, rfl, rfl, hd1, ?_, ?_⟩
      · rw [el]
        show (V.int (sm + 1) :: V.int n :: (ini ++ [x]).map V.int)[ini.length + 2]? = _
        simp
      have ed : (V.int (sm + 1) :: V.int n :: (ini ++ [x]).map V.int).dropLast = V.int (sm + 1) :: V.int n :: ini.map V.int := by
        rw [List.map_append]
        show ((V.int (sm + 1) :: V.int n :: ini.map V.int) ++ [V.int x]).dropLast = _
        exact List.dropLast_concat
      rw [ed]
      have hd3 : (upd H1 d (.lst (V.int (sm + 1) :: V.int n :: ini.map V.int))) d = some (.lst (V.int (sm + 1) :: V.int n :: ini.map V.int)) := upd_same
      have f3 : Lc.Fr (fun a => a = d) H (upd H1 d (.lst (V.int (sm + 1) :: V.int n :: ini.map V.int))) := f1.trans (Lc.Fr.mut rfl)
      show tSeq _ _ _ _ (upd H1 d (.lst (V.int (sm + 1) :: V.int n :: ini.map V.int)))
      generalize upd H1 d (.lst (V.int (sm + 1) :: V.int n :: ini.map V.int)) = H3 at hd3 f3 ⊢
      refine ⟨.int x, rfl, 10, 18, rfl, rfl, ⟨by decide, by decide, by decide⟩, _, _, rfl, rfl, _, rfl, ite2 (fun e => ?_) (fun e => ?_)⟩
      · refine ⟨.int x, rfl, .ref d, rfl, d, _, 0, .int (sm + 1), rfl, rfl, SqL.of hd3, ix0 _ _, x, sm + 1, rfl, ?_⟩
        have e9 : drawG (ini ++ [x], n, sm) m = (m8F x (sm + 1) % m, (ini, n, sm + 1)) := by
          unfold drawG
          simp only [eg, edl]
          exact if_pos (of_decide_eq_true e)
        rw [e9] at q
        exact ⟨.int m, rfl, _, m, rfl, rfl, hm, q H3 f3 ⟨hd3, by show ini.length ≤ 63; omega⟩⟩
      · refine ⟨.ref d, rfl, .inl ⟨rfl, _, SqL.of hd3⟩, .int x, rfl, .int m, rfl, x, m, rfl, rfl, ⟨hm, hm2⟩, d, _, _, rfl, rfl, hd3, ?_, ?_⟩
        · simp only [List.length_cons, List.length_map]
          exact Lc.szl (by omega)
        · have hd4 : (upd H3 d (.lst ((V.int (sm + 1) :: V.int n :: ini.map V.int) ++ [.int (x / m)]))) d = some (.lst (V.int (sm + 1) :: V.int n :: (ini ++ [x / m]).map V.int)) := by
            rw [upd_same, List.map_append]
            rfl
          refine ⟨.int x, rfl, .int m, rfl, x, m, rfl, rfl, hm, ?_⟩
          have e9 : drawG (ini ++ [x], n, sm) m = (x % m, (ini ++ [x / m], n, sm + 1)) := by
            unfold drawG
            simp only [eg, edl]
            rw [if_neg (show ¬ x < 10 ^ 18 from fun z => e (decide_eq_true z))]
          rw [e9] at q
          exact q _ (f3.trans (Lc.Fr.mut rfl)) ⟨hd4, by simpa using hl'⟩
/-- the draw by its function on data -/
theorem D_draw {d : Addr} {k : Nat} {f : Addr} {fd : FuncData} (F : Fun K "_law_draw" "_law_draw" s_w_draw f fd) (m_len : mg "len" = none) (C_w_mixed : Lc.Dn P w K mg base "_law_mixed" ["_law_cell", "_law_k"] 1 spMixed) : FnOk P w K mg base CX0 (k + 2) f fd ["_law_deck_here", "_law_most"] (spD ⟨K, hdD d⟩ (Zd8 d) 2 Fdraw8) := by
  have h := ok_w_draw (P := P) (w := w) (K := K) (mg := mg) (base := base) (k := k) F m_len C_w_mixed
  refine ⟨fun vs H Q E h => ?_, fun A outer s H args us vs Q E hr he hb hv hsp => h.run A outer s H args us vs Q E hr he hb hv ?_⟩
  · obtain ⟨B, ds, s, d, s', h1, _, _, h2, _⟩ := h
    rw [h2.len, h1]
    rfl
  · obtain ⟨B, ds, s, x, s', h1, bd, mb, h2, R, hF, q⟩ := hsp
    unfold Fdraw8 at hF
    split at hF
    · split at hF
      · rename_i m hm
        cases hF
        simp only [Reps, Rep] at h2
        obtain ⟨v, r, rfl, ⟨a, rfl, ⟨n, e1, _, rfl⟩ | ⟨e1, _⟩⟩, v2, r2, rfl, rfl, rfl⟩ := h2
        rotate_left
        · cases e1
        exact ⟨a, s, m, rfl, R, hm.1, hm.2, fun H' f1 k1 => q _ H' f1 (by simp only [Rep]) k1⟩
      · cases hF
    · cases hF
end
end K42
set_option Elab.async false
set_option linter.all false
set_option maxRecDepth 100000
set_option maxHeartbeats 4000000
/-! equations for simp: expressions -/
namespace Dl
open PySem PySem.Spec PyProof.Rows L2
section
variable {S : Type} {ρ : Rho} {s : S} {f g h : Ev S} {fa : Ea S} {Q : D → S → Prop} {QL : List D → S → Prop} {QB : Bool → S → Prop}
theorem ok_V0 {d : D} : Ok (cVar 0 (some d :: ρ) s) Q ↔ Q d s := by simp [cVar]
theorem ok_Vs {i : Nat} {x : Option D} : Ok (cVar (i + 1) (x :: ρ) s) Q ↔ Ok (cVar i ρ s) Q := by simp [cVar]
theorem ok_K {d : D} : Ok (cK d ρ s) Q ↔ Q d s := by simp [cK]
theorem ok_B {p : D → D → Option D} : Ok (cB p f g ρ s) Q ↔ Ok (f ρ s) fun x s => Ok (g ρ s) fun y s => ∃ z, p x y = some z ∧ Q z s := by simp only [cB, ok_bnd, ok_put]
theorem ok_U {p : D → Option D} : Ok (cU p f ρ s) Q ↔ Ok (f ρ s) fun x s => ∃ z, p x = some z ∧ Q z s := by simp only [cU, ok_bnd, ok_put]
theorem ok_nil : Ok (aNil ρ s) QL ↔ QL [] s := by simp [aNil]
theorem ok_cons : Ok (aCons f fa ρ s) QL ↔ Ok (f ρ s) fun x s => Ok (fa ρ s) fun xs s => QL (x :: xs) s := by simp only [aCons, ok_bnd, ok_some]
theorem ok_N {p : List D → Option D} : Ok (cN p fa ρ s) Q ↔ Ok (fa ρ s) fun xs s => ∃ z, p xs = some z ∧ Q z s := by simp only [cN, ok_bnd, ok_put]
theorem ok_aN {p : List D → Option (List D)} : Ok (aN p fa ρ s) QL ↔ Ok (fa ρ s) fun xs s => ∃ z, p xs = some z ∧ QL z s := by simp only [aN, ok_bnd, ok_put]
theorem ok_call {n : Nat} {F : Fn S} : Ok (cCall n F fa ρ s) Q ↔ Ok (fa ρ s) fun xs s => xs.length = n ∧ Ok (F xs s) Q := by
  simp only [cCall, ok_bnd]
  constructor
  · intro h
    refine h.imp fun x s h => ?_
    split at h
    · exact ⟨by assumption, h⟩
    · exact (ok_none.mp h).elim
  · intro h
    exact h.imp fun x s h => by rw [if_pos h.1]; exact h.2
theorem ok_nl : Ok (cNl fa ρ s) Q ↔ Ok (fa ρ s) fun xs s => Q (.list xs) s := by simp only [cNl, ok_bnd, ok_some]
theorem ok_fl : Ok (cFl f ρ s) Q ↔ Ok (f ρ s) fun x s => flatD x = true ∧ Q x s := by
  simp only [cFl, ok_bnd]
  constructor
  · intro h
    refine h.imp fun x s h => ?_
    split at h
    · exact ⟨by assumption, ok_some.mp h⟩
    · exact (ok_none.mp h).elim
  · intro h
    exact h.imp fun x s h => by rw [if_pos h.1]; exact ok_some.mpr h.2
theorem ok_afl : Ok (aFl fa ρ s) QL ↔ Ok (fa ρ s) fun x s => flatDs x = true ∧ QL x s := by
  simp only [aFl, ok_bnd]
  constructor
  · intro h
    refine h.imp fun x s h => ?_
    split at h
    · exact ⟨by assumption, ok_some.mp h⟩
    · exact (ok_none.mp h).elim
  · intro h
    exact h.imp fun x s h => by rw [if_pos h.1]; exact ok_some.mpr h.2
theorem ok_T : Ok (qT f ρ s) QB ↔ Ok (f ρ s) fun x s => ∃ b, truth x = some b ∧ QB b s := by simp only [qT, ok_bnd, ok_put]
theorem ok_qNot {q : Et S} : Ok (qNot q ρ s) QB ↔ Ok (q ρ s) fun b s => QB (!b) s := by simp only [qNot, ok_bnd, ok_some]
theorem ok_if2 {α : Type} {b : Bool} {x y : Option (α × S)} {R : α → S → Prop} : Ok (if b = true then x else y) R ↔ if b = true then Ok x R else Ok y R := by cases b <;> simp
theorem ok_qAnd {q r : Et S} : Ok (qAnd q r ρ s) QB ↔ Ok (q ρ s) fun b s => if b = true then Ok (r ρ s) QB else QB false s := by simp only [qAnd, ok_bnd, ok_if2, ok_some]
theorem ok_qOr {q r : Et S} : Ok (qOr q r ρ s) QB ↔ Ok (q ρ s) fun b s => if b = true then QB true s else Ok (r ρ s) QB := by simp only [qOr, ok_bnd, ok_if2, ok_some]
theorem ok_and : Ok (cAnd f g ρ s) Q ↔ Ok (f ρ s) fun x s => ∃ b, truth x = some b ∧ if b = true then Ok (g ρ s) Q else Q x s := by simp only [cAnd, ok_bnd, ok_put, ok_if2, ok_some]
theorem ok_or : Ok (cOr f g ρ s) Q ↔ Ok (f ρ s) fun x s => ∃ b, truth x = some b ∧ if b = true then Q x s else Ok (g ρ s) Q := by simp only [cOr, ok_bnd, ok_put, ok_if2, ok_some]
theorem ok_not : Ok (cNot f ρ s) Q ↔ Ok (f ρ s) fun x s => ∃ b, truth x = some b ∧ Q (.bool (!b)) s := by simp only [cNot, ok_bnd, ok_put, ok_some]
theorem ok_if {q : Et S} : Ok (cIf q f g ρ s) Q ↔ Ok (q ρ s) fun b s => if b = true then Ok (f ρ s) Q else Ok (g ρ s) Q := by simp only [cIf, ok_bnd, ok_if2]
theorem ok_Sl {p : D → Option Int → Option Int → Option D} {l h : Eo' S} : Ok (cSl p f l h ρ s) Q ↔ Ok (f ρ s) fun x s => Ok (l ρ s) fun lo s => Ok (h ρ s) fun hi s => ∃ z, p x lo hi = some z ∧ Q z s := by simp only [cSl, ok_bnd, ok_put]
theorem ok_oNo {QO : Option Int → S → Prop} : Ok (oNo ρ s) QO ↔ QO none s := by simp [oNo]
theorem ok_oOf {QO : Option Int → S → Prop} : Ok (oOf f ρ s) QO ↔ Ok (f ρ s) fun x s => ∃ i, asI x = some i ∧ QO (some i) s := by
  simp only [oOf, ok_bnd, ok_put]
  constructor
  · intro h
    refine h.imp fun x s h => ?_
    obtain ⟨a, h1, h2⟩ := h
    rw [Option.map_eq_some_iff] at h1
    obtain ⟨i, h3, rfl⟩ := h1
    exact ⟨i, h3, h2⟩
  · intro h
    refine h.imp fun x s h => ?_
    obtain ⟨i, h1, h2⟩ := h
    exact ⟨some i, by rw [h1]; rfl, h2⟩
theorem ok_Ch {p q : D → D → Option D} : Ok (cCh p q f g h ρ s) Q ↔ Ok (f ρ s) fun x s => Ok (g ρ s) fun y s => ∃ z, p x y = some z ∧ ∃ b, asB z = some b ∧ if b = true then Ok (h ρ s) fun w s => ∃ z, q y w = some z ∧ Q z s else Q (.bool false) s := by
  simp only [cCh, ok_bnd, ok_put, ok_if2, ok_some]
theorem ok_it {p : D → Option (List D)} : Ok (iOf p f ρ s) QL ↔ Ok (f ρ s) fun x s => ∃ z, p x = some z ∧ QL z s := by simp only [iOf, ok_bnd, ok_put]
theorem ok_itA {p : List D → Option (List D)} : Ok (iOfA p fa ρ s) QL ↔ Ok (fa ρ s) fun x s => ∃ z, p x = some z ∧ QL z s := by simp only [iOfA, ok_bnd, ok_put]
theorem ok_yes : Ok (qYes ρ s) QB ↔ QB true s := by simp [qYes]
end
/-! what the operators come to -/
section
variable {i j : Int} {a b : Str} {x y : D} {ds es : List D}
theorem v_addI : pAdd (.int i) (.int j) = some (.int (i + j)) := rfl
theorem v_addS (h : a.length + b.length ≤ sizeLine) : pAdd (.str a) (.str b) = some (.str (a ++ b)) := by simp only [pAdd]; rw [if_pos h]
theorem v_sub : pSub (.int i) (.int j) = some (.int (i - j)) := rfl
theorem v_neg : pNeg (.int i) = some (.int (-i)) := rfl
theorem v_eqI : pEq (.int i) (.int j) = some (.bool (decide (i = j))) := rfl
theorem v_eqS : pEq (.str a) (.str b) = some (.bool (decide (a = b))) := rfl
theorem v_eqB {p q : Bool} : pEq (.bool p) (.bool q) = some (.bool (decide (p = q))) := rfl
theorem v_eq0 : pEq (.list ds) (.list []) = some (.bool ds.isEmpty) := rfl
theorem v_eqT0 : pEq (.tuple ds) (.tuple []) = some (.bool ds.isEmpty) := rfl
theorem v_neI : pNe (.int i) (.int j) = some (.bool (!decide (i = j))) := rfl
theorem v_neS : pNe (.str a) (.str b) = some (.bool (!decide (a = b))) := rfl
theorem v_neB {p q : Bool} : pNe (.bool p) (.bool q) = some (.bool (!decide (p = q))) := rfl
theorem v_ne0 : pNe (.list ds) (.list []) = some (.bool (!ds.isEmpty)) := rfl
theorem v_neT0 : pNe (.tuple ds) (.tuple []) = some (.bool (!ds.isEmpty)) := rfl
theorem v_ltI : pLt (.int i) (.int j) = some (.bool (decide (i < j))) := rfl
theorem v_leI : pLe (.int i) (.int j) = some (.bool (decide (i ≤ j))) := rfl
theorem v_gtI : pGt (.int i) (.int j) = some (.bool (decide (j < i))) := rfl
theorem v_geI : pGe (.int i) (.int j) = some (.bool (decide (j ≤ i))) := rfl
theorem v_is : pIs x .none = some (.bool (nonD x)) := rfl
theorem v_isNot : pIsNot x .none = some (.bool (!nonD x)) := rfl
theorem v_nn : nonD .none = true := rfl
theorem v_ns : nonD (.str a) = false := rfl
theorem v_ni : nonD (.int i) = false := rfl
theorem v_nl : nonD (.list ds) = false := rfl
theorem v_nt : nonD (.tuple ds) = false := rfl
theorem v_tb {p : Bool} : truth (.bool p) = some p := rfl
theorem v_tl : truth (.list ds) = some (!ds.isEmpty) := rfl
theorem v_tt : truth (.tuple ds) = some (!ds.isEmpty) := rfl
theorem v_tn : truth .none = some false := rfl
theorem v_ti : truth (.int i) = some (i != 0) := rfl
theorem v_asB {p : Bool} : asB (.bool p) = some p := rfl
theorem v_asI : asI (.int i) = some i := rfl
theorem v_asL : asL (.list ds) = some ds := rfl
theorem v_asT : asT (.tuple ds) = some ds := rfl
theorem v_asS : asS (.str a) = some (a.cps.toList.map fun c => .str ⟨#[c]⟩) := rfl
theorem v_lenL : pLen [.list ds] = some (.int ds.length) := rfl
theorem v_lenT : pLen [.tuple ds] = some (.int ds.length) := rfl
theorem v_lenS (h : a.length ≤ sizeLine) : pLen [.str a] = some (.int a.length) := by simp only [pLen]; rw [if_pos h]
theorem v_tupL : pTuple [.list ds] = some (.tuple ds) := rfl
theorem v_tupT : pTuple [.tuple ds] = some (.tuple ds) := rfl
theorem v_listL : pList [.list ds] = some ds := rfl
theorem v_listT : pList [.tuple ds] = some ds := rfl
theorem v_intB {p : Bool} : pInt [.bool p] = some (.int (if p then 1 else 0)) := rfl
theorem v_tup0 : pTup [] = some (.tuple []) := rfl
theorem v_tup1 {a : D} : pTup [a] = some (.tuple [a]) := rfl
theorem v_tup2 {a b : D} : pTup [a, b] = some (.tuple [a, b]) := rfl
theorem v_tup3 {a b c : D} : pTup [a, b, c] = some (.tuple [a, b, c]) := rfl
theorem v_tup4 {a b c d : D} : pTup [a, b, c, d] = some (.tuple [a, b, c, d]) := rfl
theorem v_tup5 {a b c d e : D} : pTup [a, b, c, d, e] = some (.tuple [a, b, c, d, e]) := rfl
theorem v_lst0 : pLst [] = some (.list []) := rfl
theorem v_lst1 {a : D} : pLst [a] = some (.list [a]) := rfl
theorem v_lst2 {a b : D} : pLst [a, b] = some (.list [a, b]) := rfl
theorem v_lst3 {a b c : D} : pLst [a, b, c] = some (.list [a, b, c]) := rfl
theorem v_lst4 {a b c d : D} : pLst [a, b, c, d] = some (.list [a, b, c, d]) := rfl
theorem v_lst5 {a b c d e : D} : pLst [a, b, c, d, e] = some (.list [a, b, c, d, e]) := rfl
theorem v_ok0 : lenOk [] = some [] := rfl
theorem v_ok1 {a : D} : lenOk [a] = some [a] := rfl
theorem v_ok2 {a b : D} : lenOk [a, b] = some [a, b] := rfl
theorem v_ix0L {d : D} : pIx (.list (d :: ds)) (.int 0) = some d := by simp only [pIx]; exact atI_nat (j := 0) rfl
theorem v_ix0 {d : D} : pIx (.tuple (d :: ds)) (.int 0) = some d := by simp only [pIx]; exact atI_nat (j := 0) rfl
theorem v_ix1 {c d : D} : pIx (.tuple (c :: d :: ds)) (.int 1) = some d := by simp only [pIx]; exact atI_nat (j := 1) rfl
theorem v_ix2 {b c d : D} : pIx (.tuple (b :: c :: d :: ds)) (.int 2) = some d := by simp only [pIx]; exact atI_nat (j := 2) rfl
theorem v_ix3 {a b c d : D} : pIx (.tuple (a :: b :: c :: d :: ds)) (.int 3) = some d := by simp only [pIx]; exact atI_nat (j := 3) rfl
theorem v_fs : flatD (.str a) = true := rfl
theorem v_fi : flatD (.int i) = true := rfl
theorem v_fb {p : Bool} : flatD (.bool p) = true := rfl
theorem v_fn : flatD .none = true := rfl
theorem v_ft : flatD (.tuple ds) = flatDs ds := rfl
theorem v_f0 : flatDs [] = true := rfl
theorem v_fc : flatDs (x :: ds) = (flatD x && flatDs ds) := rfl
end
end Dl
local macro_rules | `(tactic| walk_at "E") => `(tactic| simp only [Dl.ok_V0, Dl.ok_Vs, Dl.ok_K, Dl.ok_B, Dl.ok_U, Dl.ok_nil, Dl.ok_cons, Dl.ok_N, Dl.ok_aN, Dl.ok_call, Dl.ok_nl, Dl.ok_fl, Dl.ok_afl, Dl.ok_T, Dl.ok_qNot, Dl.ok_qAnd, Dl.ok_qOr, Dl.ok_and, Dl.ok_or, Dl.ok_not, Dl.ok_if, Dl.ok_Sl, Dl.ok_oNo, Dl.ok_oOf, Dl.ok_Ch, Dl.ok_it, Dl.ok_itA, Dl.ok_yes, Dl.v_addI, Dl.v_sub, Dl.v_neg, Dl.v_eqI, Dl.v_eqS, Dl.v_eqB, Dl.v_eq0, Dl.v_eqT0, Dl.v_neI, Dl.v_neS, Dl.v_neB, Dl.v_ne0, Dl.v_neT0, Dl.v_ltI, Dl.v_leI, Dl.v_gtI, Dl.v_geI, Dl.v_is, Dl.v_isNot, Dl.v_nn, Dl.v_ns, Dl.v_ni, Dl.v_nl, Dl.v_nt, Dl.v_tb, Dl.v_tl, Dl.v_tt, Dl.v_tn, Dl.v_ti, Dl.v_asB, Dl.v_asI, Dl.v_asL, Dl.v_asT, Dl.v_asS, Dl.v_lenL, Dl.v_lenT, Dl.v_tupL, Dl.v_tupT, Dl.v_listL, Dl.v_listT, Dl.v_intB, Dl.v_tup0, Dl.v_tup1, Dl.v_tup2, Dl.v_tup3, Dl.v_tup4, Dl.v_tup5, Dl.v_lst0, Dl.v_lst1, Dl.v_lst2, Dl.v_lst3, Dl.v_lst4, Dl.v_lst5, Dl.v_ok0, Dl.v_ok1, Dl.v_ok2, Dl.v_ix0L, Dl.v_ix0, Dl.v_ix1, Dl.v_ix2, Dl.v_ix3, Dl.v_fs, Dl.v_fi, Dl.v_fb, Dl.v_fn, Dl.v_ft, Dl.v_f0, Dl.v_fc, Dl.startR, List.map_cons, List.map_nil, List.length_cons, List.length_nil, List.replicate, List.cons_append, List.nil_append, List.set_cons_zero, List.set_cons_succ, Option.some.injEq, exists_eq_left', Nat.reduceAdd, Nat.reduceSub, Nat.sub_zero, Nat.sub_self, Nat.zero_add, Nat.reduceEqDiff, Bool.not_true, Bool.not_false, if_true, if_false, Bool.and_self, Bool.true_and, Bool.and_true, Bool.false_eq_true, ↓reduceIte, true_and, and_true, decide_true, decide_false, Dl.wipeR])
local macro_rules | `(tactic| simp_arith [$xs,*]) => `(tactic| simp only [Dl.ok_V0, Dl.ok_Vs, Dl.ok_K, Dl.ok_B, Dl.ok_U, Dl.ok_nil, Dl.ok_cons, Dl.ok_N, Dl.ok_aN, Dl.ok_call, Dl.ok_nl, Dl.ok_fl, Dl.ok_afl, Dl.ok_T, Dl.ok_qNot, Dl.ok_qAnd, Dl.ok_qOr, Dl.ok_and, Dl.ok_or, Dl.ok_not, Dl.ok_if, Dl.ok_Sl, Dl.ok_oNo, Dl.ok_oOf, Dl.ok_Ch, Dl.ok_it, Dl.ok_itA, Dl.ok_yes, Dl.v_addI, Dl.v_sub, Dl.v_neg, Dl.v_eqI, Dl.v_eqS, Dl.v_eqB, Dl.v_eq0, Dl.v_eqT0, Dl.v_neI, Dl.v_neS, Dl.v_neB, Dl.v_ne0, Dl.v_neT0, Dl.v_ltI, Dl.v_leI, Dl.v_gtI, Dl.v_geI, Dl.v_is, Dl.v_isNot, Dl.v_nn, Dl.v_ns, Dl.v_ni, Dl.v_nl, Dl.v_nt, Dl.v_tb, Dl.v_tl, Dl.v_tt, Dl.v_tn, Dl.v_ti, Dl.v_asB, Dl.v_asI, Dl.v_asL, Dl.v_asT, Dl.v_asS, Dl.v_lenL, Dl.v_lenT, Dl.v_tupL, Dl.v_tupT, Dl.v_listL, Dl.v_listT, Dl.v_intB, Dl.v_tup0, Dl.v_tup1, Dl.v_tup2, Dl.v_tup3, Dl.v_tup4, Dl.v_tup5, Dl.v_lst0, Dl.v_lst1, Dl.v_lst2, Dl.v_lst3, Dl.v_lst4, Dl.v_lst5, Dl.v_ok0, Dl.v_ok1, Dl.v_ok2, Dl.v_ix0L, Dl.v_ix0, Dl.v_ix1, Dl.v_ix2, Dl.v_ix3, Dl.v_fs, Dl.v_fi, Dl.v_fb, Dl.v_fn, Dl.v_ft, Dl.v_f0, Dl.v_fc, Dl.startR, List.map_cons, List.map_nil, List.length_cons, List.length_nil, List.replicate, List.cons_append, List.nil_append, List.set_cons_zero, List.set_cons_succ, Option.some.injEq, exists_eq_left', Nat.reduceAdd, Nat.reduceSub, Nat.sub_zero, Nat.sub_self, Nat.zero_add, Nat.reduceEqDiff, Bool.not_true, Bool.not_false, if_true, if_false, Bool.and_self, Bool.true_and, Bool.and_true, Bool.false_eq_true, ↓reduceIte, true_and, and_true, decide_true, decide_false, Dl.wipeR, $xs,*])
set_option Elab.async false
set_option linter.all false
set_option maxRecDepth 100000
set_option maxHeartbeats 4000000
namespace Lw41
open PySem PySem.Spec PyProof.Rows L2 Dl
-- sum_of: slots totals 0, times 1, number 2, parts 3, more 4, kind 5, often 6; cells times
def B_sum_of {S : Type} : Sv (S × KV) :=
    (sSeq (sSet 2 (cK (.int 0)))
    (sSeq (sFor (iOf asT (cVar 0)) (gTp (gC (gNm 3) (gC (gNm 4) gN0)))
    (sSeq (sAug 2 (pI0 fun i j => .int (i + j)) (cVar 4))
      (sFor (iOf asT (cVar 3)) (gTp (gC (gNm 5) (gC (gNm 6) gN0)))
      (sDp 1 (cVar 5) (cB pAdd (cDg2 1 (cVar 5) (cK (.int 0))) (cVar 6))))))
    (sRet (cN pTup (aCons (cN pTuple (aCons (cNl (lcF (iOf asL (cNl (aSd 1))) (gNm 5) qYes (cN pTup (aCons (cVar 5) (aCons (cDi 1 (cVar 5)) aNil))) [5])) aNil)) (aCons (cVar 2) aNil))))))
def K_sum_of {S : Type} : Fn S := fnDk 7 1 B_sum_of

-- _law_word: slots _law_deck_here 0, _law_least 1, _law_most 2, _law_letters 3, _law_word_here 4, _law_k 5
def B_w_word {S : Type} (F_w_draw : Fn S) : Sv S :=
    (sSeq (sSet 3 (cK (.str "abcdefghijklmnopqrstuvwxyz")))
    (sSeq (sSet 4 (cK (.str "")))
    (sSeq (sFor (iOfA pR1 (aCons (cB pAdd (cVar 1) (cCall 2 F_w_draw (aCons (cVar 0) (aCons (cB pAdd (cB pSub (cVar 2) (cVar 1)) (cK (.int 1))) aNil)))) aNil)) (gNm 5)
    (sSet 4 (cB pAdd (cVar 4) (cB pIx (cVar 3) (cCall 2 F_w_draw (aCons (cVar 0) (aCons (cK (.int 26)) aNil)))))))
    (sRet (cVar 4)))))
def K_w_word {S : Type} (F_w_draw : Fn S) : Fn S := fnD 6 (B_w_word F_w_draw)

-- _law_kinds: slots _law_deck_here 0, _law_many 1, _law_taken 2, _law_kinds_here 3, _law_k 4, _law_word_here 5, _law_way 6, _law_at 7, _law_one 8, _law_sign 9; cells _law_kinds_here; own [3]
def B_w_kinds {S : Type} (F_w_word : Fn S) (F_w_draw : Fn S) : Sv S :=
    (sSeq (sSet 2 (cK (.str "absurd all an and any are as at be by false if is least many more no not only or same some than")))
    (sSeq (sSet 2 (cNl (aSplit (cB pAdd (cVar 2) (cK (.str " the then there every either unless"))) (cK (.str " ")))))
    (sSeq (sOwn 3 (aN lenOk aNil))
    (sSeq (sFor (iOfA pR1 (aCons (cVar 1) aNil)) (gNm 4)
    (sSeq (sSet 5 (cCall 3 F_w_word (aCons (cVar 0) (aCons (cK (.int 2)) (aCons (cK (.int 8)) aNil)))))
      (sSeq (sSet 6 (cCall 2 F_w_draw (aCons (cVar 0) (aCons (cK (.int 3)) aNil))))
      (sSeq (sIf (qAnd (qT (cB pEq (cVar 6) (cK (.int 1)))) (qT (cB pNe (cVar 3) (cN pLst aNil))))
      (sSet 5 (cFl (cSl pSl (cB pAdd (cB pIx (cVar 3) (cK (.int 0))) (cVar 5)) oNo (oOf (cK (.int 8))))))
      sNx)
      (sSeq (sIf (qAnd (qT (cB pEq (cVar 6) (cK (.int 2)))) (qT (cB pNe (cVar 3) (cN pLst aNil))))
      (sSeq (sSet 7 (cFl (cCall 2 F_w_draw (aCons (cVar 0) (aCons (cN pLen (aCons (cB pIx (cVar 3) (cK (.int 0))) aNil)) aNil)))))
        (sSet 5 (cFl (cB pAdd (cB pAdd (cSl pSl (cB pIx (cVar 3) (cK (.int 0))) oNo (oOf (cVar 7))) (cB pIx (cVar 5) (cK (.int 0)))) (cSl pSl (cB pIx (cVar 3) (cK (.int 0))) (oOf (cB pAdd (cVar 7) (cK (.int 1)))) oNo)))))
      sNx)
      (sSeq (sIf (qOr (qT (cB pIn (cVar 5) (cVar 2))) (qT (cB pIn (cVar 5) (cVar 3))))
      (sSet 5 (cFl (cB pIx (cNl (lcF (iOf asL (cNl (lcF (iOf asS (cK (.str "abcdefghijklmnopqrst"))) (gNm 9) qYes (cB pAdd (cK (.str "q")) (cVar 9)) [9]))) (gNm 8) (qT (cB pNotIn (cVar 8) (cVar 3))) (cVar 8) [8])) (cK (.int 0)))))
      sNx)
      (sApp 3 (cVar 5))))))))
    (sRet (cVar 3))))))
def K_w_kinds {S : Type} (F_w_word : Fn S) (F_w_draw : Fn S) : Fn S := fnD 10 (B_w_kinds F_w_word F_w_draw)

-- _law_times: slots _law_deck_here 0
def B_w_sum {S : Type} (F_w_draw : Fn S) (F_w_times : Fn S) : Sv S :=
    (sSeq (sOwn 2 (aN lenOk aNil))
    (sSeq (sFor (iOf asL (cNl (aN pSorted (aCons (cVar 1) aNil)))) (gNm 3)
    (sIf (qT (cB pEq (cCall 2 F_w_draw (aCons (cVar 0) (aCons (cK (.int 2)) aNil))) (cK (.int 1))))
      (sApp 2 (cN pTup (aCons (cVar 3) (aCons (cCall 1 F_w_times (aCons (cVar 0) aNil)) aNil))))
      sNx))
    (sRet (cN pTup (aCons (cN pTuple (aCons (cVar 2) aNil)) (aCons (cCall 2 F_w_draw (aCons (cVar 0) (aCons (cB pIx (cN pLst (aCons (cK (.int 4)) (aCons (cB pPow (cK (.int 10)) (cK (.int 8))) aNil))) (cCall 2 F_w_draw (aCons (cVar 0) (aCons (cK (.int 2)) aNil)))) aNil))) aNil))))))
def K_w_sum {S : Type} (F_w_draw : Fn S) (F_w_times : Fn S) : Fn S := fnD 4 (B_w_sum F_w_draw F_w_times)

-- _law_whole: slots _law_found 0
def B_w_of {S : Type}  : Sv S :=
    (sRet (cN pSum (aCons (cNl (lcF (iOf asT (cB pIx (cVar 0) (cK (.int 0)))) (gTp (gC (gNm 2) (gC (gNm 3) gN0))) (qT (cB pEq (cVar 2) (cVar 1))) (cVar 3) [2, 3])) aNil)))
def K_w_of {S : Type}  : Fn S := fnD 4 (B_w_of )

-- _law_right: slots _law_found 0, _law_totals 1, _law_kinds_here 2, _law_kind 3, _law_total 4, _law_part 5; cells _law_kind, _law_kinds_here
end Lw41
set_option Elab.async false
set_option linter.all false
set_option maxRecDepth 100000
set_option maxHeartbeats 4000000
/-! zip of a text and a tuple -/
namespace Dl
open PySem PySem.Spec PyProof.Rows L2
section
variable {S : Type} {X : Cx} {G : Kx} {Z : Zk S} {W : List Nat} {fa : Ea S} {e e2 : Expr} {p pos : Pos}
end
end Dl
set_option Elab.async false
set_option linter.all false
set_option maxRecDepth 100000
set_option maxHeartbeats 4000000
namespace Lc
open PySem PySem.W PySem.Calls PyProof.Rows PyProof.V PySem.Spec L2 RT
/-! ### list(reversed(x)), x a list: a new list -/
section
variable {prog : Program} {w : World} {A : Around} {E : Value → Shared → Prop} {s : Shared}
end
section
variable {X : Cx}
end
end Lc
set_option Elab.async false
set_option linter.all false
set_option maxRecDepth 100000
set_option maxHeartbeats 4000000
/-! the deck of the laws of words and forms: cells taken from the end -/
namespace Dl
open PySem PySem.Spec PyProof.Rows L2
end Dl
set_option Elab.async false
set_option linter.all false
set_option maxRecDepth 100000
set_option maxHeartbeats 4000000
namespace Lw01
open PySem PySem.Spec PyProof.Rows L2 Dl
def barW : List Str := ["absurd", "all", "an", "and", "any", "are", "as", "at", "be", "by", "false", "if", "is", "least", "many", "more", "no", "not", "only", "or", "same", "some", "than", "the", "then", "there", "every", "either", "unless"]
def B_w_names {S : Type} (F_w_take : Fn S) (F_w_tail : Fn S) : Sv S :=
    (sSeq (sSet 2 (cK (.str "ABCDEFGHIJKLMNOPQRSTUVWXYZ")))
    (sSeq (sSet 3 (cCall 2 F_w_take (aCons (cVar 0) (aCons (cK (.int 26)) aNil))))
    (sSeq (sIf (qT (cB pEq (cCall 2 F_w_take (aCons (cVar 0) (aCons (cK (.int 3)) aNil))) (cK (.int 0))))
    (sSeq (sSet 4 (cB pAdd (cB pIx (cVar 2) (cVar 3)) (cCall 2 F_w_tail (aCons (cVar 0) (aCons (cK (.int 7)) aNil)))))
      (sRet (cNl (lcF (iOfA pR1 (aCons (cVar 1) aNil)) (gNm 5) qYes (cSl pSl (cVar 4) oNo (oOf (cB pAdd (cK (.int 1)) (cVar 5)))) [5]))))
    sNx)
    (sRet (cNl (lcF (iOfA pR1 (aCons (cVar 1) aNil)) (gNm 5) qYes (cB pAdd (cB pIx (cVar 2) (cB pMod (cB pAdd (cVar 3) (cVar 5)) (cK (.int 26)))) (cCall 2 F_w_tail (aCons (cVar 0) (aCons (cCall 2 F_w_take (aCons (cVar 0) (aCons (cK (.int 8)) aNil))) aNil)))) [5]))))))
def K_w_names {S : Type} (F_w_take : Fn S) (F_w_tail : Fn S) : Fn S := fnD 6 (B_w_names F_w_take F_w_tail)

-- _law_words: slots _law_deck_here 0, _law_many 1, _law_small 2, _law_first 3, _law_word 4, _law_found 5, _law_k 6; cells _law_word; own [5]
end Lw01
set_option Elab.async false
set_option linter.all false
set_option maxRecDepth 100000
set_option maxHeartbeats 4000000
namespace Dl
open PySem PySem.Spec L2
section
variable {S : Type} {t : Tg} {q : Et S} {f : Ev S} {ρ : Rho} {s : S}
end
end Dl
set_option Elab.async false
set_option linter.all false
set_option maxRecDepth 100000
set_option maxHeartbeats 1000000
/-! small facts for the mathematics of a law -/
namespace Mx
open PySem PySem.Spec L2 Dl
theorem szL {n : Nat} (h : n ≤ 100000) : n ≤ sizeLine := Nat.le_trans h (by decide)
theorem szl {n : Nat} (h : n < 100000) : n < sizeLine := Nat.lt_of_lt_of_le h (by decide)
theorem rng_len (lo : Int) (n : Nat) : (rngD lo n).length = n := by simp [rngD]
theorem rng_get {n j : Nat} {lo : Int} {d : D} (h : (rngD lo n)[j]? = some d) : j < n ∧ d = .int (lo + j) := by
  unfold rngD at h
  rw [List.getElem?_map] at h
  by_cases hj : j < n
  · rw [List.getElem?_range hj] at h
    cases h
    exact ⟨hj, rfl⟩
  · rw [List.getElem?_eq_none (by simpa using hj)] at h
    cases h
theorem pr1 {j : Int} (h : -(2 ^ 62) ≤ j) (h2 : j < 2 ^ 62) : pR1 [.int j] = some (rngD 0 j.toNat) := by simp only [pR1]; rw [if_pos ⟨h, h2⟩]
section
variable {S : Type} {s : S}
theorem ok_eq {o : Option (D × S)} {d : D} (h : Ok o fun a b => a = d ∧ b = s) : o = some (d, s) := by
  obtain ⟨a, b, e, rfl, rfl⟩ := h
  exact e
theorem ok_eqL {o : Option (List D × S)} {d : List D} (h : Ok o fun a b => a = d ∧ b = s) : o = some (d, s) := by
  obtain ⟨a, b, e, rfl, rfl⟩ := h
  exact e
theorem ok_eqB {o : Option (Bool × S)} {d : Bool} (h : Ok o fun a b => a = d ∧ b = s) : o = some (d, s) := by
  obtain ⟨a, b, e, rfl, rfl⟩ := h
  exact e
end
theorem k_keep {S : Type} {ds : List D} {q : Et S} {f : Ev S} {fi : Ea S} {t : Tg} {vs : List Nat} {ρ : Rho} {s : S} (c : D → Bool) (g : D → D) (hl : ds.length ≤ sizeLine) (hi : fi ρ s = some (ds, s))
    (hq : ∀ d ∈ ds, ∃ ρ1, t d (wipeR ρ vs) = some ρ1 ∧ q ρ1 s = some (c d, s) ∧ (c d = true → f ρ1 s = some (g d, s))) : lcF fi t q f vs ρ s = some ((ds.filter c).map g, s) := by
  unfold lcF
  rw [hi]
  show (if ds.length ≤ sizeLine then compF t q f (wipeR ρ vs) ds s else none) = _
  rw [if_pos hl]
  clear hl hi
  induction ds with
  | nil => rfl
  | cons d ds ih =>
    obtain ⟨ρ1, h1, h2, h3⟩ := hq d List.mem_cons_self
    have ih := ih fun x hx => hq x (List.mem_cons_of_mem _ hx)
    unfold compF
    rw [h1]
    show bnd (q ρ1 s) _ = _
    rw [h2]
    cases hc : c d with
    | false =>
      rw [List.filter_cons_of_neg (by rw [hc]; decide)]
      exact ih
    | true =>
      rw [List.filter_cons_of_pos hc, List.map_cons]
      show bnd (f ρ1 s) _ = _
      rw [h3 hc]
      show bnd (compF t q f (wipeR ρ vs) ds s) _ = _
      rw [ih]
      rfl
theorem mem_strs (w : Str) (ns : List Str) : memD (.str w) (ns.map .str) = some (decide (w ∈ ns)) := by
  unfold memD
  rw [if_pos ⟨rfl, by rw [List.all_map]; exact List.all_eq_true.mpr fun _ _ => rfl⟩]
  congr 1
  rw [List.any_map, Bool.eq_iff_iff, List.any_eq_true, decide_eq_true_eq]
  constructor
  · rintro ⟨x, hx, e⟩
    have e : decide (x = w) = true := e
    rw [← of_decide_eq_true e]
    exact hx
  · intro h
    exact ⟨w, h, decide_eq_true rfl⟩
theorem in_strs (w : Str) (ns : List Str) : pIn (.str w) (.tuple (ns.map .str)) = some (.bool (decide (w ∈ ns))) := by
  simp only [pIn, inD, mem_strs, Option.map_some]
theorem in_strsL (w : Str) (ns : List Str) : pIn (.str w) (.list (ns.map .str)) = some (.bool (decide (w ∈ ns))) := by
  simp only [pIn, inD, mem_strs, Option.map_some]
theorem notIn_strsL (w : Str) (ns : List Str) : pNotIn (.str w) (.list (ns.map .str)) = some (.bool (!decide (w ∈ ns))) := by
  simp only [pNotIn, inD, mem_strs, Option.map_some]
theorem cps_inj {a b : Str} (h : a.cps = b.cps) : a = b := by
  cases a
  cases b
  cases h
  rfl
theorem cpl_inj {a b : Str} (h : a.cps.toList = b.cps.toList) : a = b := cps_inj (Array.toList_inj.mp h)
theorem v_slS {z : Str} {lo hi : Option Int} (h : z.length ≤ sizeLine) : pSl (.str z) lo hi = some (.str (cutS z lo hi)) := by simp only [pSl]; rw [if_pos h]
theorem lay_strs : ∀ ns : List Str, (∀ n ∈ ns, PyData.strOk n = true) → PyData.canLayAll0 (ns.map .str) = true
  | [], _ => by simp [PyData.canLayAll0]
  | n :: ns, h => by simp [PyData.canLayAll0, PyData.canLay0, lay_strs ns (fun x hx => h x (List.mem_cons_of_mem _ hx)), h n List.mem_cons_self]
theorem dep_strs : ∀ ns : List Str, PyData.depthAll (ns.map .str) = 0
  | [] => by simp [PyData.depthAll]
  | n :: ns => by simp [PyData.depthAll, PyData.depth, dep_strs ns]
end Mx
set_option Elab.async false
set_option linter.all false
set_option maxRecDepth 100000
set_option maxHeartbeats 1000000
namespace Lw01
open PySem PySem.Spec L2 Dl Mx Ds
section
variable {S : Type} {s : S}
/-! ### the program's functions, as equations -/
def inAll (l : List Nat) (b : Str) : Bool := l.all fun c => decide (c ∈ b.cps.toList)
def sgD (c : Nat) : D := .str ⟨#[c]⟩
def smallB (lo hi : Int) : D → Bool
  | .str z => decide (lo ≤ (z.length : Int)) && (decide ((z.length : Int) ≤ hi) && inAll z.cps.toList "abcdefghijklmnopqrstuvwxyz")
  | _ => false
def nameL : List Nat → Bool
  | [] => false
  | c :: r => decide (c ∈ (Str.ofString "ABCDEFGHIJKLMNOPQRSTUVWXYZ").cps.toList) && (decide (r.length ≤ 7) && inAll r "abcdefghijklmnopqrstuvwxyz")
def nameB : D → Bool
  | .str z => nameL z.cps.toList
  | _ => false
def kindB : D → Bool
  | .str z => smallB 2 8 (.str z) && !decide (z ∈ barW)
  | _ => false
/-! rows -/
def txt : D → Str
  | .str z => z
  | _ => Str.empty
def ltS (a b : Str) : Bool := decide (a.cps.toList < b.cps.toList)
def risS : List Str → Bool
  | a :: b :: r => ltS a b && risS (b :: r)
  | _ => true
theorem strs_of {p : D → Bool} (hp : ∀ d, p d = true → d = .str (txt d)) {ds : List D} (h : ds.all p = true) : ds = (ds.map txt).map .str := by
  induction ds with
  | nil => rfl
  | cons d ds ih =>
    rw [List.all_cons, Bool.and_eq_true] at h
    rw [List.map_cons, List.map_cons, ← hp d h.1, ← ih h.2]
theorem dStrs_map : ∀ xs : List Str, dStrs (xs.map .str) = some xs
  | [] => rfl
  | x :: xs => by simp [dStrs, dStrs_map xs]
end
end Lw01
set_option Elab.async false
set_option linter.all false
set_option maxRecDepth 100000
set_option maxHeartbeats 1000000
namespace Lw01
open PySem PySem.Spec L2 Dl Mx Ds
/-! ### rising rows -/
theorem ltS_ne {a b : Str} (h : ltS a b = true) : a ≠ b := fun e => by
  subst e
  exact List.lt_irrefl _ (of_decide_eq_true h)
theorem lt_of_le {a b : Str} (h : leS a b = true) (n : a ≠ b) : ltS a b = true := by
  cases e : ltS a b with
  | true => rfl
  | false =>
    have : leS b a = true := by
      unfold leS
      unfold ltS at e
      rw [e]
      rfl
    exact absurd (leS_anti h this) n
theorem pw_le_lt {xs : List Str} (h : xs.Pairwise fun a b => leS a b = true) (nd : xs.Nodup) : xs.Pairwise fun a b => ltS a b = true := by
  induction xs with
  | nil => exact List.Pairwise.nil
  | cons a xs ih =>
    obtain ⟨h1, h2⟩ := List.pairwise_cons.mp h
    obtain ⟨n1, n2⟩ := List.nodup_cons.mp nd
    exact List.pairwise_cons.mpr ⟨fun b hb => lt_of_le (h1 b hb) fun e => n1 (e ▸ hb), ih h2 n2⟩
theorem pw_nd {xs : List Str} (h : xs.Pairwise fun a b => ltS a b = true) : xs.Nodup := h.imp fun h => ltS_ne h
/-! ### what the law looks at -/
section
variable {S : Type} {s : S}
/-! the law's own looking -/
theorem cp_ok {c : Nat} {b : Str} (hb : PyData.strOk b = true) (h : c ∈ b.cps.toList) : c < 0x110000 := by
  unfold PyData.strOk at hb
  rw [← Array.all_toList, List.all_eq_true] at hb
  exact of_decide_eq_true (hb c h)
theorem in_ok {l : List Nat} {b : Str} (hb : PyData.strOk b = true) (h : inAll l b = true) : ∀ c ∈ l, c < 0x110000 := fun c hc => cp_ok hb (of_decide_eq_true (List.all_eq_true.mp h c hc))
end
end Lw01
set_option Elab.async false
set_option linter.all false
set_option maxRecDepth 100000
set_option maxHeartbeats 1000000
namespace Lw01
open PySem PySem.Spec L2 Dl Mx Ds
section
variable {S : Type} {s : S}
end
end Lw01
set_option Elab.async false
set_option linter.all false
set_option maxRecDepth 100000
set_option maxHeartbeats 1000000
namespace Lw01
open PySem PySem.Spec L2 Dl Mx Ds
/-! ### what is drawn -/
abbrev smS : Str := Str.ofString "abcdefghijklmnopqrstuvwxyz"
abbrev mk (l : List Nat) : Str := ⟨l.toArray⟩
theorem mk_cps (l : List Nat) : (mk l).cps.toList = l := by simp [mk]
theorem mk_len (l : List Nat) : (mk l).length = l.length := by simp [mk, Str.length]
theorem mk_app (a b : List Nat) : mk a ++ mk b = mk (a ++ b) := TL.ext_tl (TL.tl_append (mk a) (mk b))
theorem ix_at {z : Str} {r : Int} (hz : z.length ≤ sizeLine) (h0 : 0 ≤ r) (h : r < z.length) : ∃ c, c ∈ z.cps.toList ∧ z.cps.toList[r.toNat]? = some c ∧ pIx (.str z) (.int r) = some (.str (mk [c])) := by
  obtain ⟨c, h1, h2, e⟩ := atI_lt (xs := z.cps.toList) h0 (by simpa [Str.length] using h)
  exact ⟨c, h1, h2, by simp only [pIx]; rw [if_pos hz, e]; rfl⟩
theorem sg_strs (cs : List Nat) : dStrs (cs.map sgD) = some (cs.map fun c => mk [c]) := by
  have : cs.map sgD = (cs.map fun c => mk [c]).map PyData.str := by rw [List.map_map]; rfl
  rw [this, dStrs_map]
theorem joinL_sg : ∀ cs : List Nat, TL.joinL [] (cs.map fun c => [c]) = cs
  | [] => rfl
  | [c] => rfl
  | c :: d :: r => by
    have ih := joinL_sg (d :: r)
    show [c] ++ ([] ++ TL.joinL [] ((d :: r).map fun c => [c])) = _
    rw [ih]
    rfl
theorem join_sg (cs : List Nat) : Txt.join (Str.ofString "") (cs.map fun c => mk [c]) = mk cs := by
  rw [TL.join_eq]
  apply cpl_inj
  have h := TL.tl_join (Str.ofString "") (cs.map fun c => mk [c])
  have e0 : TL.tl (Str.ofString "") = [] := rfl
  rw [e0, List.map_map] at h
  have e1 : cs.map (TL.tl ∘ fun c => mk [c]) = cs.map fun c => [c] := rfl
  rw [e1, joinL_sg] at h
  rw [mk_cps]
  exact h
theorem join_eq {cs : List Nat} (h : cs.length ≤ 1000) : pJoin (.str "") (.list (cs.map sgD)) = some (.str (mk cs)) := by
  simp only [pJoin, sg_strs]
  have hs : ((cs.map fun c => mk [c]).map (·.length)).sum = cs.length := by
    rw [List.map_map]
    have : cs.map ((·.length) ∘ fun c => mk [c]) = List.replicate cs.length 1 := by
      apply List.ext_getElem (by simp)
      intro i h1 h2
      simp [mk, Str.length]
    rw [this]
    simp
  have e0 : (Str.ofString "").length = 0 := rfl
  rw [if_pos (by rw [hs, e0]; omega)]
  exact congrArg some (congrArg PyData.str (join_sg cs))
theorem inAll_app {a b : List Nat} {z : Str} : inAll (a ++ b) z = (inAll a z && inAll b z) := by
  unfold inAll
  exact List.all_append
theorem inAll_one {c : Nat} {z : Str} (h : c ∈ z.cps.toList) : inAll [c] z = true := by
  unfold inAll
  rw [List.all_cons, decide_eq_true h]
  rfl
/-! names -/
structure Nms (xs : List Str) (n : Nat) : Prop where
  len : xs.length = n
  nd : xs.Nodup
  nm : ∀ x ∈ xs, nameB (.str x) = true
theorem inAll_take {l : List Nat} {z : Str} (h : inAll l z = true) (n : Nat) : inAll (l.take n) z = true := by
  unfold inAll at *
  rw [List.all_eq_true] at *
  exact fun x hx => h x (List.mem_of_mem_take hx)
theorem cut_to {l : List Nat} (k : Nat) : cutS (mk l) none (some (k : Int)) = mk (l.take k) := by
  apply cpl_inj
  rw [mk_cps]
  unfold cutS
  rw [HT.sIx_none, HT.sIx_nat, mk_len, mk_cps, List.drop_zero, Nat.sub_zero]
  simp only
  by_cases h : k ≤ l.length
  · rw [Nat.min_eq_left h]
  · rw [Nat.min_eq_right (by omega), List.take_length, List.take_of_length_le (by omega)]
theorem nodup_snoc {α : Type} {xs : List α} {a : α} (h : xs.Nodup) (n : a ∉ xs) : (xs ++ [a]).Nodup := by
  rw [List.nodup_append]
  refine ⟨h, by simp, fun x hx y hy => ?_⟩
  rw [List.mem_singleton.mp hy]
  exact fun e => n (e ▸ hx)
end Lw01
set_option Elab.async false
set_option linter.all false
set_option maxRecDepth 100000
set_option maxHeartbeats 1000000
namespace Lw01
open PySem PySem.Spec L2 Dl Mx Ds
structure Wds (xs : List Str) (n : Nat) : Prop where
  len : xs.length = n
  nd : xs.Nodup
  kd : ∀ x ∈ xs, kindB (.str x) = true
end Lw01
set_option Elab.async false
set_option linter.all false
set_option maxRecDepth 100000
set_option maxHeartbeats 1000000
namespace Lw01
open PySem PySem.Spec L2 Dl Mx Ds
structure Voc (n k d : List Str) : Prop where
  nl : n.length ≤ 6
  kl : k.length ≤ 6
  dl : d.length ≤ 9
  nm : ∀ x ∈ n, nameB (.str x) = true
  kd : ∀ x ∈ k, kindB (.str x) = true
  dd : ∀ x ∈ d, kindB (.str x) = true
  nr : risS n = true
  kr : risS k = true
  dr : risS d = true
  ds : ∀ x ∈ k, x ∉ d
theorem v_sorted {xs : List Str} (h : xs.length < 64) : pSorted [.list (xs.map .str)] = some ((sortS xs).map .str) := by
  unfold pSorted
  simp only
  rw [dStrs_map]
  simp only
  rw [if_pos h]
end Lw01
set_option Elab.async false
set_option linter.all false
set_option maxRecDepth 100000
set_option maxHeartbeats 1000000
/-! sums of kinds and times: what a dict holds after them, and in which form they are told -/
namespace Lw41
open PySem PySem.Spec L2 Dl Mx Ds Lw01
abbrev Pt := Str × Int
abbrev Tot := List Pt × Int
def ptD (p : Pt) : D := .tuple [.str p.1, .int p.2]
def totD (t : Tot) : D := .tuple [.tuple (t.1.map ptD), .int t.2]
def add (m : KV) (p : Pt) : KV := kvPut m p.1 ((kvGet m p.1).getD 0 + p.2)
def cntP (ps : List Pt) (k : Str) : Int := ((ps.filter fun p => decide (p.1 = k)).map (·.2)).sum
def sumT (ps : List Pt) (n : Int) : Tot := ((sortS (gath (ps.map (·.1)))).map fun k => (k, cntP ps k), n)
def sumOf (ts : List Tot) : Tot := sumT (ts.flatMap (·.1)) ((ts.map (·.2)).sum)
theorem sort_cg {a b : List Str} (h : a.Perm b) : sortS a = sortS b := pw_unique (le := leS) (fun a b => leS_anti) (((sortS_perm a).trans h).trans (sortS_perm b).symm) (sortS_pw a) (sortS_pw b)
theorem sort_set {a b : List Str} (ha : a.Nodup) (hb : b.Nodup) (h : ∀ x, x ∈ a ↔ x ∈ b) : sortS a = sortS b := sort_cg (perm_nd a b ha hb h)
theorem sort_mem {a : List Str} {x : Str} : x ∈ sortS a ↔ x ∈ a := (sortS_perm a).mem_iff
theorem sort_nd {a : List Str} (h : a.Nodup) : (sortS a).Nodup := (sortS_perm a).nodup_iff.mpr h
theorem get_cons (a : Str) (n : Int) (m : KV) (k : Str) : kvGet ((a, n) :: m) k = if a = k then some n else kvGet m k := by
  unfold kvGet
  by_cases e : a = k
  · simp [e]
  · simp [e]
theorem get_none : ∀ (m : KV) (k : Str), k ∉ m.map (·.1) → kvGet m k = none
  | [], k, _ => rfl
  | (a, n) :: m, k, h => by
    rw [get_cons, if_neg (fun e => h (by simp [e])), get_none m k fun z => h (by simp [z])]
theorem get_some : ∀ (m : KV) (k : Str), k ∈ m.map (·.1) → ∃ n, kvGet m k = some n
  | [], k, h => by simp at h
  | (a, n) :: m, k, h => by
    rw [get_cons]
    by_cases e : a = k
    · exact ⟨n, if_pos e⟩
    · rw [if_neg e]
      refine get_some m k ?_
      rcases List.mem_cons.mp (by simpa using h : k ∈ a :: m.map (·.1)) with z | z
      · exact (e z.symm).elim
      · exact z
theorem any_key (m : KV) (a : Str) : (m.any fun p => decide (p.1 = a)) = decide (a ∈ m.map (·.1)) := by
  rw [Bool.eq_iff_iff, List.any_eq_true, decide_eq_true_eq, List.mem_map]
  constructor
  · rintro ⟨p, h1, h2⟩
    exact ⟨p, h1, of_decide_eq_true h2⟩
  · rintro ⟨p, h1, h2⟩
    exact ⟨p, h1, decide_eq_true h2⟩
theorem get_mapP (a : Str) (v : Int) (k : Str) : ∀ m : KV, a ∈ m.map (·.1) → kvGet (m.map fun p => if p.1 = a then (p.1, v) else p) k = if a = k then some v else kvGet m k
  | [], h => by simp at h
  | (b, n) :: m, h => by
    rw [List.map_cons]
    by_cases e : b = a
    · subst e
      simp only [if_true]
      rw [get_cons, get_cons]
      by_cases e2 : b = k
      · rw [if_pos e2, if_pos e2]
      · rw [if_neg e2, if_neg e2, if_neg e2]
        by_cases hm : b ∈ m.map (·.1)
        · rw [get_mapP b v k m hm, if_neg e2]
        · congr 1
          refine (List.map_congr_left fun p hp => ?_).trans (List.map_id' m)
          exact if_neg fun z => hm (List.mem_map.mpr ⟨p, hp, z⟩)
    · simp only [e, if_false]
      rw [get_cons, get_cons]
      have hm : a ∈ m.map (·.1) := by
        rcases List.mem_cons.mp (by simpa using h : a ∈ b :: m.map (·.1)) with z | z
        · exact (e z.symm).elim
        · exact z
      rw [get_mapP a v k m hm]
      by_cases e2 : b = k
      · subst e2
        rw [if_pos rfl, if_neg (fun z => e z.symm)]
        simp
      · rw [if_neg e2, if_neg e2]
theorem get_snoc (a : Str) (v : Int) (k : Str) : ∀ m : KV, a ∉ m.map (·.1) → kvGet (m ++ [(a, v)]) k = if a = k then some v else kvGet m k
  | [], _ => by rw [List.nil_append, get_cons]
  | (b, n) :: m, h => by
    rw [List.cons_append, get_cons, get_cons, get_snoc a v k m fun z => h (by simp [z])]
    by_cases e2 : b = k
    · subst e2
      rw [if_pos rfl, if_neg (fun z => h (by simp [z]))]
      simp
    · rw [if_neg e2, if_neg e2]
theorem get_put (m : KV) (a k : Str) (v : Int) : kvGet (kvPut m a v) k = if a = k then some v else kvGet m k := by
  unfold kvPut
  rw [any_key]
  by_cases h : a ∈ m.map (·.1)
  · rw [decide_eq_true h, if_pos rfl, get_mapP a v k m h]
  · rw [decide_eq_false h, if_neg (by decide), get_snoc a v k m h]
theorem keys_put (m : KV) (a : Str) (v : Int) : (kvPut m a v).map (·.1) = if a ∈ m.map (·.1) then m.map (·.1) else m.map (·.1) ++ [a] := by
  unfold kvPut
  rw [any_key]
  by_cases h : a ∈ m.map (·.1)
  · rw [decide_eq_true h, if_pos rfl, if_pos h, List.map_map]
    refine List.map_congr_left fun p _ => ?_
    show (if p.1 = a then (p.1, v) else p).1 = p.1
    split <;> rfl
  · rw [decide_eq_false h, if_neg (by decide), if_neg h, List.map_append]
    rfl
theorem cnt_cons (p : Pt) (ps : List Pt) (k : Str) : cntP (p :: ps) k = (if p.1 = k then p.2 else 0) + cntP ps k := by
  unfold cntP
  by_cases e : p.1 = k
  · simp [e]
  · simp [e]
theorem cnt_app (a b : List Pt) (k : Str) : cntP (a ++ b) k = cntP a k + cntP b k := by
  induction a with
  | nil => simp [cntP]
  | cons p a ih => rw [List.cons_append, cnt_cons, cnt_cons, ih]; omega
theorem cnt_not {ps : List Pt} {k : Str} (h : k ∉ ps.map (·.1)) : cntP ps k = 0 := by
  induction ps with
  | nil => rfl
  | cons p ps ih =>
    rw [cnt_cons, if_neg (fun e => h (by simp [e])), ih fun z => h (by simp [z])]
    rfl
structure Had (m : KV) (ps : List Pt) : Prop where
  nd : (m.map (·.1)).Nodup
  mem : ∀ k, k ∈ m.map (·.1) ↔ k ∈ ps.map (·.1)
  get : ∀ k, (kvGet m k).getD 0 = cntP ps k
  len : m.length ≤ ps.length
theorem Had.nil : Had [] [] := ⟨List.nodup_nil, fun k => by simp, fun k => rfl, Nat.le_refl _⟩
theorem Had.add {m : KV} {ps : List Pt} (h : Had m ps) (p : Pt) : Had (add m p) (ps ++ [p]) := by
  have e : (Lw41.add m p).map (·.1) = if p.1 ∈ m.map (·.1) then m.map (·.1) else m.map (·.1) ++ [p.1] := keys_put _ _ _
  refine ⟨?_, fun k => ?_, fun k => ?_, ?_⟩
  · rw [e]
    split
    · exact h.nd
    · exact nodup_snoc h.nd (by assumption)
  · rw [e, List.map_append, List.mem_append]
    split
    · rename_i hp
      rw [h.mem k]
      constructor
      · exact .inl
      · rintro (z | z)
        · exact z
        · have z : k = p.1 := by simpa using z
          rw [z]
          exact (h.mem _).mp hp
    · rw [List.mem_append, h.mem k]
      simp
  · rw [cnt_app]
    unfold Lw41.add
    rw [get_put, cnt_cons, ← h.get k]
    by_cases e : p.1 = k
    · subst e
      rw [if_pos rfl, if_pos rfl]
      show _ + p.2 = _ + (p.2 + 0)
      omega
    · rw [if_neg e, if_neg e]
      show _ = _ + ((0 : Int) + 0)
      omega
  · have l := congrArg List.length e
    rw [List.length_map] at l
    have h0 := h.len
    rw [l, List.length_append]
    split
    · rw [List.length_map]
      omega
    · rw [List.length_append, List.length_map]
      show _ + 1 ≤ _ + 1
      omega
theorem Had.all {m : KV} {ps : List Pt} (h : Had m ps) (qs : List Pt) : Had (qs.foldl Lw41.add m) (ps ++ qs) := by
  induction qs generalizing m ps with
  | nil => rw [List.append_nil]; exact h
  | cons q qs ih =>
    have := ih (h.add q)
    rw [List.append_assoc] at this
    exact this
theorem Had.one {m : KV} {ps : List Pt} (h : Had m ps) {k : Str} (hk : k ∈ m.map (·.1)) : kvGet m k = some (cntP ps k) := by
  obtain ⟨n, e⟩ := get_some m k hk
  have := h.get k
  rw [e] at this ⊢
  exact congrArg some this
theorem Had.keys {m : KV} {ps : List Pt} (h : Had m ps) : sortS (m.map (·.1)) = sortS (gath (ps.map (·.1))) := sort_set h.nd (gath_nd _) fun x => by rw [h.mem x, gath_mem]
/-! ### the form of a sum -/
def Canon (t : Tot) : Prop := (t.1.map (·.1)).Pairwise fun a b => ltS a b = true
theorem sumT_fst (ps : List Pt) (n : Int) : (sumT ps n).1.map (·.1) = sortS (gath (ps.map (·.1))) := by
  unfold sumT
  rw [List.map_map]
  exact List.map_id' _
theorem sumT_canon (ps : List Pt) (n : Int) : Canon (sumT ps n) := by
  unfold Canon
  rw [sumT_fst]
  exact pw_le_lt (sortS_pw _) (sort_nd (gath_nd _))
theorem cnt_nd : ∀ {ps : List Pt}, (ps.map (·.1)).Nodup → ∀ p ∈ ps, cntP ps p.1 = p.2
  | q :: ps, nd, p, hp => by
    rw [List.map_cons, List.nodup_cons] at nd
    rw [cnt_cons]
    rcases List.mem_cons.mp hp with rfl | h
    · rw [if_pos rfl, cnt_not nd.1]
      omega
    · rw [if_neg (fun e => nd.1 (by rw [e]; exact List.mem_map.mpr ⟨p, h, rfl⟩)), cnt_nd nd.2 p h]
      omega
theorem sumT_cnt (ps : List Pt) (n : Int) (k : Str) : cntP (sumT ps n).1 k = cntP ps k := by
  by_cases h : k ∈ ps.map (·.1)
  · have hc := sumT_canon ps n
    have nd : ((sumT ps n).1.map (·.1)).Nodup := pw_nd hc
    have hm : (k, cntP ps k) ∈ (sumT ps n).1 := List.mem_map.mpr ⟨k, sort_mem.mpr (gath_mem.mpr h), rfl⟩
    exact cnt_nd nd _ hm
  · rw [cnt_not h, cnt_not]
    rw [sumT_fst, sort_mem, gath_mem]
    exact h
theorem sumT_mem (ps : List Pt) (n : Int) (k : Str) : k ∈ (sumT ps n).1.map (·.1) ↔ k ∈ ps.map (·.1) := by rw [sumT_fst, sort_mem, gath_mem]
theorem flat_cnt : ∀ (ts : List Tot) (k : Str), cntP (ts.flatMap (·.1)) k = (ts.map fun t => cntP t.1 k).sum
  | [], k => rfl
  | t :: ts, k => by
    rw [List.flatMap_cons, cnt_app, flat_cnt ts k]
    rfl
end Lw41
set_option Elab.async false
set_option linter.all false
set_option maxRecDepth 100000
set_option maxHeartbeats 1000000
namespace Lw41
open PySem PySem.Spec L2 Dl Mx Ds Lw01
theorem k_fnDk {S : Type} {n i : Nat} {F : Sv (S × KV)} {ds : List D} {s : S} {Q : D → S → Prop} (hn : noHs ds = true) (h : Ok (F ((startR n ds).set i (some (hnd 1))) (s, [])) fun r s' => ∃ d, r = .rt d ∧ noH d = true ∧ Q d s'.1) : Ok (fnDk n i F ds s) Q := by
  obtain ⟨r, s', e, d, rfl, h1, h2⟩ := h
  unfold fnDk
  rw [if_pos hn, e]
  simp only
  rw [if_pos h1]
  exact ⟨_, _, rfl, h2⟩
theorem noH_pts : ∀ ps : List Pt, noHs (ps.map ptD) = true
  | [] => rfl
  | p :: ps => by
    show (noH (ptD p) && noHs (ps.map ptD)) = true
    rw [noH_pts ps]
    rfl
theorem noH_tot (t : Tot) : noH (totD t) = true := by
  show (noHs (t.1.map ptD) && (true && true)) = true
  rw [noH_pts]
  rfl
theorem noH_tots : ∀ ts : List Tot, noHs (ts.map totD) = true
  | [] => rfl
  | t :: ts => by
    show (noH (totD t) && noHs (ts.map totD)) = true
    rw [noH_tot, noH_tots ts]
    rfl
section
variable {S : Type} {s : S}
abbrev stepS : Sv (S × KV) := sDp 1 (cVar 5) (cB pAdd (cDg2 1 (cVar 5) (cK (.int 0))) (cVar 6))
theorem step_eq {a b c d : Option D} {k : Str} {n : Int} {m : KV} (hl : m.length < 1000) : stepS (S := S) [a, some (hnd 1), b, c, d, some (.str k), some (.int n)] (s, m) = some (.nx [a, some (hnd 1), b, c, d, some (.str k), some (.int n)], (s, add m (k, n))) := by
  have h1 : cDg2 (S := S) 1 (cVar 5) (cK (.int 0)) [a, some (hnd 1), b, c, d, some (.str k), some (.int n)] (s, m) = some (.int ((kvGet m k).getD 0), (s, m)) := by
    unfold cDg2
    rw [if_pos (show isH _ 1 = true from rfl)]
    show some ((match kvGet m k with | some n => PyData.int n | none => PyData.int 0), (s, m)) = _
    cases kvGet m k <;> rfl
  have h2 : cB (S := S × KV) pAdd (cDg2 1 (cVar 5) (cK (.int 0))) (cVar 6) [a, some (hnd 1), b, c, d, some (.str k), some (.int n)] (s, m) = some (.int ((kvGet m k).getD 0 + n), (s, m)) := by
    unfold cB
    rw [h1]
    rfl
  unfold stepS sDp
  rw [if_pos (show isH _ 1 = true from rfl), h2]
  show (if m.length < 1000 then _ else none) = _
  rw [if_pos hl]
  rfl
theorem had_take {qs ps : List Pt} {m : KV} (h : Had m qs) (j : Nat) : Had ((ps.take j).foldl add m) (qs ++ ps.take j) := h.all _
theorem take_snoc {α : Type} {l : List α} {j : Nat} {x : α} (h : l[j]? = some x) : l.take (j + 1) = l.take j ++ [x] := by
  rw [List.take_add_one, h]
  rfl
theorem inner_ok {a b : Option D} {d x y : Option D} {ps qs : List Pt} {m : KV} (hm : Had m qs) (hl : qs.length + ps.length < 1000) {Q : Rs → S × KV → Prop} (q : ∀ y5 y6, Q (.nx [a, some (hnd 1), b, some (.tuple (ps.map ptD)), d, y5, y6]) (s, ps.foldl add m)) :
    Ok (sFor (iOf asT (cVar 3)) (gTp (gC (gNm 5) (gC (gNm 6) gN0))) stepS [a, some (hnd 1), b, some (.tuple (ps.map ptD)), d, x, y] (s, m)) Q := by
  refine k_forP (fun ds s' => ds = ps.map ptD ∧ s' = (s, m)) ⟨_, _, rfl, rfl, rfl⟩ ?_
  rintro ds s' ⟨rfl, rfl⟩
  refine ⟨fun j ρ s' => ∃ y5 y6, ρ = [a, some (hnd 1), b, some (.tuple (ps.map ptD)), d, y5, y6] ∧ s' = (s, (ps.take j).foldl add m), ⟨x, y, rfl, rfl⟩, ?_, ?_⟩
  · rintro j dd ρ s' hd ⟨y5, y6, rfl, rfl⟩
    rw [List.getElem?_map, Option.map_eq_some_iff] at hd
    obtain ⟨p, hp, rfl⟩ := hd
    refine ⟨[a, some (hnd 1), b, some (.tuple (ps.map ptD)), d, some (.str p.1), some (.int p.2)], rfl, ?_⟩
    have h := (had_take hm (ps := ps) j).len
    rw [List.length_append, List.length_take] at h
    rw [step_eq (by omega)]
    refine ⟨_, _, rfl, _, _, rfl, ?_⟩
    rw [take_snoc hp, List.foldl_append]
    rfl
  · rintro ρ s' ⟨y5, y6, rfl, rfl⟩
    rw [List.length_map, List.take_length]
    exact q y5 y6
theorem flat_take (ts : List Tot) {j : Nat} {t : Tot} (h : ts[j]? = some t) : (ts.take (j + 1)).flatMap (·.1) = (ts.take j).flatMap (·.1) ++ t.1 := by
  rw [take_snoc h, List.flatMap_append]
  simp
theorem flat_part (ts : List Tot) (j : Nat) : ((ts.take j).flatMap (·.1)).length ≤ (ts.flatMap (·.1)).length := by
  have : ts.flatMap (·.1) = (ts.take j).flatMap (·.1) ++ (ts.drop j).flatMap (·.1) := by rw [← List.flatMap_append, List.take_append_drop]
  rw [this, List.length_append]
  omega
end
end Lw41
set_option Elab.async false
set_option linter.all false
set_option maxRecDepth 100000
set_option maxHeartbeats 1000000
namespace Lw41
open PySem PySem.Spec L2 Dl Mx Ds Lw01
/-! ### what is drawn -/
theorem cut_from {l : List Nat} (k : Nat) : cutS (mk l) (some (k : Int)) none = mk (l.drop k) := by
  apply cpl_inj
  rw [mk_cps]
  unfold cutS
  rw [HT.sIx_none, HT.sIx_nat, mk_len, mk_cps]
  simp only
  by_cases h : k ≤ l.length
  · rw [Nat.min_eq_left h, List.take_of_length_le (by rw [List.length_drop]; exact Nat.le_refl _)]
  · rw [Nat.min_eq_right (by omega), List.drop_of_length_le (Nat.le_refl _), List.take_nil, List.drop_of_length_le (by omega)]
theorem inAll_drop {l : List Nat} {z : Str} (h : inAll l z = true) (n : Nat) : inAll (l.drop n) z = true := by
  unfold inAll at *
  rw [List.all_eq_true] at *
  exact fun x hx => h x (List.mem_of_mem_drop hx)
structure Wd (l : List Nat) : Prop where
  lo : 1 ≤ l.length
  hi : l.length ≤ 8
  sm : inAll l smS = true
theorem mk_of (x : Str) : x = mk x.cps.toList := cpl_inj (by rw [mk_cps])
theorem wd_ok {x : Str} (h : Wd x.cps.toList) : PyData.strOk x = true := by
  unfold PyData.strOk
  rw [Array.all_eq_true_iff_forall_mem]
  intro c hc
  exact decide_eq_true (in_ok (b := smS) (by decide +kernel) h.sm c (by simpa using hc))
theorem ok_word {s : DS} {Q : D → DS → Prop} (q : ∀ l s', 2 ≤ l.length → l.length ≤ 8 → inAll l smS = true → Q (.str (mk l)) s') : Ok (K_w_word Fdraw8 [hnd 0, .int 2, .int 8] s) Q := by
  unfold K_w_word B_w_word
  refine k_fn (k_seq (k_set ?_))
  walk_at "E"
  refine k_seq (k_set ?_)
  walk_at "E"
  refine k_seq (k_forP (fun ds s' => ∃ n : Nat, 2 ≤ n ∧ n ≤ 8 ∧ ds = rngD 0 n) ?_ ?_)
  · walk_at "E"
    refine k_draw8 (by omega) (by omega) fun r s1 r0 r1 => ?_
    exact ⟨_, rfl, _, pr1 (by omega) (by omega), (2 + r).toNat, by omega, by omega, rfl⟩
  · rintro ds s1 ⟨n, n2, n8, rfl⟩
    refine ⟨fun j ρ _ => ∃ (l : List Nat) (o : Option D), ρ = [some (hnd 0), some (.int 2), some (.int 8), some (.str smS), some (.str (mk l)), o] ∧ l.length = j ∧ inAll l smS = true, ⟨[], none, rfl, rfl, rfl⟩, ?_, ?_⟩
    · rintro j d ρ s2 hd ⟨l, o, rfl, hl, hx⟩
      obtain ⟨hj, rfl⟩ := rng_get hd
      refine ⟨_, rfl, ?_⟩
      refine k_set ?_
      walk_at "E"
      refine k_draw8 (by omega) (by omega) fun r s3 r0 r1 => ?_
      obtain ⟨c, c1, _, hc⟩ := ix_at (z := smS) (r := r) (by decide) r0 r1
      refine ⟨_, hc, _, v_addS (by rw [mk_len, mk_len]; exact szL (by simp; omega)), ?_⟩
      rw [mk_app]
      refine ⟨l ++ [c], _, rfl, by simp [hl], ?_⟩
      rw [inAll_app, hx, inAll_one c1]
      rfl
    · rintro ρ s2 ⟨l, o, rfl, hl, hx⟩
      rw [rng_len] at hl
      refine k_ret ?_
      walk_at "E"
      exact q l _ (by omega) (by omega) hx
def candS : List Str := (Str.ofString "abcdefghijklmnopqrst").cps.toList.map fun c => Str.ofString "q" ++ ⟨#[c]⟩
theorem cand_nd : candS.Nodup := by decide +kernel
theorem cand_len : candS.length = 20 := by decide +kernel
theorem cand_wd : ∀ x ∈ candS, Wd x.cps.toList := by
  have h : (candS.all fun x => decide (1 ≤ x.cps.toList.length) && decide (x.cps.toList.length ≤ 8) && inAll x.cps.toList smS) = true := by decide +kernel
  intro x hx
  have := List.all_eq_true.mp h x hx
  rw [Bool.and_eq_true, Bool.and_eq_true, decide_eq_true_eq, decide_eq_true_eq] at this
  exact ⟨this.1.1, this.1.2, this.2⟩
theorem nd_sub : ∀ {a b : List Str}, a.Nodup → (∀ x ∈ a, x ∈ b) → a.length ≤ b.length
  | [], b, _, _ => Nat.zero_le _
  | x :: a, b, nd, h => by
    rw [List.nodup_cons] at nd
    have hx := h x List.mem_cons_self
    have := nd_sub (a := a) (b := b.erase x) nd.2 fun y hy => (List.mem_erase_of_ne (fun (e : y = x) => nd.1 (by rw [← e]; exact hy))).mpr (h y (List.mem_cons_of_mem _ hy))
    rw [List.length_erase_of_mem hx] at this
    have hp : 0 < b.length := List.length_pos_of_mem hx
    rw [List.length_cons]
    omega
theorem cand_one {xs : List Str} (h : xs.length < 20) : ∃ x r, (candS.filter fun y => !decide (y ∈ xs)) = x :: r ∧ x ∈ candS ∧ x ∉ xs := by
  cases e : candS.filter fun y => !decide (y ∈ xs) with
  | nil =>
    exfalso
    have : ∀ y ∈ candS, y ∈ xs := fun y hy => by
      have := List.filter_eq_nil_iff.mp e y hy
      simpa using this
    have := nd_sub cand_nd this
    rw [cand_len] at this
    omega
  | cons x r =>
    have hm : x ∈ candS.filter fun y => !decide (y ∈ xs) := by rw [e]; exact List.mem_cons_self
    rw [List.mem_filter] at hm
    exact ⟨x, r, rfl, hm.1, by simpa using hm.2⟩
section
variable {S : Type} {s : S}
theorem split_eq {f g : Ev S} {ρ : Rho} {a c : Str} (hf : f ρ s = some (.str a, s)) (hg : g ρ s = some (.str c, s)) (hc : (c.length == 0) = false) (hl : a.length + 2 ≤ sizeLine) : aSplit f g ρ s = some ((Txt.split a c).map .str, s) := by
  unfold aSplit
  rw [hf]
  show bnd (g ρ s) _ = _
  rw [hg]
  show (if (c.length == 0) = false ∧ a.length + 2 ≤ sizeLine then some ((Txt.split a c).map PyData.str, s) else none) = _
  rw [if_pos ⟨hc, hl⟩]
theorem it_nl {G : Ea S} {ρ : Rho} {l : List D} (h : G ρ s = some (l, s)) : iOf asL (cNl G) ρ s = some (l, s) := by
  unfold iOf cNl
  rw [h]
  rfl
theorem fl_ix0 {G : Ea S} {ρ : Rho} {x : Str} {r : List D} (h : G ρ s = some (.str x :: r, s)) : cFl (cB pIx (cNl G) (cK (.int 0))) ρ s = some (.str x, s) := by
  unfold cFl cB cNl
  rw [h]
  show bnd (put (pIx (.list (.str x :: r)) (.int 0)) s) _ = _
  rw [v_ix0L]
  rfl
abbrev fbE : Ev S := cFl (cB pIx (cNl (lcF (iOf asL (cNl (lcF (iOf asS (cK (.str "abcdefghijklmnopqrst"))) (gNm 9) qYes (cB pAdd (cK (.str "q")) (cVar 9)) [9]))) (gNm 8) (qT (cB pNotIn (cVar 8) (cVar 3))) (cVar 8) [8])) (cK (.int 0)))
theorem fb_eq {xs : List Str} {a b c d e f g h i : Option D} (hl : xs.length < 20) : ∃ x, fbE [a, b, c, some (.list (xs.map .str)), d, e, f, g, h, i] s = some (.str x, s) ∧ x ∈ candS ∧ x ∉ xs := by
  obtain ⟨x, r, e1, hx, hn⟩ := cand_one hl
  refine ⟨x, ?_, hx, hn⟩
  have h1 : lcF (S := S) (iOf asS (cK (.str "abcdefghijklmnopqrst"))) (gNm 9) qYes (cB pAdd (cK (.str "q")) (cVar 9)) [9] [a, b, c, some (.list (xs.map .str)), d, e, f, g, h, i] s = some (candS.map .str, s) := by
    have := k_keep (S := S) (ds := (Str.ofString "abcdefghijklmnopqrst").cps.toList.map sgD) (q := qYes) (f := cB pAdd (cK (.str "q")) (cVar 9)) (fi := iOf asS (cK (.str "abcdefghijklmnopqrst"))) (t := gNm 9) (vs := [9]) (ρ := [a, b, c, some (.list (xs.map .str)), d, e, f, g, h, i]) (s := s) (fun _ => true) (fun d => match d with | .str z => .str (Str.ofString "q" ++ z) | _ => .none) (by decide) rfl (fun d hd => by
      obtain ⟨z, hz, rfl⟩ := List.mem_map.mp hd
      refine ⟨_, rfl, rfl, fun _ => ?_⟩
      show put (pAdd (.str (Str.ofString "q")) (.str (mk [z]))) s = _
      rw [v_addS (by rw [mk_len]; exact szL (by show 1 + 1 ≤ 100000; decide))]
      rfl)
    rw [this, List.filter_eq_self.mpr (fun _ _ => rfl), List.map_map]
    unfold candS
    rw [List.map_map]
    rfl
  have h2 : lcF (S := S) (iOf asL (cNl (lcF (iOf asS (cK (.str "abcdefghijklmnopqrst"))) (gNm 9) qYes (cB pAdd (cK (.str "q")) (cVar 9)) [9]))) (gNm 8) (qT (cB pNotIn (cVar 8) (cVar 3))) (cVar 8) [8] [a, b, c, some (.list (xs.map .str)), d, e, f, g, h, i] s = some ((candS.filter fun y => !decide (y ∈ xs)).map .str, s) := by
    have := k_keep (S := S) (ds := candS.map PyData.str) (q := qT (cB pNotIn (cVar 8) (cVar 3))) (f := cVar 8) (fi := iOf asL (cNl (lcF (iOf asS (cK (.str "abcdefghijklmnopqrst"))) (gNm 9) qYes (cB pAdd (cK (.str "q")) (cVar 9)) [9]))) (t := gNm 8) (vs := [8]) (ρ := [a, b, c, some (.list (xs.map .str)), d, e, f, g, h, i]) (s := s) (fun d => match d with | .str z => !decide (z ∈ xs) | _ => false) id (by rw [List.length_map, cand_len]; exact szL (by decide)) (it_nl h1) (fun d hd => by
      obtain ⟨z, hz, rfl⟩ := List.mem_map.mp hd
      refine ⟨_, rfl, ?_, fun _ => rfl⟩
      show bnd (put (pNotIn (.str z) (.list (xs.map .str))) s) (fun x s => put (truth x) s) = _
      rw [notIn_strsL]
      rfl)
    rw [this, List.map_id, List.filter_map]
    rfl
  rw [e1] at h2
  exact fl_ix0 h2
end
structure Kds (xs : List Str) (n : Nat) : Prop where
  len : xs.length = n
  nd : xs.Nodup
  wd : ∀ x ∈ xs, Wd x.cps.toList
abbrev Fword : Fn DS := K_w_word Fdraw8
theorem ok_kinds {s : DS} {n : Nat} (h10 : n ≤ 10) {Q : D → DS → Prop} (q : ∀ xs s', Kds xs n → Q (.list (xs.map .str)) s') : Ok (K_w_kinds Fword Fdraw8 [hnd 0, .int (n : Nat)] s) Q := by
  unfold K_w_kinds B_w_kinds
  refine k_fn (k_seq (k_set ?_))
  walk_at "E"
  refine k_seq (k_set ?_)
  walk_at "E"
  have hsp : ∃ tk : List Str, aSplit (S := DS) (cB pAdd (cVar 2) (cK (.str " the then there every either unless"))) (cK (.str " ")) [some (hnd 0), some (.int (n : Nat)), some (.str "absurd all an and any are as at be by false if is least many more no not only or same some than"), none, none, none, none, none, none, none] s = some (tk.map .str, s) := by
    refine ⟨Txt.split ((Str.ofString "absurd all an and any are as at be by false if is least many more no not only or same some than") ++ (Str.ofString " the then there every either unless")) (Str.ofString " "), ?_⟩
    refine split_eq ?_ rfl (by decide) (szL (by decide))
    show put (pAdd (.str (Str.ofString "absurd all an and any are as at be by false if is least many more no not only or same some than")) (.str (Str.ofString " the then there every either unless"))) s = _
    rw [v_addS (szL (by decide))]
    rfl
  obtain ⟨tk, hsp⟩ := hsp
  rw [hsp]
  refine ⟨_, _, rfl, ?_⟩
  clear hsp
  refine k_seq (k_own ?_)
  walk_at "E"
  refine k_seq (k_forP (fun ds s' => ds = rngD 0 n) ?_ ?_)
  · walk_at "E"
    rw [pr1 (by omega) (by omega)]
    walk_at "E"
    rfl
  · rintro ds s1 rfl
    refine ⟨fun j ρ _ => ∃ (xs : List Str) (o4 o5 o6 o7 o8 o9 : Option D), ρ = [some (hnd 0), some (.int (n : Nat)), some (.list (tk.map .str)), some (.list (xs.map .str)), o4, o5, o6, o7, o8, o9] ∧ Kds xs j, ⟨[], none, none, none, none, none, none, rfl, rfl, List.nodup_nil, by simp⟩, ?_, ?_⟩
    · rintro j d ρ s2 hd ⟨xs, o4, o5, o6, o7, o8, o9, rfl, hk⟩
      obtain ⟨hj, rfl⟩ := rng_get hd
      refine ⟨_, rfl, ?_⟩
      refine k_seq (k_set ?_)
      walk_at "E"
      refine ok_word fun l0 s3 l2 l8 hs0 => ?_
      have hw0 : Wd l0 := ⟨by omega, l8, hs0⟩
      refine k_seq (k_set ?_)
      walk_at "E"
      refine k_draw8 (by omega) (by omega) fun w s4 w0 w1 => ?_
      refine k_seq (Ok.imp (Q := fun r _ => ∃ l, r = .nx [some (hnd 0), some (.int (n : Nat)), some (.list (tk.map .str)), some (.list (xs.map .str)), some (.int (0 + (j : Int))), some (.str (mk l)), some (.int w), o7, o8, o9] ∧ Wd l) ?_ ?_)
      · refine k_sIf ?_
        walk_at "E"
        by_cases hw : w = 1
        · rw [decide_eq_true hw]
          walk_at "E"
          cases xs with
          | nil =>
            simp_arith [List.isEmpty_nil]
            exact k_nx ⟨l0, rfl, hw0⟩
          | cons x xs =>
            have hx := hk.wd x List.mem_cons_self
            simp_arith [List.isEmpty_cons]
            refine k_set ?_
            walk_at "E"
            rw [mk_of x]
            generalize x.cps.toList = lx at hx
            have h1 := hx.lo
            have h2 := hx.hi
            refine ⟨_, v_addS (by rw [mk_len, mk_len]; exact szL (by omega)), ?_⟩
            rw [mk_app, v_slS (by rw [mk_len, List.length_append]; exact szL (by omega))]
            refine ⟨_, rfl, rfl, (lx ++ l0).take 8, ?_, ?_, ?_, ?_⟩
            · rw [show (8 : Int) = ((8 : Nat) : Int) from rfl, cut_to]
            · rw [List.length_take, List.length_append]; omega
            · rw [List.length_take]; omega
            · refine inAll_take ?_ 8
              rw [inAll_app, hx.sm, hs0]
              rfl
        · rw [decide_eq_false hw]
          walk_at "E"
          exact k_nx ⟨l0, rfl, hw0⟩
      rintro r s5 ⟨l1, rfl, hw1⟩
      refine k_seq (Ok.imp (Q := fun r _ => ∃ l o7, r = .nx [some (hnd 0), some (.int (n : Nat)), some (.list (tk.map .str)), some (.list (xs.map .str)), some (.int (0 + (j : Int))), some (.str (mk l)), some (.int w), o7, o8, o9] ∧ Wd l) ?_ ?_)
      · refine k_sIf ?_
        walk_at "E"
        by_cases hw : w = 2
        · rw [decide_eq_true hw]
          walk_at "E"
          cases xs with
          | nil =>
            simp_arith [List.isEmpty_nil]
            exact k_nx ⟨l1, o7, rfl, hw1⟩
          | cons x xs =>
            have hx := hk.wd x List.mem_cons_self
            simp_arith [List.isEmpty_cons]
            refine k_seq (k_set ?_)
            walk_at "E"
            rw [mk_of x]
            generalize x.cps.toList = lx at hx
            have h1 := hx.lo
            have h2 := hx.hi
            have h3 := hw1.lo
            rw [v_lenS (by rw [mk_len]; exact szL (by omega)), mk_len]
            walk_at "E"
            refine k_draw8 (by omega) (by omega) fun a s6 a0 a1 => ?_
            obtain ⟨a, rfl⟩ : ∃ k : Nat, a = k := ⟨a.toNat, by omega⟩
            walk_at "E"
            refine k_set ?_
            walk_at "E"
            rw [v_slS (by rw [mk_len]; exact szL (by omega)), v_slS (by rw [mk_len]; exact szL (by omega))]
            obtain ⟨c, c1, _, hc⟩ := ix_at (z := mk l1) (r := 0) (by rw [mk_len]; have := hw1.hi; exact szL (by omega)) (by omega) (by rw [mk_len]; omega)
            rw [mk_cps] at c1
            have hc9 : c ∈ smS.cps.toList := of_decide_eq_true (List.all_eq_true.mp hw1.sm c c1)
            rw [cut_to, show (a : Int) + 1 = ((a + 1 : Nat) : Int) by omega, cut_from, hc]
            walk_at "E"
            refine ⟨_, v_addS (by rw [mk_len, mk_len, List.length_take]; exact szL (by show _ + 1 ≤ _; omega)), ?_⟩
            rw [mk_app]
            refine ⟨_, v_addS (by rw [mk_len, mk_len, List.length_append, List.length_take, List.length_drop]; exact szL (by show _ + 1 + _ ≤ _; omega)), ?_⟩
            rw [mk_app]
            refine ⟨rfl, _, _, rfl, ?_, ?_, ?_⟩
            · simp only [List.length_append, List.length_take, List.length_drop, List.length_cons, List.length_nil]; omega
            · simp only [List.length_append, List.length_take, List.length_drop, List.length_cons, List.length_nil]; omega
            · rw [inAll_app, inAll_app, inAll_take hx.sm, inAll_drop hx.sm, inAll_one hc9]
              rfl
        · rw [decide_eq_false hw]
          walk_at "E"
          exact k_nx ⟨l1, o7, rfl, hw1⟩
      rintro r s6 ⟨l2', o7', rfl, hw2⟩
      refine k_seq (Ok.imp (Q := fun r _ => ∃ x, r = .nx [some (hnd 0), some (.int (n : Nat)), some (.list (tk.map .str)), some (.list (xs.map .str)), some (.int (0 + (j : Int))), some (.str x), some (.int w), o7', o8, o9] ∧ Wd x.cps.toList ∧ x ∉ xs) ?_ ?_)
      · refine k_sIf ?_
        walk_at "E"
        rw [in_strsL, in_strsL]
        walk_at "E"
        obtain ⟨x, hx, hx1, hx2⟩ := fb_eq (S := DS) (s := s6) (xs := xs) (a := some (hnd 0)) (b := some (.int (n : Nat))) (c := some (.list (tk.map .str))) (d := some (.int (0 + (j : Int)))) (e := some (.str (mk l2'))) (f := some (.int w)) (g := o7') (h := o8) (i := o9) (by rw [hk.len]; omega)
        by_cases ht : mk l2' ∈ tk
        · rw [decide_eq_true ht]
          walk_at "E"
          refine k_set ?_
          exact ⟨_, _, hx, x, rfl, cand_wd x hx1, hx2⟩
        · rw [decide_eq_false ht]
          walk_at "E"
          by_cases hi : mk l2' ∈ xs
          · rw [decide_eq_true hi]
            walk_at "E"
            refine k_set ?_
            exact ⟨_, _, hx, x, rfl, cand_wd x hx1, hx2⟩
          · rw [decide_eq_false hi]
            walk_at "E"
            exact k_nx ⟨mk l2', rfl, by rw [mk_cps]; exact hw2, hi⟩
      rintro r s7 ⟨x, rfl, hx, hn⟩
      refine k_app (ds := xs.map PyData.str) rfl (by rw [List.length_map, hk.len]; exact szl (by omega)) ?_
      walk_at "E"
      refine ⟨xs ++ [x], some (.int (0 + (j : Int))), some (.str x), some (.int w), o7', o8, o9, by simp only [List.map_append, List.map_cons, List.map_nil], by simp [hk.len], nodup_snoc hk.nd hn, fun y hy => ?_⟩
      rcases List.mem_append.mp hy with hy | hy
      · exact hk.wd y hy
      · rw [List.mem_singleton.mp hy]
        exact hx
    · rintro ρ s2 ⟨xs, o4, o5, o6, o7, o8, o9, rfl, hk⟩
      rw [rng_len] at hk
      refine k_ret ?_
      walk_at "E"
      exact q xs _ hk
end Lw41
set_option Elab.async false
set_option linter.all false
set_option maxRecDepth 100000
set_option maxHeartbeats 1000000
namespace Lw41
open PySem PySem.Spec L2 Dl Mx Ds Lw01
/-- a sum as it is drawn -/
structure Sm (xs : List Str) (t : Tot) : Prop where
  canon : Canon t
  sub : ∀ p ∈ t.1, p.1 ∈ xs
  pos : ∀ p ∈ t.1, 1 ≤ p.2
  len : t.1.length ≤ 6
/-! ### equality of sums as data -/
end Lw41
set_option Elab.async false
set_option linter.all false
set_option maxRecDepth 100000
set_option maxHeartbeats 1000000
namespace Lw41
open PySem PySem.Spec L2 Dl Mx Ds Lw01
section
variable {S : Type} {s : S}
theorem ints_map : ∀ ns : List Int, dInts (ns.map .int) = some ns
  | [] => rfl
  | n :: ns => by
    show (dInts (ns.map PyData.int)).map (n :: ·) = _
    rw [ints_map ns]
    rfl
theorem v_sum (ns : List Int) : pSum [.list (ns.map .int)] = some (.int ns.sum) := by
  show (dInts (ns.map PyData.int)).map (fun ns => PyData.int ns.sum) = _
  rw [ints_map]
  rfl
theorem of_eq {t : Tot} {k : Str} (hl : t.1.length ≤ 1000) : K_w_of [totD t, .str k] s = some (.int (cntP t.1 k), s) := by
  refine ok_eq ?_
  unfold K_w_of B_w_of
  refine k_fn (k_ret ?_)
  have h := k_keep (S := S) (ds := t.1.map ptD) (q := qT (cB pEq (cVar 2) (cVar 1))) (f := cVar 3) (fi := iOf asT (cB pIx (cVar 0) (cK (.int 0)))) (t := gTp (gC (gNm 2) (gC (gNm 3) gN0))) (vs := [2, 3]) (ρ := [some (totD t), some (.str k), none, none]) (s := s) (fun d => match d with | .tuple [.str a, _] => decide (a = k) | _ => false) (fun d => match d with | .tuple [_, n] => n | _ => .none) (by rw [List.length_map]; exact szL (by omega)) rfl (fun d hd => by
    obtain ⟨p, hp, rfl⟩ := List.mem_map.mp hd
    exact ⟨_, rfl, rfl, fun _ => rfl⟩)
  have e : ((t.1.map ptD).filter (fun d => match d with | .tuple [.str a, _] => decide (a = k) | _ => false)).map (fun d => match d with | .tuple [_, n] => n | _ => .none) = ((t.1.filter fun p => decide (p.1 = k)).map (·.2)).map PyData.int := by
    rw [List.filter_map, List.map_map, List.map_map]
    rfl
  rw [e] at h
  walk_at "E"
  refine ⟨_, _, h, ?_⟩
  exact ⟨_, v_sum _, rfl, rfl⟩
theorem cnt_pos : ∀ {ps : List Pt}, (∀ p ∈ ps, 1 ≤ p.2) → ∀ k, 0 ≤ cntP ps k ∧ (k ∈ ps.map (·.1) → 1 ≤ cntP ps k)
  | [], _, k => ⟨Int.le_refl _, fun h => by simp at h⟩
  | p :: ps, h, k => by
    have ih := cnt_pos (ps := ps) (fun q hq => h q (List.mem_cons_of_mem _ hq)) k
    have hp := h p List.mem_cons_self
    rw [cnt_cons]
    by_cases e : p.1 = k
    · rw [if_pos e]
      exact ⟨by omega, fun _ => by omega⟩
    · rw [if_neg e]
      refine ⟨by omega, fun hm => ?_⟩
      have : k ∈ ps.map (·.1) := by
        rcases List.mem_cons.mp (by simpa using hm : k ∈ p.1 :: ps.map (·.1)) with z | z
        · exact (e z.symm).elim
        · exact z
      have := ih.2 this
      omega
structure Sms (xs : List Str) (ts : List Tot) : Prop where
  ks : Kds xs 6
  sm : ∀ t ∈ ts, Sm xs t
  few : ts.length ≤ 9
theorem flat_len : ∀ {ts : List Tot}, (∀ t ∈ ts, t.1.length ≤ 6) → (ts.flatMap (·.1)).length ≤ 6 * ts.length
  | [], _ => Nat.le_refl _
  | t :: ts, h => by
    have ih := flat_len (ts := ts) fun x hx => h x (List.mem_cons_of_mem _ hx)
    have h0 := h t List.mem_cons_self
    rw [List.flatMap_cons, List.length_append, List.length_cons]
    omega
theorem Sms.len {xs : List Str} {ts : List Tot} (h : Sms xs ts) : (ts.flatMap (·.1)).length < 64 := by
  have := flat_len fun t ht => (h.sm t ht).len
  have := h.few
  omega
theorem Sms.flat {xs : List Str} {ts : List Tot} (h : Sms xs ts) {p : Pt} (hp : p ∈ ts.flatMap (·.1)) : p.1 ∈ xs ∧ 1 ≤ p.2 := by
  obtain ⟨t, ht, hp⟩ := List.mem_flatMap.mp hp
  exact ⟨(h.sm t ht).sub p hp, (h.sm t ht).pos p hp⟩
theorem Sms.found {xs : List Str} {ts : List Tot} (h : Sms xs ts) {p : Pt} (hp : p ∈ (sumOf ts).1) : p.1 ∈ xs ∧ 1 ≤ p.2 := by
  obtain ⟨k, hk, rfl⟩ := List.mem_map.mp hp
  have hk := gath_mem.mp (sort_mem.mp hk)
  refine ⟨?_, (cnt_pos (fun p hp => (h.flat hp).2) k).2 hk⟩
  obtain ⟨q, hq, rfl⟩ := List.mem_map.mp hk
  exact (h.flat hq).1
theorem Sms.ok {xs : List Str} {ts : List Tot} (h : Sms xs ts) {p : Pt} (hp : p ∈ (sumOf ts).1) : PyData.strOk p.1 = true := wd_ok (h.ks.wd _ (h.found hp).1)
end
end Lw41
set_option Elab.async false
set_option linter.all false
set_option maxRecDepth 100000
set_option maxHeartbeats 4000000
/-! dicts as data: what the combinators come to -/
namespace Dl
open PySem PySem.Spec PyProof.Rows L2
section
variable {S : Type} {ρ : Rho} {s : S} {f g h : Ev S} {fk : Ek S}
theorem okd_Nd {Q : D → S → Prop} : Ok (cNd fk ρ s) Q ↔ Ok (fk ρ s) fun m s => okD m = true ∧ Q (.dict m) s := by
  unfold cNd
  rw [ok_bnd]
  constructor
  · refine fun k => k.imp fun m s k => ?_
    split at k
    · exact ⟨by assumption, ok_some.mp k⟩
    · exact (ok_none.mp k).elim
  · refine fun k => k.imp fun m s ⟨k1, k2⟩ => ?_
    rw [if_pos k1]
    exact ok_some.mpr k2
theorem okd_Of {Q : List (D × D) → S → Prop} : Ok (kOf f ρ s) Q ↔ Ok (f ρ s) fun d s => ∃ m, d = .dict m ∧ isHn m = false ∧ Q m s := by
  unfold kOf
  rw [ok_bnd]
  constructor
  · refine fun k => k.imp fun d s k => ?_
    split at k
    · split at k
      · exact (ok_none.mp k).elim
      · rename_i e
        exact ⟨_, rfl, by simpa using e, ok_some.mp k⟩
    · exact (ok_none.mp k).elim
  · rintro ⟨d, s, e, m, rfl, k1, k2⟩
    refine ⟨.dict m, s, e, ?_⟩
    simp only [k1]
    exact ok_some.mpr k2
theorem okd_Dx {Q : D → S → Prop} : Ok (cDx fk g ρ s) Q ↔ Ok (fk ρ s) fun m s => Ok (g ρ s) fun k s => ∃ q d, keyD k = some q ∧ valD m q = some d ∧ Q d s := by
  unfold cDx
  rw [ok_bnd]
  constructor
  · refine fun k => k.imp fun m s k => ?_
    rw [ok_bnd] at k
    refine k.imp fun x s k => ?_
    split at k
    · split at k
      · exact ⟨_, _, by assumption, by assumption, ok_some.mp k⟩
      · exact (ok_none.mp k).elim
    · exact (ok_none.mp k).elim
  · refine fun k => k.imp fun m s k => ?_
    rw [ok_bnd]
    rcases k with ⟨x, s, e, q, d, k1, k2, k3⟩
    refine ⟨x, s, e, ?_⟩
    simp only [k1, k2]
    exact ok_some.mpr k3
theorem okd_Dgx {Q : D → S → Prop} : Ok (cDgx fk g h ρ s) Q ↔ Ok (fk ρ s) fun m s => Ok (g ρ s) fun k s => Ok (h ρ s) fun z s => ∃ q, keyD k = some q ∧ Q ((valD m q).getD z) s := by
  unfold cDgx
  rw [ok_bnd]
  constructor
  · refine fun k => k.imp fun m s k => ?_
    rw [ok_bnd] at k
    refine k.imp fun x s k => ?_
    rw [ok_bnd] at k
    refine k.imp fun z s k => ?_
    split at k
    · exact ⟨_, by assumption, ok_some.mp k⟩
    · exact (ok_none.mp k).elim
  · refine fun k => k.imp fun m s k => ?_
    rw [ok_bnd]
    refine k.imp fun x s k => ?_
    rw [ok_bnd]
    rcases k with ⟨z, s, e, q, k1, k3⟩
    refine ⟨z, s, e, ?_⟩
    simp only [k1]
    exact ok_some.mpr k3
theorem okd_New {Q : List (D × D) → S → Prop} : Ok (kNew ρ s) Q ↔ Q [] s := ok_some
theorem k_ownD {i : Nat} {Q : Rs → S → Prop} (k : Ok (fk ρ s) fun m s => okD m = true ∧ Q (.nx (ρ.set i (some (.dict m)))) s) : Ok (sOwnD i fk ρ s) Q := by
  unfold sOwnD
  rw [ok_bnd]
  refine k.imp fun m s ⟨k1, k2⟩ => ?_
  rw [if_pos k1]
  exact ok_some.mpr k2
theorem k_putO {i : Nat} {kvs : List (D × D)} {Q : Rs → S → Prop} (hi : ρ[i]? = some (some (.dict kvs))) (k : Ok (g ρ s) fun v s => Ok (f ρ s) fun k s => ∃ q, keyD k = some q ∧ okD (putD kvs q v) = true ∧ Q (.nx (ρ.set i (some (.dict (putD kvs q v))))) s) : Ok (sPutO i f g ρ s) Q := by
  unfold sPutO
  rw [ok_bnd]
  refine k.imp fun v s k => ?_
  rw [ok_bnd]
  rcases k with ⟨x, s, e, q, k1, k2, k3⟩
  refine ⟨x, s, e, ?_⟩
  simp only [hi, k1]
  rw [if_pos k2]
  exact ok_some.mpr k3
end
end Dl
set_option Elab.async false
set_option linter.all false
set_option maxRecDepth 100000
set_option maxHeartbeats 4000000
/-! dicts as data: what the later combinators come to -/
namespace Dl
open PySem PySem.Spec PyProof.Rows L2
section
variable {S : Type} {ρ : Rho} {s : S} {f g h : Ev S} {fk : Ek S}
theorem okd_PairsT {Q : List (D × D) → S → Prop} : Ok (kPairsT f ρ s) Q ↔ Ok (f ρ s) fun d s => ∃ ds m, d = .tuple ds ∧ pairsD ds = some m ∧ Q (mergeD [] m) s := by
  unfold kPairsT
  rw [ok_bnd]
  constructor
  · refine fun k => k.imp fun d s k => ?_
    split at k
    · split at k
      · exact ⟨_, _, rfl, by assumption, ok_some.mp k⟩
      · exact (ok_none.mp k).elim
    · exact (ok_none.mp k).elim
  · rintro ⟨d, s, e, ds, m, rfl, k1, k2⟩
    refine ⟨.tuple ds, s, e, ?_⟩
    simp only [k1]
    exact ok_some.mpr k2
theorem okd_SortK {Q : List D → S → Prop} : Ok (aSortK fk ρ s) Q ↔ Ok (fk ρ s) fun m s => ∃ ks, keysS m = some ks ∧ ks.length < 64 ∧ Q ((sortS ks).map .str) s := by
  unfold aSortK
  rw [ok_bnd]
  constructor
  · refine fun k => k.imp fun m s k => ?_
    split at k
    · split at k
      · exact ⟨_, by assumption, by assumption, ok_some.mp k⟩
      · exact (ok_none.mp k).elim
    · exact (ok_none.mp k).elim
  · rintro ⟨m, s, e, ks, k1, k2, k3⟩
    refine ⟨m, s, e, ?_⟩
    simp only [k1]
    rw [if_pos k2]
    exact ok_some.mpr k3
theorem okd_Own {i : Nat} {Q : List (D × D) → S → Prop} : Ok (kOwn i ρ s) Q ↔ ∃ kvs, ρ[i]? = some (some (.dict kvs)) ∧ Q kvs s := by
  unfold kOwn
  constructor
  · intro k
    split at k
    · exact ⟨_, by assumption, ok_some.mp k⟩
    · exact (ok_none.mp k).elim
  · rintro ⟨kvs, e, k⟩
    rw [e]
    exact ok_some.mpr k
theorem okd_Dsp {Q : List (D × D) → S → Prop} : Ok (kDisp fk ρ s) Q ↔ Ok (fk ρ s) fun m s => (keysOk m = true ∧ m.length ≤ 15) ∧ Q (mergeD [] m) s := by
  unfold kDisp
  rw [ok_bnd]
  constructor
  · rintro ⟨m, s1, e, h⟩
    refine ⟨m, s1, e, ?_⟩
    dsimp only at h ⊢
    split at h
    · exact ⟨by assumption, ok_some.mp h⟩
    · exact (ok_none.mp h).elim
  · rintro ⟨m, s1, e, hc, h⟩
    refine ⟨m, s1, e, ?_⟩
    dsimp only
    rw [if_pos hc]
    exact ok_some.mpr h
theorem okd_Cns {r : Ek S} {Q : List (D × D) → S → Prop} : Ok (kCons f g r ρ s) Q ↔ Ok (f ρ s) fun k s => Ok (g ρ s) fun v s => Ok (r ρ s) fun m s => Q ((k, v) :: m) s := by
  unfold kCons
  simp only [ok_bnd, ok_some]
theorem okd_Nl {Q : List (D × D) → S → Prop} : Ok (kNil ρ s) Q ↔ Q [] s := ok_some
end
/-! ### dicts of texts and numbers -/
def kvD (m : KV) : List (D × D) := m.map fun p => (.str p.1, .int p.2)
theorem kvD_hn (m : KV) : isHn (kvD m) = false := by
  cases m with
  | nil => rfl
  | cons p m => cases m <;> rfl
theorem kvD_ok {m : KV} (h : m.length < 4096) : okD (kvD m) = true := by
  unfold okD
  rw [kvD_hn]
  unfold kvD
  rw [List.length_map, decide_eq_true h]
  rfl
theorem kvD_val (k : Str) : ∀ m : KV, valD (kvD m) (.inr k) = (kvGet m k).map .int
  | [] => rfl
  | (a, n) :: m => by
    have ih := kvD_val k m
    unfold valD kvGet kvD at *
    simp only [List.map_cons, List.find?_cons]
    by_cases h : a = k
    · subst h
      simp [keyD]
    · have h2 : ¬ keyD (.str a) = some (.inr k) := fun z => h (by simpa [keyD] using z)
      rw [decide_eq_false h, decide_eq_false h2]
      exact ih
theorem kvD_keys : ∀ m : KV, keysS (kvD m) = some (m.map (·.1))
  | [] => rfl
  | (a, n) :: m => by
    show (match keysS (kvD m) with | some ks => some (a :: ks) | none => none) = _
    rw [kvD_keys m]
    rfl
theorem kvD_put (m : KV) (k : Str) (v : Int) : putD (kvD m) (.inr k) (.int v) = kvD (kvPut m k v) := by
  have hk : ∀ p : Str × Int, decide (keyD (.str p.1 : D) = some (.inr k)) = decide (p.1 = k) := fun p => by
    by_cases h : p.1 = k
    · rw [decide_eq_true h, decide_eq_true (by rw [h]; rfl)]
    · rw [decide_eq_false h, decide_eq_false (fun z => h (by simpa [keyD] using z))]
  have ha : ((kvD m).any fun p => decide (keyD p.1 = some (.inr k))) = m.any fun p => decide (p.1 = k) := by
    unfold kvD
    rw [List.any_map]
    exact congrArg (List.any m) (funext fun p => hk p)
  unfold putD kvPut
  rw [ha]
  split
  · unfold kvD
    rw [List.map_map, List.map_map]
    refine List.map_congr_left fun p _ => ?_
    have := hk p
    by_cases h : p.1 = k
    · rw [decide_eq_true h, decide_eq_true_eq] at this
      show (if keyD (.str p.1 : D) = some (.inr k) then _ else _) = _
      rw [if_pos this]
      simp [h]
    · rw [decide_eq_false h, decide_eq_false_iff_not] at this
      show (if keyD (.str p.1 : D) = some (.inr k) then _ else _) = _
      rw [if_neg this]
      simp [h]
  · simp [kvD, kdD]
theorem kvD_merge : ∀ (b a : KV), mergeD (kvD a) (kvD b) = kvD (b.foldl (fun m p => kvPut m p.1 p.2) a)
  | [], a => rfl
  | (k, n) :: b, a => by
    show mergeD (putD (kvD a) (.inr k) (.int n)) (kvD b) = _
    rw [kvD_put, kvD_merge b]
    rfl
theorem put_new {m : KV} {k : Str} {v : Int} (h : k ∉ m.map (·.1)) : kvPut m k v = m ++ [(k, v)] := by
  unfold kvPut
  rw [if_neg]
  rw [List.any_eq_true]
  rintro ⟨p, hp, e⟩
  exact h (List.mem_map.mpr ⟨p, hp, of_decide_eq_true e⟩)
theorem fold_put : ∀ (b a : KV), ((a ++ b).map (·.1)).Nodup → b.foldl (fun m p => kvPut m p.1 p.2) a = a ++ b
  | [], a, _ => by simp
  | (k, n) :: b, a, h => by
    rw [List.foldl_cons]
    have hk : k ∉ a.map (·.1) := fun z => by
      rw [List.map_append, List.nodup_append] at h
      exact h.2.2 k z k (by simp) rfl
    show b.foldl _ (kvPut a k n) = _
    rw [put_new hk, fold_put b (a ++ [(k, n)]) (by simpa using h)]
    simp
theorem kvD_id {m : KV} (h : (m.map (·.1)).Nodup) : mergeD [] (kvD m) = kvD m := by
  have := kvD_merge m []
  rw [fold_put m [] (by simpa using h)] at this
  exact this
end Dl
set_option Elab.async false
set_option linter.all false
set_option maxRecDepth 100000
set_option maxHeartbeats 4000000
/-! comprehensions, all and any over rows told by a list of anything -/
namespace Mx
open PySem PySem.Spec L2 Dl
section
variable {S α : Type} {t : Tg} {q : Et S} {f : Ev S} {fi : Ea S} {vs : List Nat} {ρ : Rho} {s : S} {xs : List α} {F : α → D}
theorem k_filX {G : α → D} {c : α → Bool} (hl : xs.length ≤ sizeLine) (hi : fi ρ s = some (xs.map F, s)) (hq : ∀ x ∈ xs, ∃ ρ1, t (F x) (wipeR ρ vs) = some ρ1 ∧ q ρ1 s = some (c x, s) ∧ (c x = true → f ρ1 s = some (G x, s))) : lcF fi t q f vs ρ s = some ((xs.filter c).map G, s) := by
  unfold lcF
  rw [hi]
  show (if (xs.map F).length ≤ sizeLine then compF t q f (wipeR ρ vs) (xs.map F) s else none) = _
  rw [if_pos (by rw [List.length_map]; exact hl)]
  clear hl hi
  induction xs with
  | nil => rfl
  | cons x xs ih =>
    obtain ⟨ρ1, h1, h2, h3⟩ := hq x List.mem_cons_self
    have ih := ih fun y hy => hq y (List.mem_cons_of_mem _ hy)
    rw [List.map_cons]
    unfold compF
    rw [h1]
    show bnd (q ρ1 s) _ = _
    rw [h2]
    cases hc : c x with
    | false =>
      rw [List.filter_cons_of_neg (by rw [hc]; decide)]
      exact ih
    | true =>
      rw [List.filter_cons_of_pos hc, List.map_cons]
      show bnd (f ρ1 s) _ = _
      rw [h3 hc]
      show bnd (compF t q f (wipeR ρ vs) (xs.map F) s) _ = _
      rw [ih]
      rfl
theorem k_mapX {G : α → D} (hl : xs.length ≤ sizeLine) (hi : fi ρ s = some (xs.map F, s)) (hq : ∀ x ∈ xs, ∃ ρ1, t (F x) (wipeR ρ vs) = some ρ1 ∧ f ρ1 s = some (G x, s)) : lcF fi t qYes f vs ρ s = some (xs.map G, s) := by
  have := k_filX (q := qYes) (c := fun _ => true) hl hi fun x hx => by
    obtain ⟨ρ1, h1, h2⟩ := hq x hx
    exact ⟨ρ1, h1, rfl, fun _ => h2⟩
  rwa [List.filter_eq_self.mpr (fun _ _ => rfl)] at this
theorem quF_allX {p : α → Bool} : ∀ xs : List α, (∀ x ∈ xs, ∃ ρ1, t (F x) ρ = some ρ1 ∧ f ρ1 s = some (.bool (p x), s)) → quF false t qYes f ρ (xs.map F) s = some (xs.all p, s)
  | [], _ => rfl
  | x :: xs, h => by
    obtain ⟨ρ1, h1, h3⟩ := h x List.mem_cons_self
    have ih := quF_allX xs fun y hy => h y (List.mem_cons_of_mem _ hy)
    rw [List.map_cons]
    unfold quF
    rw [h1, List.all_cons]
    show bnd (f ρ1 s) _ = _
    rw [h3]
    cases p x with
    | false => rfl
    | true =>
      rw [Bool.true_and]
      exact ih
theorem quF_anyX {p : α → Bool} : ∀ xs : List α, (∀ x ∈ xs, ∃ ρ1, t (F x) ρ = some ρ1 ∧ f ρ1 s = some (.bool (p x), s)) → quF true t qYes f ρ (xs.map F) s = some (xs.any p, s)
  | [], _ => rfl
  | x :: xs, h => by
    obtain ⟨ρ1, h1, h3⟩ := h x List.mem_cons_self
    have ih := quF_anyX xs fun y hy => h y (List.mem_cons_of_mem _ hy)
    rw [List.map_cons]
    unfold quF
    rw [h1, List.any_cons]
    show bnd (f ρ1 s) _ = _
    rw [h3]
    cases p x with
    | true => rfl
    | false =>
      rw [Bool.false_or]
      exact ih
theorem k_allX {p : α → Bool} (hi : fi ρ s = some (xs.map F, s)) (h : ∀ x ∈ xs, ∃ ρ1, t (F x) (wipeR ρ vs) = some ρ1 ∧ f ρ1 s = some (.bool (p x), s)) : cQu false fi t qYes f vs ρ s = some (.bool (xs.all p), s) := by
  unfold cQu
  rw [hi]
  show bnd (quF false t qYes f (wipeR ρ vs) (xs.map F) s) _ = _
  rw [quF_allX xs h]
  rfl
theorem k_anyX {p : α → Bool} (hi : fi ρ s = some (xs.map F, s)) (h : ∀ x ∈ xs, ∃ ρ1, t (F x) (wipeR ρ vs) = some ρ1 ∧ f ρ1 s = some (.bool (p x), s)) : cQu true fi t qYes f vs ρ s = some (.bool (xs.any p), s) := by
  unfold cQu
  rw [hi]
  show bnd (quF true t qYes f (wipeR ρ vs) (xs.map F) s) _ = _
  rw [quF_anyX xs h]
  rfl
end
end Mx
set_option Elab.async false
set_option linter.all false
set_option maxRecDepth 100000
set_option maxHeartbeats 1000000
/-! k42: the program's sums and the law's counts, as equations -/
namespace Lw42
open PySem PySem.Spec L2 Dl Mx Ds Lw01 Lw41
section
variable {S : Type} {s : S}
theorem sumL_eq {ts : List Tot} {xs : List Str} (hf : (ts.flatMap (·.1)).length < 1000) (hx : ∀ p ∈ ts.flatMap (·.1), p.1 ∈ xs) (hn : xs.length < 64) : Lw42.K_sum_of [.list (ts.map totD)] s = some (totD (sumOf ts), s) := by
  refine ok_eq ?_
  unfold Lw42.K_sum_of
  refine k_fnDk (by show (noHs (ts.map totD) && true) = true; rw [noH_tots]; rfl) ?_
  unfold Lw42.B_sum_of
  refine k_seq (k_set ?_)
  walk_at "E"
  refine k_seq (k_forP (fun ds s' => ds = ts.map totD ∧ s' = (s, [])) ⟨_, _, rfl, rfl, rfl⟩ ?_)
  rintro ds s' ⟨rfl, rfl⟩
  refine ⟨fun j ρ s' => ∃ y3 y4 y5 y6 m, ρ = [some (.list (ts.map totD)), some (hnd 1), some (.int (((ts.take j).map (·.2)).sum)), y3, y4, y5, y6] ∧ s' = (s, m) ∧ Had m ((ts.take j).flatMap (·.1)), ⟨none, none, none, none, [], rfl, rfl, Had.nil⟩, ?_, ?_⟩
  · rintro j dd ρ s' hd ⟨y3, y4, y5, y6, m, rfl, rfl, hm⟩
    rw [List.getElem?_map, Option.map_eq_some_iff] at hd
    obtain ⟨t, ht, rfl⟩ := hd
    refine ⟨[some (.list (ts.map totD)), some (hnd 1), some (.int (((ts.take j).map (·.2)).sum)), some (.tuple (t.1.map ptD)), some (.int t.2), y5, y6], rfl, ?_⟩
    refine k_seq (k_aug rfl ?_)
    walk_at "E"
    refine ⟨_, rfl, ?_⟩
    have hf := flat_take ts ht
    have hp := flat_part ts (j + 1)
    rw [hf, List.length_append] at hp
    refine inner_ok hm (by omega) fun y5 y6 => ?_
    refine ⟨some (.tuple (t.1.map ptD)), some (.int t.2), y5, y6, _, ?_, rfl, ?_⟩
    · rw [take_snoc ht, List.map_append, List.sum_append]
      simp
    · rw [hf]
      exact hm.all t.1
  · rintro ρ s' ⟨y3, y4, y5, y6, m, rfl, rfl, hm⟩
    rw [List.length_map, List.take_length] at *
    refine k_ret ?_
    have hml : m.length < 64 := by
      have := nd_sub (a := m.map (·.1)) (b := xs) hm.nd fun k hk => by
        obtain ⟨p, hp, e⟩ := List.mem_map.mp ((hm.mem k).mp hk)
        rw [← e]
        exact hx p hp
      rw [List.length_map] at this
      omega
    have hk : lcF (S := S × KV) (iOf asL (cNl (aSd 1))) (gNm 5) qYes (cN pTup (aCons (cVar 5) (aCons (cDi 1 (cVar 5)) aNil))) [5] [some (.list (ts.map totD)), some (hnd 1), some (.int ((ts.map (·.2)).sum)), y3, y4, y5, y6] (s, m) = some ((sumOf ts).1.map ptD, (s, m)) := by
      have hs : aSd (S := S) 1 [some (.list (ts.map totD)), some (hnd 1), some (.int ((ts.map (·.2)).sum)), y3, y4, y5, y6] (s, m) = some ((sortS (m.map (·.1))).map .str, (s, m)) := by
        unfold aSd
        rw [if_pos (show isH _ 1 = true ∧ m.length < 64 from ⟨rfl, hml⟩)]
      have h := k_keep (S := S × KV) (ds := (sortS (m.map (·.1))).map PyData.str) (q := qYes) (f := cN pTup (aCons (cVar 5) (aCons (cDi 1 (cVar 5)) aNil))) (fi := iOf asL (cNl (aSd 1))) (t := gNm 5) (vs := [5]) (ρ := [some (.list (ts.map totD)), some (hnd 1), some (.int ((ts.map (·.2)).sum)), y3, y4, y5, y6]) (s := (s, m)) (fun _ => true) (fun d => match d with | .str k => ptD (k, cntP (ts.flatMap (·.1)) k) | _ => .none) (by
          rw [List.length_map, (sortS_perm _).length_eq, List.length_map]
          exact szL (by omega)) (by
          unfold iOf cNl
          rw [hs]
          rfl) (fun d hd => by
          obtain ⟨k, hk, rfl⟩ := List.mem_map.mp hd
          refine ⟨_, rfl, rfl, fun _ => ?_⟩
          have hg := hm.one (sort_mem.mp hk)
          have e : cDi (S := S) 1 (cVar 5) [some (.list (ts.map totD)), some (hnd 1), some (.int ((ts.map (·.2)).sum)), y3, y4, some (.str k), y6] (s, m) = some (.int (cntP (ts.flatMap (·.1)) k), (s, m)) := by
            unfold cDi
            rw [if_pos (show isH _ 1 = true from rfl)]
            show (match kvGet m k with | some n => some (PyData.int n, (s, m)) | none => none) = _
            rw [hg]
          show cN pTup (aCons (cVar 5) (aCons (cDi 1 (cVar 5)) aNil)) [some (.list (ts.map totD)), some (hnd 1), some (.int ((ts.map (·.2)).sum)), y3, y4, some (.str k), y6] (s, m) = _
          unfold cN aCons
          show bnd (bnd (bnd (cDi 1 (cVar 5) [some (.list (ts.map totD)), some (hnd 1), some (.int ((ts.map (·.2)).sum)), y3, y4, some (.str k), y6] (s, m)) fun x s => some ([x], s)) fun xs s => some (PyData.str k :: xs, s)) (fun xs s => put (pTup xs) s) = _
          rw [e]
          rfl)
      rw [h, List.filter_eq_self.mpr (fun _ _ => rfl), hm.keys, List.map_map]
      unfold sumOf sumT
      rw [List.map_map]
      rfl
    walk_at "E"
    rw [hk]
    refine ⟨_, _, rfl, ?_⟩
    walk_at "E"
    exact ⟨_, rfl, noH_tot (sumOf ts), rfl⟩

/-- a sum so many times -/
def mulT (t : Tot) (n : Int) : Tot := (t.1.map fun p => (p.1, p.2 * n), t.2 * n)
/-- its numbers are not too great -/
structure Bd (B : Int) (t : Tot) : Prop where
  ps : ∀ p ∈ t.1, 0 ≤ p.2 ∧ p.2 ≤ B
  n : 0 ≤ t.2 ∧ t.2 ≤ B
theorem lg {z : Int} (h : z.natAbs < 2 ^ 100) : z.natAbs.log2 < 100 := by
  by_cases h0 : z.natAbs = 0
  · rw [h0]; decide
  · exact (Nat.log2_lt h0).mpr h
theorem v_mulB {a b : Int} (ha : a.natAbs < 2 ^ 100) (hb : b.natAbs < 2 ^ 100) : pMul (.int a) (.int b) = some (.int (a * b)) := by
  have := lg ha
  have := lg hb
  show (if decide (a.natAbs.log2 + b.natAbs.log2 < 1000000) = true then _ else _) = _
  rw [if_pos (decide_eq_true (by omega))]
theorem so_eq {t : Tot} {n : Int} (h : ∀ p ∈ t.1, p.2.natAbs < 2 ^ 100) (h2 : t.2.natAbs < 2 ^ 100) (hn : n.natAbs < 2 ^ 100) (hl : t.1.length ≤ 1000) : K_so_often [totD t, .int n] s = some (totD (mulT t n), s) := by
  refine ok_eq ?_
  unfold K_so_often B_so_often
  refine k_fn (k_seq (k_asg ?_))
  walk_at "E"
  refine ⟨[some (totD t), some (.int n), some (.tuple (t.1.map ptD)), some (.int t.2), none, none], rfl, k_ret ?_⟩
  have h1 : lcF (S := S) (iOf asT (cVar 2)) (gTp (gC (gNm 4) (gC (gNm 5) gN0))) qYes (cN pTup (aCons (cVar 4) (aCons (cB pMul (cVar 5) (cVar 1)) aNil))) [4, 5] [some (totD t), some (.int n), some (.tuple (t.1.map ptD)), some (.int t.2), none, none] s = some ((mulT t n).1.map ptD, s) := by
    unfold mulT
    rw [List.map_map]
    refine k_mapX (xs := t.1) (F := ptD) (by exact szL (by omega)) rfl fun p hp => ?_
    refine ⟨[some (totD t), some (.int n), some (.tuple (t.1.map ptD)), some (.int t.2), some (.str p.1), some (.int p.2)], rfl, ok_eq ?_⟩
    walk_at "E"
    exact ⟨_, v_mulB (h p hp) hn, rfl⟩
  walk_at "E"
  exact ⟨_, _, h1, _, v_mulB h2 hn, rfl, rfl⟩
theorem t_i0 (t : Tot) : pIx (totD t) (.int 0) = some (.tuple (t.1.map ptD)) := rfl
theorem t_i1 (t : Tot) : pIx (totD t) (.int 1) = some (.int t.2) := rfl
theorem pairs_kv : ∀ ps : List Pt, pairsD (ps.map ptD) = some (kvD ps)
  | [] => rfl
  | p :: ps => by
    show (match keyD (.str p.1), pairsD (ps.map ptD) with | some _, some m => some ((PyData.str p.1, PyData.int p.2) :: m) | _, _ => none) = _
    rw [pairs_kv ps]
    rfl
theorem get_cnt : ∀ {ps : List Pt}, (ps.map (·.1)).Nodup → ∀ k, (kvGet ps k).getD 0 = cntP ps k
  | [], _, k => rfl
  | (a, n) :: ps, h, k => by
    rw [List.map_cons, List.nodup_cons] at h
    rw [get_cons, cnt_cons]
    by_cases e : a = k
    · rw [if_pos e, if_pos e, cnt_not (e ▸ h.1)]
      show n = n + 0
      omega
    · rw [if_neg e, if_neg e, get_cnt h.2]
      omega
theorem canon_nd {t : Tot} (h : Canon t) : (t.1.map (·.1)).Nodup := pw_nd h
/-- no_less -/
def nlB (a b : Tot) : Bool := decide (b.2 ≤ a.2) && b.1.all fun p => decide (p.2 ≤ cntP a.1 p.1)
theorem nl_eq {a b : Tot} (ha : Canon a) (hl : a.1.length ≤ 1000) : K_no_less [totD a, totD b] s = some (.bool (nlB a b), s) := by
  have nd := canon_nd ha
  refine ok_eq ?_
  unfold K_no_less B_no_less
  refine k_fn (k_seq (k_set ?_))
  rw [okd_Nd, okd_PairsT]
  simp_arith [t_i0, t_i1]
  refine ⟨_, _, rfl, pairs_kv _, ?_⟩
  rw [kvD_id nd]
  refine ⟨kvD_ok (by omega), ?_⟩
  refine k_ret ?_
  simp_arith [t_i0, t_i1]
  unfold nlB
  by_cases h : b.2 ≤ a.2
  · rw [decide_eq_true h]
    simp_arith [t_i0, t_i1]
    have := k_allX (S := S) (s := s) (xs := b.1) (F := ptD) (fi := iOf asT (cB pIx (cVar 1) (cK (.int 0)))) (t := gTp (gC (gNm 3) (gC (gNm 4) gN0))) (f := cB pGe (cDgx (kOf (cVar 2)) (cVar 3) (cK (.int 0))) (cVar 4)) (vs := [3, 4]) (ρ := [some (totD a), some (totD b), some (.dict (kvD a.1)), none, none]) (p := fun p => decide (p.2 ≤ cntP a.1 p.1)) rfl fun p hp => by
      refine ⟨[some (totD a), some (totD b), some (.dict (kvD a.1)), some (.str p.1), some (.int p.2)], rfl, ok_eq ?_⟩
      simp_arith [okd_Dgx, okd_Of]
      refine ⟨_, rfl, kvD_hn _, .inr p.1, rfl, ?_⟩
      rw [kvD_val, ← get_cnt nd]
      cases kvGet a.1 p.1 with
      | none => exact ⟨_, rfl, rfl⟩
      | some z => exact ⟨_, rfl, rfl⟩
    exact ⟨_, _, this, rfl, rfl⟩
  · rw [decide_eq_false h]
    simp_arith [t_i0, t_i1]
    rw [Bool.false_and]
end
end Lw42
set_option Elab.async false
set_option linter.all false
set_option maxRecDepth 100000
set_option maxHeartbeats 1000000
/-! k42: summed, and what the law counts, as equations -/
namespace Lw42
open PySem PySem.Spec L2 Dl Mx Ds Lw01 Lw41
/-- a form S >= T -/
abbrev Lf := Tot × Tot
def leD (f : Lf) : D := .tuple [.str "least", totD f.1, totD f.2]
/-- the forms, each with how often -/
abbrev Ft := List (Lf × Int)
abbrev fsD (ft : Ft) : D := .tuple (ft.map fun x => leD x.1)
abbrev tsD (ft : Ft) : D := .tuple (ft.map fun x => .int x.2)
def onesT (ft : Ft) : List Tot := ft.map fun x => mulT x.1.1 x.2
def othersT (ft : Ft) : List Tot := ft.map fun x => mulT x.1.2 x.2
def sumB (f : Lf) (ft : Ft) : Bool := nlB (sumOf (f.1 :: othersT ft)) (sumOf (f.2 :: onesT ft))
/-- a sum with kinds of these, its numbers within a bound -/
structure St (xs : List Str) (B : Int) (t : Tot) : Prop where
  can : Canon t
  sub : ∀ p ∈ t.1, p.1 ∈ xs
  ps : ∀ p ∈ t.1, 0 ≤ p.2 ∧ p.2 ≤ B
  n : 0 ≤ t.2 ∧ t.2 ≤ B
theorem St.len {xs : List Str} {B : Int} {t : Tot} (h : St xs B t) : t.1.length ≤ xs.length := by
  have := nd_sub (canon_nd h.can) (b := xs) fun k hk => by
    obtain ⟨p, hp, rfl⟩ := List.mem_map.mp hk
    exact h.sub p hp
  rwa [List.length_map] at this
/-- the forms and how often, all within bounds -/
structure Fts (xs : List Str) (ft : Ft) : Prop where
  few : xs.length ≤ 6
  len : ft.length ≤ 20
  a : ∀ x ∈ ft, St xs (10 ^ 9) x.1.1
  b : ∀ x ∈ ft, St xs (10 ^ 9) x.1.2
  t : ∀ x ∈ ft, 0 ≤ x.2 ∧ x.2 ≤ 10 ^ 4
theorem nat_lt {z B : Int} (h0 : 0 ≤ z) (h1 : z ≤ B) (hB : B < 2 ^ 100) : z.natAbs < 2 ^ 100 := by
  have : ((z.natAbs : Nat) : Int) < ((2 ^ 100 : Nat) : Int) := by
    rw [Int.natAbs_of_nonneg h0]
    exact Int.lt_of_le_of_lt h1 (by simpa using hB)
  exact Int.ofNat_lt.mp this
theorem zip_map {α : Type} (F G : α → D) : ∀ xs : List α, zipD (xs.map F) (xs.map G) = xs.map fun x => pairD (F x) (G x)
  | [] => rfl
  | x :: xs => by
    show pairD (F x) (G x) :: zipD (xs.map F) (xs.map G) = _
    rw [zip_map F G xs]
    rfl
theorem l_i0 (f : Lf) : pIx (leD f) (.int 0) = some (.str "least") := rfl
theorem l_i1 (f : Lf) : pIx (leD f) (.int 1) = some (totD f.1) := rfl
theorem l_i2 (f : Lf) : pIx (leD f) (.int 2) = some (totD f.2) := rfl
section
variable {S : Type} {s : S}
theorem star_at {i : Nat} {ρ : Rho} {ds : List D} (h : ρ[i]? = some (some (.list ds))) : aStar (S := S) (cVar i) aNil ρ s = some (ds, s) := by
  unfold aStar cVar
  rw [h]
  show some (ds ++ [], s) = _
  rw [List.append_nil]
theorem lst_n {ds : List D} (h : ds.length ≤ sizeLine) : pLst ds = some (.list ds) := by
  unfold pLst
  rw [if_pos h]
theorem mul_flat (n : Int) (t : Tot) : (mulT t n).1.map (·.1) = t.1.map (·.1) := by
  unfold mulT
  rw [List.map_map]
  rfl
theorem keys_sub {xs : List Str} {ts : List Tot} (h : ∀ t ∈ ts, ∀ k ∈ t.1.map (·.1), k ∈ xs) : ∀ p ∈ ts.flatMap (·.1), p.1 ∈ xs := fun p hp => by
  obtain ⟨t, ht, hp⟩ := List.mem_flatMap.mp hp
  exact h t ht _ (List.mem_map.mpr ⟨p, hp, rfl⟩)
theorem st_keys {xs : List Str} {B : Int} {t : Tot} (h : St xs B t) : ∀ k ∈ t.1.map (·.1), k ∈ xs := fun k hk => by
  obtain ⟨p, hp, rfl⟩ := List.mem_map.mp hk
  exact h.sub p hp
theorem flat_le : ∀ {ts : List Tot} {n : Nat}, (∀ t ∈ ts, t.1.length ≤ n) → (ts.flatMap (·.1)).length ≤ n * ts.length
  | [], n, _ => by simp
  | t :: ts, n, h => by
    rw [List.flatMap_cons, List.length_append, List.length_cons]
    have := flat_le (ts := ts) fun x hx => h x (List.mem_cons_of_mem _ hx)
    have := h t List.mem_cons_self
    rw [Nat.mul_add]
    omega
theorem mulT_len (t : Tot) (n : Int) : (mulT t n).1.length = t.1.length := by
  unfold mulT
  rw [List.length_map]
/-- the sums that are put together -/
theorem side_ok {xs : List Str} {B : Int} {ft : Ft} {t : Tot} (F : Fts xs ft) (h : St xs B t) (g : Lf → Tot) (hg : ∀ x ∈ ft, St xs (10 ^ 9) (g x.1)) :
    K_sum_of [.list ((t :: ft.map fun x => mulT (g x.1) x.2).map totD)] s = some (totD (sumOf (t :: ft.map fun x => mulT (g x.1) x.2)), s) := by
  have l6 := F.few
  have l20 := F.len
  have lk : ∀ u ∈ t :: ft.map (fun x => mulT (g x.1) x.2), u.1.length ≤ 6 := fun u hu => by
    rcases List.mem_cons.mp hu with rfl | hu
    · exact Nat.le_trans h.len l6
    · obtain ⟨x, hx, rfl⟩ := List.mem_map.mp hu
      rw [mulT_len]
      exact Nat.le_trans (hg x hx).len l6
  have := flat_le lk
  rw [List.length_cons, List.length_map] at this
  refine sumL_eq (xs := xs) (by omega) (keys_sub fun u hu => ?_) (by omega)
  rcases List.mem_cons.mp hu with rfl | hu
  · exact st_keys h
  · obtain ⟨x, hx, rfl⟩ := List.mem_map.mp hu
    rw [mul_flat]
    exact st_keys (hg x hx)
theorem sum_len {xs : List Str} {ts : List Tot} (h : ∀ t ∈ ts, ∀ k ∈ t.1.map (·.1), k ∈ xs) : (sumOf ts).1.length ≤ xs.length := by
  have := nd_sub (canon_nd (sumT_canon (ts.flatMap (·.1)) ((ts.map (·.2)).sum))) (b := xs) fun k hk => by
    rw [sumT_mem] at hk
    obtain ⟨p, hp, rfl⟩ := List.mem_map.mp hk
    exact keys_sub h p hp
  rwa [List.length_map] at this
theorem so_all {xs : List Str} {ft : Ft} {f : D} {o3 o4 : Option D} (F : Fts xs ft) (g : Lf → Tot) (i : Int) (hi : ∀ y : Lf, pIx (leD y) (.int i) = some (totD (g y))) (hg : ∀ x ∈ ft, St xs (10 ^ 9) (g x.1)) :
    lcF (S := S) (iOfA pZip (aCons (cVar 1) (aCons (cVar 2) aNil))) (gTp (gC (gNm 6) (gC (gNm 5) gN0))) qYes (cCall 2 K_so_often (aCons (cB pIx (cVar 6) (cK (.int i))) (aCons (cVar 5) aNil))) [6, 5] [some f, some (fsD ft), some (tsD ft), o3, o4, none, none] s = some ((ft.map fun x => mulT (g x.1) x.2).map totD, s) := by
  rw [List.map_map]
  refine k_mapX (xs := ft) (F := fun x => pairD (leD x.1) (.int x.2)) (by have := F.len; exact szL (by omega)) ?_ fun x hx => ?_
  · refine ok_eqL ?_
    walk_at "E"
    exact ⟨_, congrArg some (zip_map _ _ _), rfl⟩
  · refine ⟨[some f, some (fsD ft), some (tsD ft), o3, o4, some (.int x.2), some (leD x.1)], rfl, ok_eq ?_⟩
    simp_arith [hi]
    have G := hg x hx
    have t := F.t x hx
    have l := G.len
    have l6 := F.few
    exact ⟨_, _, so_eq (fun p hp => nat_lt (G.ps p hp).1 (G.ps p hp).2 (by decide)) (nat_lt G.n.1 G.n.2 (by decide)) (nat_lt t.1 t.2 (by decide)) (by omega), rfl, rfl⟩
abbrev Fsd : Fn S := K_summed K_so_often K_no_less K_sum_of
theorem any_neg {xs : List Str} {ft : Ft} (F : Fts xs ft) {a b c d e g : Option D} : cQu (S := S) true (iOf asT (cVar 2)) (gNm 5) qYes (cB pLt (cVar 5) (cK (.int 0))) [5] [a, b, some (tsD ft), c, d, e, g] s = some (.bool false, s) := by
  have := k_anyX (S := S) (s := s) (xs := ft) (F := fun x => .int x.2) (fi := iOf asT (cVar 2)) (t := gNm 5) (f := cB pLt (cVar 5) (cK (.int 0))) (vs := [5]) (ρ := [a, b, some (tsD ft), c, d, e, g]) (p := fun _ => false) rfl fun x hx => by
    refine ⟨[a, b, some (tsD ft), c, d, some (.int x.2), g], rfl, ok_eq ?_⟩
    walk_at "E"
    have := (F.t x hx).1
    rw [decide_eq_false (by omega)]
  rw [this, List.any_eq_false.mpr (fun _ _ => by decide)]
theorem any_least {ft : Ft} {a b c d e g : Option D} : cQu (S := S) true (iOf asT (cVar 1)) (gNm 6) qYes (cB pNe (cB pIx (cVar 6) (cK (.int 0))) (cK (.str "least"))) [6] [a, some (fsD ft), b, c, d, e, g] s = some (.bool false, s) := by
  have := k_anyX (S := S) (s := s) (xs := ft) (F := fun x => leD x.1) (fi := iOf asT (cVar 1)) (t := gNm 6) (f := cB pNe (cB pIx (cVar 6) (cK (.int 0))) (cK (.str "least"))) (vs := [6]) (ρ := [a, some (fsD ft), b, c, d, e, g]) (p := fun _ => false) rfl fun x hx => by
    refine ⟨[a, some (fsD ft), b, c, d, e, some (leD x.1)], rfl, ok_eq ?_⟩
    simp_arith [l_i0]
  rw [this, List.any_eq_false.mpr (fun _ _ => by decide)]
theorem summed_eq {xs : List Str} {ft : Ft} {B : Int} {f : Lf} (F : Fts xs ft) (h1 : St xs B f.1) (h2 : St xs B f.2) : Fsd [leD f, fsD ft, tsD ft] s = some (.bool (sumB f ft), s) := by
  have hl := F.len
  refine ok_eq ?_
  unfold Fsd K_summed B_summed
  refine k_fn (k_seq (k_sIf ?_))
  simp_arith [List.length_map]
  refine ⟨_, _, any_neg F, ?_⟩
  walk_at "E"
  refine k_nx (k_seq (k_sIf ?_))
  simp_arith [l_i0]
  refine ⟨_, _, any_least, ?_⟩
  walk_at "E"
  refine k_nx (k_seq (k_set ?_))
  walk_at "E"
  refine ⟨_, _, so_all F (·.1) 1 l_i1 F.a, ?_⟩
  refine k_seq (k_set ?_)
  walk_at "E"
  refine ⟨_, _, so_all F (·.2) 2 l_i2 F.b, ?_⟩
  refine k_ret ?_
  simp_arith [l_i1, l_i2]
  have k2 : ∀ (g : Lf → Tot), (∀ x ∈ ft, St xs (10 ^ 9) (g x.1)) → ∀ t : Tot, St xs B t → ∀ u ∈ t :: ft.map (fun x => mulT (g x.1) x.2), ∀ k ∈ u.1.map (·.1), k ∈ xs := fun g hg t h u hu => by
    rcases List.mem_cons.mp hu with rfl | hu
    · exact st_keys h
    · obtain ⟨x, hx, rfl⟩ := List.mem_map.mp hu
      rw [mul_flat]
      exact st_keys (hg x hx)
  refine ⟨_, _, star_at rfl, _, lst_n (by simp only [List.length_cons, List.length_map]; exact szL (by omega)), ?_⟩
  refine ⟨_, _, side_ok F h1 (·.2) F.b, ?_⟩
  refine ⟨_, _, star_at rfl, _, lst_n (by simp only [List.length_cons, List.length_map]; exact szL (by omega)), ?_⟩
  refine ⟨_, _, side_ok F h2 (·.1) F.a, ?_⟩
  have := sum_len (k2 (·.2) F.b _ h1)
  have := F.few
  exact ⟨_, _, nl_eq (sumT_canon _ _) (by omega), rfl, rfl⟩
end
end Lw42
set_option Elab.async false
set_option linter.all false
set_option maxRecDepth 100000
set_option maxHeartbeats 1000000
/-! k42: forms that are none, what the law counts, and that it is due -/
namespace Lw42
open PySem PySem.Spec L2 Dl Mx Ds Lw01 Lw41
/-- the counts that are asked: of no thing, of one of a kind -/
def cm : Option Str → KV
  | none => []
  | some k => [(k, 1)]
def cnC (c : Option Str) (t : Tot) : Int := t.2 + match c with
  | none => 0
  | some k => cntP t.1 k
def mor (c : Option Str) (f : Lf) : Int := cnC c f.1 - cnC c f.2
def ovr (c : Option Str) (f : Lf) (ft : Ft) : Int := mor c f - (ft.map fun x => x.2 * mor c x.1).sum
def dueB (f : Lf) (ft : Ft) (ks : List Str) : Bool := decide (0 ≤ ovr none f ft) && ks.all fun k => decide (ovr none f ft ≤ ovr (some k) f ft)
theorem sum_none : ∀ ps : List Pt, (ps.map fun p => p.2 * (kvGet (cm none) p.1).getD 0).sum = 0
  | [] => rfl
  | p :: ps => by
    rw [List.map_cons, List.sum_cons, sum_none ps]
    show p.2 * 0 + 0 = 0
    omega
theorem sum_some (k : Str) : ∀ ps : List Pt, (ps.map fun p => p.2 * (kvGet (cm (some k)) p.1).getD 0).sum = cntP ps k
  | [] => rfl
  | p :: ps => by
    rw [List.map_cons, List.sum_cons, sum_some k ps, cnt_cons]
    show p.2 * (kvGet [(k, 1)] p.1).getD 0 + _ = _
    rw [get_cons]
    by_cases h : k = p.1
    · rw [if_pos h, if_pos h.symm]
      show p.2 * 1 + _ = _
      omega
    · rw [if_neg h, if_neg fun z => h z.symm]
      show p.2 * 0 + _ = _
      omega
theorem sum_cm (c : Option Str) (t : Tot) : t.2 + (t.1.map fun p => p.2 * (kvGet (cm c) p.1).getD 0).sum = cnC c t := by
  unfold cnC
  cases c with
  | none => rw [sum_none]
  | some k => rw [sum_some]
theorem cm_val (c : Option Str) (k : Str) : ((kvGet (cm c) k).getD 0).natAbs < 2 ^ 100 := by
  cases c with
  | none => show (0 : Int).natAbs < 2 ^ 100; decide
  | some k2 =>
    show ((kvGet [(k2, 1)] k).getD 0).natAbs < _
    rw [get_cons]
    split
    · show (1 : Int).natAbs < 2 ^ 100; decide
    · show (0 : Int).natAbs < 2 ^ 100; decide
section
variable {S : Type} {s : S}
theorem count_eq {c : Option Str} {t : Tot} (hl : t.1.length ≤ 1000) (hp : ∀ p ∈ t.1, p.2.natAbs < 2 ^ 100) : K_w_count [totD t, .dict (kvD (cm c))] s = some (.int (cnC c t), s) := by
  refine ok_eq ?_
  unfold K_w_count B_w_count
  refine k_fn (k_ret ?_)
  have h1 := k_mapX (S := S) (s := s) (xs := t.1) (F := ptD) (G := fun p => .int (p.2 * (kvGet (cm c) p.1).getD 0)) (fi := iOf asT (cB pIx (cVar 0) (cK (.int 0)))) (t := gTp (gC (gNm 2) (gC (gNm 3) gN0))) (f := cB pMul (cVar 3) (cDgx (kOf (cVar 1)) (cVar 2) (cK (.int 0)))) (vs := [2, 3]) (ρ := [some (totD t), some (.dict (kvD (cm c))), none, none]) (szL (by omega)) rfl fun p hpp => by
    refine ⟨[some (totD t), some (.dict (kvD (cm c))), some (.str p.1), some (.int p.2)], rfl, ok_eq ?_⟩
    simp_arith [okd_Dgx, okd_Of]
    refine ⟨_, rfl, kvD_hn _, .inr p.1, rfl, ?_⟩
    rw [kvD_val]
    have := v_mulB (hp p hpp) (cm_val c p.1)
    cases h : kvGet (cm c) p.1 with
    | none =>
      rw [h] at this
      exact ⟨_, this, rfl⟩
    | some z =>
      rw [h] at this
      exact ⟨_, this, rfl⟩
  simp_arith [t_i0, t_i1]
  refine ⟨_, _, h1, ?_⟩
  rw [show (t.1.map fun p => (PyData.int (p.2 * (kvGet (cm c) p.1).getD 0) : D)) = (t.1.map fun p => p.2 * (kvGet (cm c) p.1).getD 0).map .int from by rw [List.map_map]; rfl]
  refine ⟨_, v_sum _, ?_⟩
  walk_at "E"
  rw [sum_cm]
abbrev Fmor : Fn S := K_w_more K_w_count
abbrev Fovr : Fn S := K_w_over Fmor
abbrev Fdue : Fn S := K_w_due Fovr
structure Sz (f : Lf) : Prop where
  l1 : f.1.1.length ≤ 1000
  l2 : f.2.1.length ≤ 1000
  p1 : ∀ p ∈ f.1.1, p.2.natAbs < 2 ^ 100
  p2 : ∀ p ∈ f.2.1, p.2.natAbs < 2 ^ 100
theorem sz_of {xs : List Str} {B : Int} {f : Lf} (hx : xs.length ≤ 6) (hB : B < 2 ^ 100) (h1 : St xs B f.1) (h2 : St xs B f.2) : Sz f :=
  ⟨by have := h1.len; omega, by have := h2.len; omega, fun p hp => nat_lt (h1.ps p hp).1 (h1.ps p hp).2 hB, fun p hp => nat_lt (h2.ps p hp).1 (h2.ps p hp).2 hB⟩
theorem more_eq {c : Option Str} {f : Lf} (h : Sz f) : Fmor [leD f, .dict (kvD (cm c))] s = some (.int (mor c f), s) := by
  refine ok_eq ?_
  unfold Fmor K_w_more B_w_more
  refine k_fn (k_ret ?_)
  simp_arith [l_i1, l_i2]
  exact ⟨_, _, count_eq h.l1 h.p1, _, _, count_eq h.l2 h.p2, _, rfl, rfl, rfl⟩
theorem cnt_bd {xs : List Str} {B : Int} {t : Tot} (h : St xs B t) (c : Option Str) : 0 ≤ cnC c t ∧ cnC c t ≤ 2 * B := by
  have hn := h.n
  unfold cnC
  cases c with
  | none => exact ⟨by show 0 ≤ t.2 + 0; omega, by show t.2 + 0 ≤ _; omega⟩
  | some k =>
    have : 0 ≤ cntP t.1 k ∧ cntP t.1 k ≤ B := by
      by_cases hk : k ∈ t.1.map (·.1)
      · obtain ⟨p, hp, rfl⟩ := List.mem_map.mp hk
        rw [cnt_nd (canon_nd h.can) p hp]
        exact h.ps p hp
      · rw [cnt_not hk]
        omega
    exact ⟨by show 0 ≤ t.2 + cntP t.1 k; omega, by show t.2 + cntP t.1 k ≤ _; omega⟩
theorem mor_bd {xs : List Str} {ft : Ft} (F : Fts xs ft) {x : Lf × Int} (hx : x ∈ ft) (c : Option Str) : -(2 * 10 ^ 9) ≤ mor c x.1 ∧ mor c x.1 ≤ 2 * 10 ^ 9 := by
  have h1 := cnt_bd (F.a x hx) c
  have h2 := cnt_bd (F.b x hx) c
  unfold mor
  omega
theorem ix_nat {ds : List D} {j : Nat} {d : D} (h : ds[j]? = some d) : pIx (.tuple ds) (.int (j : Nat)) = some d := by
  simp only [pIx]
  exact atI_nat h
theorem abs_lt {z : Int} (h0 : -(2 ^ 99) ≤ z) (h1 : z ≤ 2 ^ 99) : z.natAbs < 2 ^ 100 := by
  have : ((z.natAbs : Nat) : Int) ≤ 2 ^ 99 := by omega
  have h : ((z.natAbs : Nat) : Int) < ((2 ^ 100 : Nat) : Int) := Int.lt_of_le_of_lt this (by decide)
  exact Int.ofNat_lt.mp h
theorem over_eq {xs : List Str} {ft : Ft} (F : Fts xs ft) {c : Option Str} {f : Lf} (h : Sz f) : Fovr [leD f, fsD ft, tsD ft, .dict (kvD (cm c))] s = some (.int (ovr c f ft), s) := by
  have hl := F.len
  refine ok_eq ?_
  unfold Fovr K_w_over B_w_over
  refine k_fn (k_seq (k_set ?_))
  walk_at "E"
  refine ⟨_, _, more_eq h, ?_⟩
  refine k_seq (k_forP (fun ds s' => ds = rngD 0 ft.length ∧ s' = s) ?_ ?_)
  · simp_arith [List.length_map]
    rw [pr1 (by omega) (by omega)]
    exact ⟨_, rfl, rfl⟩
  rintro ds s1 ⟨rfl, rfl⟩
  refine ⟨fun j ρ s' => ∃ o, ρ = [some (leD f), some (fsD ft), some (tsD ft), some (.dict (kvD (cm c))), some (.int (mor c f - ((ft.take j).map fun x => x.2 * mor c x.1).sum)), o] ∧ s' = s1, ⟨none, by simp, rfl⟩, ?_, ?_⟩
  · rintro j d ρ s2 hd ⟨o, rfl, rfl⟩
    obtain ⟨hj, rfl⟩ := rng_get hd
    have hx : ft[j]? = some ft[j] := List.getElem?_eq_getElem hj
    have hm : ft[j] ∈ ft := List.getElem_mem hj
    generalize ft[j] = x at hx hm
    refine ⟨_, rfl, ?_⟩
    refine k_set ?_
    walk_at "E"
    rw [show (0 : Int) + (j : Int) = ((j : Nat) : Int) by omega]
    have S1 := sz_of (f := x.1) F.few (by decide) (F.a x hm) (F.b x hm)
    have b := mor_bd F hm c
    have t := F.t x hm
    refine ⟨_, ix_nat (d := .int x.2) (by rw [List.getElem?_map, hx]; rfl), _, ix_nat (d := leD x.1) (by rw [List.getElem?_map, hx]; rfl), ?_⟩
    refine ⟨_, _, more_eq S1, ?_⟩
    refine ⟨_, v_mulB (nat_lt t.1 t.2 (by decide)) (abs_lt (by omega) (by omega)), ?_⟩
    walk_at "E"
    refine ⟨some (.int (j : Nat)), ?_⟩
    rw [take_snoc hx, List.map_append, List.sum_append]
    have : ∀ a b c : Int, a - b - c = a - (b + (c + 0)) := fun a b c => by omega
    rw [this]
    rfl
  · rintro ρ s2 ⟨o, rfl, rfl⟩
    rw [rng_len, List.take_length]
    refine k_ret ?_
    walk_at "E"
    rfl
theorem due_eq {xs : List Str} {ft : Ft} (F : Fts xs ft) {f : Lf} (h : Sz f) {ks : List Str} (hk : ks.length ≤ 1000) : Fdue [leD f, fsD ft, tsD ft, .list (ks.map .str)] s = some (.bool (dueB f ft ks), s) := by
  have hl := F.len
  refine ok_eq ?_
  unfold Fdue K_w_due B_w_due
  refine k_fn (k_seq (k_sIf ?_))
  have h1 := k_filX (S := S) (s := s) (xs := f :: ft.map (·.1)) (F := leD) (G := leD) (c := fun _ => false) (fi := iOf asT (cB pAdd (cN pTup (aCons (cVar 0) aNil)) (cVar 1))) (t := gNm 5) (q := qT (cB pNe (cB pIx (cVar 5) (cK (.int 0))) (cK (.str "least")))) (f := cVar 5) (vs := [5]) (ρ := [some (leD f), some (fsD ft), some (tsD ft), some (.list (ks.map .str)), none, none, none]) (by simp only [List.length_cons, List.length_map]; exact szL (by omega)) (by
      refine ok_eqL ?_
      walk_at "E"
      refine ⟨.tuple ([leD f] ++ ft.map fun x => leD x.1), ?_, ?_⟩
      · show (if [leD f].length + (ft.map fun x => leD x.1).length ≤ sizeLine then some (PyData.tuple ([leD f] ++ ft.map fun x => leD x.1)) else none) = _
        rw [if_pos (by simp only [List.length_cons, List.length_nil, List.length_map]; exact szL (by omega))]
      · simp_arith [List.map_map]
        rfl) fun x hx => by
    refine ⟨[some (leD f), some (fsD ft), some (tsD ft), some (.list (ks.map .str)), none, some (leD x), none], rfl, ok_eqB ?_, fun z => by cases z⟩
    simp_arith [l_i0]
  rw [List.filter_eq_nil_iff.mpr (fun _ _ => by decide)] at h1
  walk_at "E"
  refine ⟨_, _, h1, ?_⟩
  simp_arith [List.isEmpty_nil]
  refine k_nx (k_seq (k_set ?_))
  simp_arith [okd_Nd, okd_New]
  refine ⟨rfl, _, _, over_eq (c := none) F h, ?_⟩
  refine k_seq (k_sIf ?_)
  walk_at "E"
  unfold dueB
  by_cases h0 : 0 ≤ ovr none f ft
  · rw [decide_eq_false (show ¬ ovr none f ft < 0 by omega), decide_eq_true h0]
    walk_at "E"
    refine k_nx (k_ret ?_)
    have h2 := k_filX (S := S) (s := s) (xs := ks) (F := .str) (G := .str) (c := fun k => decide (ovr (some k) f ft < ovr none f ft)) (fi := iOf asL (cVar 3)) (t := gNm 6) (q := qT (cB pLt (cCall 4 Fovr (aCons (cVar 0) (aCons (cVar 1) (aCons (cVar 2) (aCons (cNd (kDisp (kCons (cVar 6) (cK (.int 1)) kNil))) aNil))))) (cVar 4))) (f := cVar 6) (vs := [6]) (ρ := [some (leD f), some (fsD ft), some (tsD ft), some (.list (ks.map .str)), some (.int (ovr none f ft)), none, none]) (szL (by omega)) rfl fun k hk => by
      refine ⟨[some (leD f), some (fsD ft), some (tsD ft), some (.list (ks.map .str)), some (.int (ovr none f ft)), none, some (.str k)], rfl, ok_eqB ?_, fun _ => rfl⟩
      simp_arith [okd_Nd, okd_Dsp, okd_Cns, okd_Nl]
      exact ⟨⟨rfl, by decide⟩, rfl, _, _, over_eq (c := some k) F h, _, rfl, _, rfl, rfl, rfl⟩
    walk_at "E"
    refine ⟨_, _, h2, ?_⟩
    walk_at "E"
    refine congrArg PyData.bool ?_
    clear h2 h1 hk
    induction ks with
    | nil => rfl
    | cons k ks ih =>
      rw [List.all_cons]
      by_cases hc : ovr (some k) f ft < ovr none f ft
      · rw [List.filter_cons_of_pos (by simpa using hc), decide_eq_false (by omega)]
        rfl
      · rw [List.filter_cons_of_neg (by simpa using hc), decide_eq_true (by omega), Bool.true_and]
        exact ih
  · rw [decide_eq_true (show ovr none f ft < 0 by omega), decide_eq_false h0]
    walk_at "E"
    refine k_ret ?_
    walk_at "E"
    rw [Bool.false_and]
end
end Lw42
set_option Elab.async false
set_option linter.all false
set_option maxRecDepth 100000
set_option maxHeartbeats 1000000
/-! k42: what is due is what summed tells -/
namespace Lw42
open PySem PySem.Spec L2 Dl Mx Ds Lw01 Lw41
theorem cnt_mul (n : Int) (k : Str) : ∀ ps : List Pt, cntP (ps.map fun p => (p.1, p.2 * n)) k = n * cntP ps k
  | [] => by show (0 : Int) = n * 0; omega
  | p :: ps => by
    rw [List.map_cons, cnt_cons, cnt_cons, cnt_mul n k ps, Int.mul_add]
    by_cases h : p.1 = k
    · rw [if_pos h, if_pos h, Int.mul_comm p.2 n]
    · rw [if_neg h, if_neg h]
      omega
theorem ovr_kind (f : Lf) (k : Str) : ∀ ft : Ft, ovr (some k) f ft - ovr none f ft = (cntP f.1.1 k + (ft.map fun x => x.2 * cntP x.1.2.1 k).sum) - (cntP f.2.1 k + (ft.map fun x => x.2 * cntP x.1.1.1 k).sum)
  | [] => by
    show (f.1.2 + cntP f.1.1 k - (f.2.2 + cntP f.2.1 k) - 0) - (f.1.2 + 0 - (f.2.2 + 0) - 0) = cntP f.1.1 k + 0 - (cntP f.2.1 k + 0)
    omega
  | x :: ft => by
    have ih := ovr_kind f k ft
    unfold ovr at *
    simp only [List.map_cons, List.sum_cons]
    have e : x.2 * mor (some k) x.1 = x.2 * mor none x.1 + (x.2 * cntP x.1.1.1 k - x.2 * cntP x.1.2.1 k) := by
      rw [← Int.mul_sub, ← Int.mul_add]
      refine congrArg (x.2 * ·) ?_
      show x.1.1.2 + cntP x.1.1.1 k - (x.1.2.2 + cntP x.1.2.1 k) = x.1.1.2 + 0 - (x.1.2.2 + 0) + (cntP x.1.1.1 k - cntP x.1.2.1 k)
      omega
    rw [e]
    omega
theorem ovr_none (f : Lf) : ∀ ft : Ft, ovr none f ft = (f.1.2 + (ft.map fun x => x.1.2.2 * x.2).sum) - (f.2.2 + (ft.map fun x => x.1.1.2 * x.2).sum)
  | [] => by
    show f.1.2 + 0 - (f.2.2 + 0) - 0 = f.1.2 + 0 - (f.2.2 + 0)
    omega
  | x :: ft => by
    have ih := ovr_none f ft
    unfold ovr at *
    simp only [List.map_cons, List.sum_cons]
    have e : x.2 * mor none x.1 = x.1.1.2 * x.2 - x.1.2.2 * x.2 := by
      rw [← Int.sub_mul, Int.mul_comm]
      refine congrArg (· * x.2) ?_
      show x.1.1.2 + 0 - (x.1.2.2 + 0) = _
      omega
    rw [e]
    omega
theorem side_cnt (t : Tot) (g : Lf → Tot) (k : Str) (ft : Ft) : cntP (sumOf (t :: ft.map fun x => mulT (g x.1) x.2)).1 k = cntP t.1 k + (ft.map fun x => x.2 * cntP (g x.1).1 k).sum := by
  unfold sumOf
  rw [sumT_cnt, flat_cnt, List.map_cons, List.sum_cons, List.map_map]
  refine congrArg (cntP t.1 k + ·) (congrArg List.sum (List.map_congr_left fun x _ => ?_))
  exact cnt_mul x.2 k (g x.1).1
theorem side_num (t : Tot) (g : Lf → Tot) (ft : Ft) : (sumOf (t :: ft.map fun x => mulT (g x.1) x.2)).2 = t.2 + (ft.map fun x => (g x.1).2 * x.2).sum := by
  show ((t :: ft.map fun x => mulT (g x.1) x.2).map (·.2)).sum = _
  rw [List.map_cons, List.sum_cons, List.map_map]
  rfl
theorem cnt_nn {xs : List Str} {B : Int} {t : Tot} (h : St xs B t) (k : Str) : 0 ≤ cntP t.1 k := by
  by_cases hk : k ∈ t.1.map (·.1)
  · obtain ⟨p, hp, rfl⟩ := List.mem_map.mp hk
    rw [cnt_nd (canon_nd h.can) p hp]
    exact (h.ps p hp).1
  · rw [cnt_not hk]
    exact Int.le_refl _
theorem sum_nn : ∀ {l : List Int}, (∀ z ∈ l, 0 ≤ z) → 0 ≤ l.sum
  | [], _ => Int.le_refl _
  | z :: l, h => by
    rw [List.sum_cons]
    have := h z List.mem_cons_self
    have := sum_nn fun y hy => h y (List.mem_cons_of_mem _ hy)
    omega
theorem due_sum {xs : List Str} {ft : Ft} {B : Int} {f : Lf} (F : Fts xs ft) (h1 : St xs B f.1) (h2 : St xs B f.2) : dueB f ft xs = sumB f ft := by
  have eA : ∀ k, cntP (sumOf (f.1 :: othersT ft)).1 k = cntP f.1.1 k + (ft.map fun x => x.2 * cntP x.1.2.1 k).sum := fun k => side_cnt f.1 (·.2) k ft
  have eB : ∀ k, cntP (sumOf (f.2 :: onesT ft)).1 k = cntP f.2.1 k + (ft.map fun x => x.2 * cntP x.1.1.1 k).sum := fun k => side_cnt f.2 (·.1) k ft
  have nA : (sumOf (f.1 :: othersT ft)).2 = f.1.2 + (ft.map fun x => x.1.2.2 * x.2).sum := side_num f.1 (·.2) ft
  have nB : (sumOf (f.2 :: onesT ft)).2 = f.2.2 + (ft.map fun x => x.1.1.2 * x.2).sum := side_num f.2 (·.1) ft
  have pA : ∀ k, 0 ≤ cntP (sumOf (f.1 :: othersT ft)).1 k := fun k => by
    rw [eA]
    have := cnt_nn h1 k
    have := sum_nn (l := ft.map fun x => x.2 * cntP x.1.2.1 k) fun z hz => by
      obtain ⟨x, hx, rfl⟩ := List.mem_map.mp hz
      exact Int.mul_nonneg (F.t x hx).1 (cnt_nn (F.b x hx) k)
    omega
  have kB : ∀ k, k ∈ (sumOf (f.2 :: onesT ft)).1.map (·.1) → k ∈ xs := fun k hk => by
    unfold sumOf at hk
    rw [sumT_mem] at hk
    obtain ⟨p, hp, rfl⟩ := List.mem_map.mp hk
    refine keys_sub (ts := f.2 :: onesT ft) (fun t ht => ?_) p hp
    rcases List.mem_cons.mp ht with rfl | ht
    · exact st_keys h2
    · obtain ⟨x, hx, rfl⟩ := List.mem_map.mp ht
      rw [mul_flat]
      exact st_keys (F.a x hx)
  have cB : Canon (sumOf (f.2 :: onesT ft)) := sumT_canon _ _
  have ek : ∀ k, (ovr none f ft ≤ ovr (some k) f ft) ↔ cntP (sumOf (f.2 :: onesT ft)).1 k ≤ cntP (sumOf (f.1 :: othersT ft)).1 k := fun k => by
    have := ovr_kind f k ft
    rw [eA, eB]
    omega
  have e0 := ovr_none f ft
  unfold dueB sumB nlB
  rw [nA, nB]
  refine congr (congrArg Bool.and ?_) ?_
  · rw [decide_eq_decide]
    omega
  · rw [Bool.eq_iff_iff, List.all_eq_true, List.all_eq_true]
    constructor
    · intro h p hp
      have := (ek p.1).mp (of_decide_eq_true (h p.1 (kB p.1 (List.mem_map.mpr ⟨p, hp, rfl⟩))))
      rw [cnt_nd (canon_nd cB) p hp] at this
      exact decide_eq_true this
    · intro h k hk
      refine decide_eq_true ((ek k).mpr ?_)
      by_cases hm : k ∈ (sumOf (f.2 :: onesT ft)).1.map (·.1)
      · obtain ⟨p, hp, rfl⟩ := List.mem_map.mp hm
        rw [cnt_nd (canon_nd cB) p hp]
        exact of_decide_eq_true (h p hp)
      · rw [cnt_not hm]
        exact pA k
end Lw42
set_option Elab.async false
set_option linter.all false
set_option maxRecDepth 100000
set_option maxHeartbeats 1000000
/-! k42: forms that are none; told; sums drawn -/
namespace Lw42
open PySem PySem.Spec L2 Dl Mx Ds Lw01 Lw41
/-- a form that is no S >= T -/
def Odd (o : D) : Prop := o = .tuple [.str "false"] ∨ ∃ f : Lf, o = .tuple [.str "not", leD f]
theorem odd_i0 {o : D} (h : Odd o) : ∃ w : Str, pIx o (.int 0) = some (.str w) ∧ (w = (Str.ofString "least")) = False := by
  rcases h with rfl | ⟨f, rfl⟩
  · exact ⟨_, rfl, eq_false (by decide)⟩
  · exact ⟨_, rfl, eq_false (by decide)⟩
section
variable {S : Type} {s : S}
theorem summed_odd {xs : List Str} {ft : Ft} (F : Fts xs ft) {o : D} (h : Odd o) : Fsd [o, fsD ft, tsD ft] s = some (.bool false, s) := by
  obtain ⟨w, e, hw⟩ := odd_i0 h
  refine ok_eq ?_
  unfold Fsd K_summed B_summed
  refine k_fn (k_seq (k_sIf ?_))
  simp_arith [List.length_map]
  refine ⟨_, _, any_neg F, ?_⟩
  walk_at "E"
  refine k_nx (k_seq (k_sIf ?_))
  simp_arith [e, hw]
  refine k_ret ?_
  walk_at "E"
theorem summed_odd2 {xs : List Str} {ft : Ft} (F : Fts xs ft) {f : Lf} {o : D} {r : Int} (h : Odd o) (hr : 0 ≤ r) : Fsd [leD f, .tuple (ft.map (fun x => leD x.1) ++ [o]), .tuple (ft.map (fun x => (.int x.2 : D)) ++ [.int r])] s = some (.bool false, s) := by
  obtain ⟨w, e, hw⟩ := odd_i0 h
  have hl := F.len
  refine ok_eq ?_
  unfold Fsd K_summed B_summed
  refine k_fn (k_seq (k_sIf ?_))
  simp_arith [List.length_map, List.length_append]
  have a1 := k_anyX (S := S) (s := s) (xs := ft.map some ++ [none]) (F := fun x => match x with | some x => .int x.2 | none => .int r) (fi := iOf asT (cVar 2)) (t := gNm 5) (f := cB pLt (cVar 5) (cK (.int 0))) (vs := [5]) (ρ := [some (leD f), some (.tuple (ft.map (fun x => leD x.1) ++ [o])), some (.tuple (ft.map (fun x => (.int x.2 : D)) ++ [.int r])), none, none, none, none]) (p := fun _ => false) (by
      rw [List.map_append, List.map_map]
      rfl) fun x hx => by
    refine ⟨_, rfl, ok_eq ?_⟩
    rcases List.mem_append.mp hx with hx | hx
    · obtain ⟨y, hy, rfl⟩ := List.mem_map.mp hx
      have := (F.t y hy).1
      show Ok (cB pLt (cVar 5) (cK (.int 0)) [some (leD f), some (.tuple (ft.map (fun x => leD x.1) ++ [o])), some (.tuple (ft.map (fun x => (.int x.2 : D)) ++ [.int r])), none, none, some (.int y.2), none] s) _
      walk_at "E"
      rw [decide_eq_false (by omega)]
    · rw [List.mem_singleton.mp hx]
      show Ok (cB pLt (cVar 5) (cK (.int 0)) [some (leD f), some (.tuple (ft.map (fun x => leD x.1) ++ [o])), some (.tuple (ft.map (fun x => (.int x.2 : D)) ++ [.int r])), none, none, some (.int r), none] s) _
      walk_at "E"
      rw [decide_eq_false (by omega)]
  rw [List.any_eq_false.mpr (fun _ _ => by decide)] at a1
  refine ⟨_, _, a1, ?_⟩
  walk_at "E"
  refine k_nx (k_seq (k_sIf ?_))
  simp_arith [l_i0]
  have a2 := k_anyX (S := S) (s := s) (xs := ft.map some ++ [none]) (F := fun x => match x with | some x => leD x.1 | none => o) (fi := iOf asT (cVar 1)) (t := gNm 6) (f := cB pNe (cB pIx (cVar 6) (cK (.int 0))) (cK (.str "least"))) (vs := [6]) (ρ := [some (leD f), some (.tuple (ft.map (fun x => leD x.1) ++ [o])), some (.tuple (ft.map (fun x => (.int x.2 : D)) ++ [.int r])), none, none, none, none]) (p := fun x => x.isNone) (by
      rw [List.map_append, List.map_map]
      rfl) fun x hx => by
    refine ⟨_, rfl, ok_eq ?_⟩
    rcases List.mem_append.mp hx with hx | hx
    · obtain ⟨y, hy, rfl⟩ := List.mem_map.mp hx
      show Ok (cB pNe (cB pIx (cVar 6) (cK (.int 0))) (cK (.str "least")) [some (leD f), some (.tuple (ft.map (fun x => leD x.1) ++ [o])), some (.tuple (ft.map (fun x => (.int x.2 : D)) ++ [.int r])), none, none, none, some (leD y.1)] s) _
      simp_arith [l_i0]
      rfl
    · rw [List.mem_singleton.mp hx]
      show Ok (cB pNe (cB pIx (cVar 6) (cK (.int 0))) (cK (.str "least")) [some (leD f), some (.tuple (ft.map (fun x => leD x.1) ++ [o])), some (.tuple (ft.map (fun x => (.int x.2 : D)) ++ [.int r])), none, none, none, some o] s) _
      simp_arith [e, hw]
      rfl
  have hany : ((ft.map some ++ [none]).any fun x => x.isNone) = true := by simp
  rw [hany] at a2
  refine ⟨_, _, a2, ?_⟩
  walk_at "E"
  refine k_ret ?_
  walk_at "E"
abbrev Ftold : Fn S := K_w_told Fsd
theorem told_eq {a b c : D} {x y : Bool} (h : Fsd [a, b, c] s = some (.bool x, s)) : Ftold [a, b, c, .bool y] s = some (.bool (x == y), s) := by
  refine ok_eq ?_
  unfold Ftold K_w_told B_w_told
  refine k_fn (k_seq (k_set ?_))
  walk_at "E"
  refine ⟨_, _, h, ?_⟩
  refine k_ret ?_
  walk_at "E"
  refine ⟨_, rfl, ?_⟩
  walk_at "E"
  cases x <;> cases y <;> rfl
/-! ### a dict told as a sum -/
abbrev gv (m : KV) (k : Str) : Int := (kvGet m k).getD 0
def sideT (m : KV) (n : Int) : Tot := (((sortS (m.map (·.1))).filter fun k => decide (0 < gv m k)).map fun k => (k, gv m k), n)
theorem side_eq {m : KV} {n : Int} (hl : m.length < 64) : K_w_side [.dict (kvD m), .int n] s = some (totD (sideT m n), s) := by
  refine ok_eq ?_
  unfold K_w_side B_w_side
  refine k_fn (k_ret ?_)
  have h1 := k_filX (S := S) (s := s) (xs := sortS (m.map (·.1))) (F := .str) (G := fun k => ptD (k, gv m k)) (c := fun k => decide (0 < gv m k)) (fi := iOf asL (cNl (aSortK (kOf (cVar 0))))) (t := gNm 2) (q := qT (cB pGt (cDx (kOf (cVar 0)) (cVar 2)) (cK (.int 0)))) (f := cN pTup (aCons (cVar 2) (aCons (cDx (kOf (cVar 0)) (cVar 2)) aNil))) (vs := [2]) (ρ := [some (.dict (kvD m)), some (.int n), none]) (by
      rw [(sortS_perm _).length_eq, List.length_map]
      exact szL (by omega)) (by
      refine ok_eqL ?_
      simp_arith [okd_SortK, okd_Of]
      exact ⟨_, rfl, kvD_hn _, _, kvD_keys m, by rw [List.length_map]; exact hl, rfl⟩) fun k hk => by
    obtain ⟨v, e⟩ := get_some m k (sort_mem.mp hk)
    have eg : gv m k = v := by unfold gv; rw [e]; rfl
    have ed : valD (kvD m) (.inr k) = some (.int v) := by rw [kvD_val, e]; rfl
    refine ⟨[some (.dict (kvD m)), some (.int n), some (.str k)], rfl, ok_eqB ?_, fun _ => ok_eq ?_⟩
    · simp_arith [okd_Dx, okd_Of]
      exact ⟨_, rfl, kvD_hn _, .inr k, _, rfl, ed, _, rfl, _, rfl, by rw [eg]⟩
    · simp_arith [okd_Dx, okd_Of]
      exact ⟨_, rfl, kvD_hn _, .inr k, _, rfl, ed, by rw [eg]; rfl⟩
  walk_at "E"
  refine ⟨_, _, h1, ?_⟩
  walk_at "E"
  unfold sideT totD
  rw [List.map_map]
  rfl
/-- a dict of kinds and numbers -/
structure Dk (xs : List Str) (B : Int) (m : KV) : Prop where
  nd : (m.map (·.1)).Nodup
  sub : ∀ k ∈ m.map (·.1), k ∈ xs
  bd : ∀ k, 0 ≤ gv m k ∧ gv m k ≤ B
theorem Dk.len {xs : List Str} {B : Int} {m : KV} (h : Dk xs B m) : m.length ≤ xs.length := by
  have := nd_sub h.nd h.sub
  rwa [List.length_map] at this
theorem Dk.nil {xs : List Str} {B : Int} (hB : 0 ≤ B) : Dk xs B [] := ⟨List.nodup_nil, fun k hk => (by cases hk), fun k => ⟨Int.le_refl _, hB⟩⟩
theorem gv_put (m : KV) (a k : Str) (v : Int) : gv (kvPut m a v) k = if a = k then v else gv m k := by
  unfold gv
  rw [get_put]
  split <;> rfl
theorem Dk.put {xs : List Str} {B : Int} {m : KV} (h : Dk xs B m) {k : Str} {v : Int} (hk : k ∈ xs) (h0 : 0 ≤ v) (h1 : v ≤ B) : Dk xs B (kvPut m k v) := by
  refine ⟨?_, fun j hj => ?_, fun j => ?_⟩
  · rw [keys_put]
    split
    · exact h.nd
    · exact nodup_snoc h.nd (by assumption)
  · rw [keys_put] at hj
    split at hj
    · exact h.sub j hj
    · rcases List.mem_append.mp hj with hj | hj
      · exact h.sub j hj
      · rw [List.mem_singleton.mp hj]
        exact hk
  · rw [gv_put]
    split
    · exact ⟨h0, h1⟩
    · exact h.bd j
theorem side_St {xs : List Str} {B : Int} {m : KV} {n : Int} (h : Dk xs B m) (h0 : 0 ≤ n) (h1 : n ≤ B) : St xs B (sideT m n) := by
  have e : (sideT m n).1.map (·.1) = (sortS (m.map (·.1))).filter fun k => decide (0 < gv m k) := by
    unfold sideT
    rw [List.map_map]
    exact List.map_id' _
  refine ⟨?_, fun p hp => ?_, fun p hp => ?_, h0, h1⟩
  · unfold Canon
    rw [e]
    exact (pw_le_lt (sortS_pw _) (sort_nd h.nd)).filter _
  · have : p.1 ∈ (sideT m n).1.map (·.1) := List.mem_map.mpr ⟨p, hp, rfl⟩
    rw [e, List.mem_filter, sort_mem] at this
    exact h.sub _ this.1
  · obtain ⟨k, _, rfl⟩ := List.mem_map.mp hp
    exact h.bd k
theorem side_gv {xs : List Str} {B : Int} {m : KV} {n : Int} (h : Dk xs B m) (h0 : 0 ≤ n) (h1 : n ≤ B) (k : Str) : cntP (sideT m n).1 k = gv m k := by
  have hs := side_St h h0 h1
  by_cases hk : k ∈ m.map (·.1) ∧ 0 < gv m k
  · have hm : (k, gv m k) ∈ (sideT m n).1 := List.mem_map.mpr ⟨k, List.mem_filter.mpr ⟨sort_mem.mpr hk.1, decide_eq_true hk.2⟩, rfl⟩
    exact cnt_nd (canon_nd hs.can) _ hm
  · have z : gv m k = 0 := by
      by_cases hk1 : k ∈ m.map (·.1)
      · have := (h.bd k).1
        have : ¬ 0 < gv m k := fun z => hk ⟨hk1, z⟩
        omega
      · unfold gv
        rw [get_none m k hk1]
        rfl
    rw [z, cnt_not]
    intro hm
    obtain ⟨p, hp, rfl⟩ := List.mem_map.mp hm
    obtain ⟨j, hj, rfl⟩ := List.mem_map.mp hp
    have := of_decide_eq_true (List.mem_filter.mp hj).2
    have z : gv m j = 0 := z
    omega
end
end Lw42
set_option Elab.async false
set_option linter.all false
set_option maxRecDepth 100000
set_option maxHeartbeats 1000000
/-! k42: what is drawn -/
namespace Lw42
open PySem PySem.Spec L2 Dl Mx Ds Lw01 Lw41
theorem ok_kinds42 {s : DS} {n : Nat} (h10 : n ≤ 10) {Q : D → DS → Prop} (q : ∀ xs s', Kds xs n → Q (.list (xs.map .str)) s') : Ok (Lw42.K_w_kinds (Lw42.K_w_word Fdraw8) Fdraw8 [hnd 0, .int (n : Nat)] s) Q := Lw41.ok_kinds h10 q
/-- one of a written row of numbers -/
theorem ix_list {ns : List Int} {r : Int} (h0 : 0 ≤ r) (h1 : r < ns.length) : ∃ z ∈ ns, pIx (.list (ns.map .int)) (.int r) = some (.int z) := by
  obtain ⟨j, rfl⟩ : ∃ j : Nat, r = j := ⟨r.toNat, by omega⟩
  have hj : j < ns.length := by omega
  refine ⟨ns[j], List.getElem_mem hj, ?_⟩
  simp only [pIx]
  exact atI_nat (by rw [List.getElem?_map, List.getElem?_eq_getElem hj]; rfl)
theorem ok_sum42 {s : DS} {xs : List Str} {n : Nat} (hk : Kds xs n) (hn : n ≤ 6) {g : Int} (g0 : 3 < g) (g1 : g ≤ 100000000) {Q : D → DS → Prop} (q : ∀ t s', St xs (10 ^ 9) t → Q (totD t) s') : Ok (K_w_sum Fdraw8 [hnd 0, .list (xs.map .str), .int g] s) Q := by
  have hl := hk.len
  unfold K_w_sum B_w_sum
  refine k_fn (k_seq (k_own ?_))
  walk_at "E"
  refine k_seq (k_forP (fun ds s' => ds = (sortS xs).map .str) ?_ ?_)
  · walk_at "E"
    rw [v_sorted (by omega)]
    walk_at "E"
  · rintro ds s1 rfl
    refine ⟨fun j ρ _ => ∃ (ps : List Pt) (o : Option D), ρ = [some (hnd 0), some (.list (xs.map .str)), some (.int g), some (.list (ps.map ptD)), o] ∧ (ps.map (·.1)).Sublist ((sortS xs).take j) ∧ ∀ p ∈ ps, 1 ≤ p.2 ∧ p.2 ≤ 100000000, ⟨[], none, rfl, by simp, by simp⟩, ?_, ?_⟩
    · rintro j d ρ s2 hd ⟨ps, o, rfl, hs, hp⟩
      rw [List.getElem?_map, Option.map_eq_some_iff] at hd
      obtain ⟨k, hk1, rfl⟩ := hd
      refine ⟨_, rfl, ?_⟩
      have htk := take_snoc hk1
      have hlen := hs.length_le
      rw [List.length_map, List.length_take, (sortS_perm _).length_eq, hk.len] at hlen
      refine k_sIf ?_
      walk_at "E"
      refine k_draw8 (by omega) (by omega) fun r s3 r0 r1 => ?_
      walk_at "E"
      by_cases hr : r = 1
      · rw [decide_eq_true hr]
        walk_at "E"
        refine k_app (ds := ps.map ptD) rfl (by rw [List.length_map]; exact szl (by omega)) ?_
        walk_at "E"
        refine k_draw8 (by omega) (by omega) fun r s3 r0 r1 => ?_
        obtain ⟨z, hz, e⟩ := ix_list (ns := [3, g]) r0 r1
        rw [show PyData.list [.int 3, .int g] = .list ([3, g].map .int) from rfl, e]
        walk_at "E"
        have hz2 : 3 ≤ z ∧ z ≤ g := by
          rcases List.mem_cons.mp hz with rfl | hz
          · omega
          · rw [List.mem_singleton.mp hz]; omega
        refine k_draw8 (by omega) (by omega) fun t s4 t0 t1 => ?_
        walk_at "E"
        refine ⟨ps ++ [(k, 1 + t)], some (.str k), ?_, ?_, ?_⟩
        · rw [List.map_append]
          rfl
        · rw [htk, List.map_append]
          exact hs.append (List.Sublist.refl _)
        · intro p hp2
          rcases List.mem_append.mp hp2 with hp2 | hp2
          · exact hp p hp2
          · rw [List.mem_singleton.mp hp2]
            exact ⟨by show 1 ≤ 1 + t; omega, by show 1 + t ≤ _; omega⟩
      · rw [decide_eq_false hr]
        walk_at "E"
        refine k_nx ⟨ps, some (.str k), rfl, ?_, hp⟩
        rw [htk]
        exact hs.trans (List.sublist_append_left _ _)
    · rintro ρ s2 ⟨ps, o, rfl, hs, hp⟩
      rw [List.length_map, List.take_length] at hs
      refine k_ret ?_
      walk_at "E"
      refine k_draw8 (by omega) (by omega) fun r s3 r0 r1 => ?_
      obtain ⟨z, hz, e⟩ := ix_list (ns := [4, g]) r0 r1
      rw [show PyData.list [.int 4, .int g] = .list ([4, g].map .int) from rfl, e]
      walk_at "E"
      have hz2 : 4 ≤ z ∧ z ≤ 100000000 := by
        rcases List.mem_cons.mp hz with rfl | hz
        · omega
        · rw [List.mem_singleton.mp hz]; omega
      refine k_draw8 (by omega) (by omega) fun t s4 t0 t1 => ?_
      refine q (ps, t) _ ⟨?_, fun p hp2 => ?_, fun p hp2 => ?_, by show 0 ≤ t; omega, by show t ≤ _; omega⟩
      · exact (pw_le_lt (sortS_pw xs) (sort_nd hk.nd)).sublist hs
      · exact sort_mem.mp (hs.subset (List.mem_map.mpr ⟨p, hp2, rfl⟩))
      · have := hp p hp2
        omega
/-! ### the form that is built -/
def sm (c : Option Str) (ft : Ft) : Int := (ft.map fun x => x.2 * mor c x.1).sum
theorem prod_bd {a b A B : Int} (h0 : 0 ≤ a) (h1 : a ≤ A) (h2 : -B ≤ b) (h3 : b ≤ B) (hB : 0 ≤ B) : -(A * B) ≤ a * b ∧ a * b ≤ A * B := by
  have k1 : a * b ≤ a * B := Int.mul_le_mul_of_nonneg_left h3 h0
  have k2 : a * B ≤ A * B := Int.mul_le_mul_of_nonneg_right h1 hB
  have k3 : a * (-B) ≤ a * b := Int.mul_le_mul_of_nonneg_left h2 h0
  rw [Int.mul_neg] at k3
  omega
theorem sum_bd {M : Int} : ∀ {l : List Int}, (∀ z ∈ l, -M ≤ z ∧ z ≤ M) → -(l.length * M) ≤ l.sum ∧ l.sum ≤ l.length * M
  | [], _ => by show -((0 : Nat) * M) ≤ (0 : Int) ∧ (0 : Int) ≤ (0 : Nat) * M; simp
  | z :: l, h => by
    have h1 := h z List.mem_cons_self
    have ih := sum_bd (M := M) fun y hy => h y (List.mem_cons_of_mem _ hy)
    rw [List.sum_cons, List.length_cons]
    have : (((l.length + 1 : Nat) : Int) * M) = l.length * M + M := by rw [Int.natCast_add, Int.add_mul]; show _ + 1 * M = _; rw [Int.one_mul]
    rw [this]
    omega
theorem sm_bd {xs : List Str} {ft : Ft} (F : Fts xs ft) (c : Option Str) : -(4 * 10 ^ 14) ≤ sm c ft ∧ sm c ft ≤ 4 * 10 ^ 14 := by
  have h := sum_bd (M := 10 ^ 4 * (2 * 10 ^ 9)) (l := ft.map fun x => x.2 * mor c x.1) fun z hz => by
    obtain ⟨x, hx, rfl⟩ := List.mem_map.mp hz
    have t := F.t x hx
    have b := mor_bd F hx c
    exact prod_bd t.1 t.2 b.1 b.2 (by decide)
  rw [List.length_map] at h
  have hl : ((ft.length : Nat) : Int) ≤ 20 := by have := F.len; omega
  unfold sm
  omega
section
variable {S : Type} {s : S}
theorem rng_map {ft : Ft} {G : Lf × Int → D} {g : Nat → D} (h : ∀ j x, ft[j]? = some x → g j = G x) : (List.range ft.length).map g = ft.map G := by
  apply List.ext_getElem?
  intro i
  rw [List.getElem?_map, List.getElem?_map]
  by_cases hi : i < ft.length
  · rw [List.getElem?_range hi, List.getElem?_eq_getElem hi]
    exact congrArg some (h i _ (List.getElem?_eq_getElem hi))
  · rw [List.getElem?_eq_none (by simpa using hi), List.getElem?_eq_none (by omega)]
    rfl
theorem sms_eq {xs : List Str} {ft : Ft} (F : Fts xs ft) {c : Option Str} {fc : Ev S} {a0 a1 a4 a5 a6 a7 a8 a9 a10 : Option D}
    (hc : ∀ o, fc [a0, a1, some (fsD ft), some (tsD ft), a4, a5, a6, a7, a8, a9, a10, o] s = some (.dict (kvD (cm c)), s)) :
    lcF (S := S) (iOfA pR1 (aCons (cN pLen (aCons (cVar 2) aNil)) aNil)) (gNm 11) qYes (cB pMul (cB pIx (cVar 3) (cVar 11)) (cCall 2 Fmor (aCons (cB pIx (cVar 2) (cVar 11)) (aCons fc aNil)))) [11] [a0, a1, some (fsD ft), some (tsD ft), a4, a5, a6, a7, a8, a9, a10, none] s = some ((ft.map fun x => x.2 * mor c x.1).map .int, s) := by
  have hl := F.len
  rw [List.map_map]
  rw [← rng_map (ft := ft) (g := fun j => match ft[j]? with | some x => .int (x.2 * mor c x.1) | none => .none) fun j x h => by rw [h]; rfl]
  refine k_mapX (xs := List.range ft.length) (F := fun (j : Nat) => .int (0 + (j : Int))) (by rw [List.length_range]; exact szL (by omega)) ?_ fun j hj => ?_
  · refine ok_eqL ?_
    simp_arith [List.length_map]
    rw [pr1 (by omega) (by omega)]
    exact ⟨_, rfl, rfl⟩
  · rw [List.mem_range] at hj
    have hx : ft[j]? = some ft[j] := List.getElem?_eq_getElem hj
    have hm : ft[j] ∈ ft := List.getElem_mem hj
    generalize ft[j] = x at hx hm
    refine ⟨[a0, a1, some (fsD ft), some (tsD ft), a4, a5, a6, a7, a8, a9, a10, some (.int (0 + (j : Int)))], rfl, ok_eq ?_⟩
    rw [hx]
    walk_at "E"
    rw [show (0 : Int) + (j : Int) = ((j : Nat) : Int) by omega]
    have S1 := sz_of (f := x.1) F.few (by decide) (F.a x hm) (F.b x hm)
    have b := mor_bd F hm c
    have t := F.t x hm
    refine ⟨_, ix_nat (d := .int x.2) (by rw [List.getElem?_map, hx]; rfl), _, ix_nat (d := leD x.1) (by rw [List.getElem?_map, hx]; rfl), ?_⟩
    refine ⟨_, _, hc _, _, _, more_eq S1, ?_⟩
    exact ⟨_, v_mulB (nat_lt t.1 t.2 (by decide)) (abs_lt (by omega) (by omega)), rfl, rfl⟩
end
end Lw42
set_option Elab.async false
set_option linter.all false
set_option maxRecDepth 100000
set_option maxHeartbeats 1000000
/-! k42: the form that is built, and forms put otherwise -/
namespace Lw42
open PySem PySem.Spec L2 Dl Mx Ds Lw01 Lw41
theorem v_max2 (a b : Int) : pMax2 [.int a, .int b] = some (.int (max a b)) := by
  show some (PyData.int (if b > a then b else a)) = _
  refine congrArg some (congrArg PyData.int ?_)
  by_cases h : b > a
  · rw [if_pos h]; omega
  · rw [if_neg h]; omega
theorem ix_strs {xs : List Str} {r : Int} (h0 : 0 ≤ r) (h1 : r < xs.length) : ∃ k ∈ xs, pIx (.list (xs.map .str)) (.int r) = some (.str k) := by
  obtain ⟨j, rfl⟩ : ∃ j : Nat, r = j := ⟨r.toNat, by omega⟩
  have hj : j < xs.length := by omega
  refine ⟨xs[j], List.getElem_mem hj, ?_⟩
  simp only [pIx]
  exact atI_nat (by rw [List.getElem?_map, List.getElem?_eq_getElem hj]; rfl)
abbrev Fbuilt : Fn DS := K_w_built Fmor Fdraw8 K_w_side
theorem ok_built {s : DS} {xs : List Str} {ft : Ft} (F : Fts xs ft) {Q : D → DS → Prop} (q : ∀ (f : Lf) s', St xs (10 ^ 15) f.1 → St xs (10 ^ 15) f.2 → dueB f ft xs = true → Q (leD f) s') : Ok (Fbuilt [hnd 0, .list (xs.map .str), fsD ft, tsD ft] s) Q := by
  have hx6 := F.few
  unfold Fbuilt K_w_built B_w_built
  refine k_fn (k_seq (k_set ?_))
  walk_at "E"
  refine ⟨_, _, sms_eq (c := none) F (fun o => rfl), _, v_sum _, ?_⟩
  refine k_seq (k_ownD ?_)
  rw [okd_New]
  refine ⟨rfl, ?_⟩
  walk_at "E"
  refine k_seq (k_ownD ?_)
  rw [okd_New]
  refine ⟨rfl, ?_⟩
  walk_at "E"
  refine k_seq (k_forP (fun ds s' => ds = xs.map .str) ⟨_, _, rfl, rfl⟩ ?_)
  rintro ds s1 rfl
  refine ⟨fun j ρ _ => ∃ (o7 o8 o9 : Option D) (A B : KV), ρ = [some (hnd 0), some (.list (xs.map .str)), some (fsD ft), some (tsD ft), some (.int (sm none ft)), some (.dict (kvD A)), some (.dict (kvD B)), o7, o8, o9, none, none] ∧ Dk xs (10 ^ 15) A ∧ Dk xs (10 ^ 15) B ∧ ∀ k ∈ xs.take j, sm (some k) ft - sm none ft ≤ gv A k - gv B k, ⟨none, none, none, [], [], rfl, Dk.nil (by decide), Dk.nil (by decide), by simp⟩, ?_, ?_⟩
  · rintro j d ρ s2 hd ⟨o7, o8, o9, A, B, rfl, hA, hB, hm⟩
    rw [List.getElem?_map, Option.map_eq_some_iff] at hd
    obtain ⟨k, hk, rfl⟩ := hd
    have hkx : k ∈ xs := List.mem_of_getElem? hk
    refine ⟨_, rfl, ?_⟩
    refine k_seq (k_set ?_)
    walk_at "E"
    refine ⟨_, _, sms_eq (c := some k) F (fun o => rfl), _, v_sum _, ?_⟩
    walk_at "E"
    refine k_seq (k_set ?_)
    walk_at "E"
    refine k_draw8 (by omega) (by omega) fun r s3 r0 r1 => ?_
    obtain ⟨z, hz, e⟩ := ix_list (ns := [0, 1, 5]) r0 r1
    rw [show PyData.list [.int 0, .int 1, .int 5] = .list ([0, 1, 5].map .int) from rfl, e]
    have hz2 : 0 ≤ z ∧ z ≤ 5 := by
      simp only [List.mem_cons, List.not_mem_nil, or_false] at hz
      omega
    walk_at "E"
    have b1 := sm_bd F (some k)
    have b0 := sm_bd F none
    show Ok (sSeq _ _ [some (hnd 0), some (.list (xs.map .str)), some (fsD ft), some (tsD ft), some (.int (sm none ft)), some (.dict (kvD A)), some (.dict (kvD B)), some (.str k), some (.int (sm (some k) ft - sm none ft)), some (.int z), none, none] s3) _
    refine k_seq (k_putO rfl ?_)
    simp_arith [v_max2]
    have lA := hA.len
    have lB := hB.len
    have A1 := hA.put (k := k) (v := max 0 (sm (some k) ft - sm none ft) + z) hkx (by omega) (by omega)
    have lA1 := A1.len
    refine ⟨.inr k, rfl, ?_⟩
    rw [kvD_put]
    refine ⟨kvD_ok (by omega), ?_⟩
    refine k_seq (k_putO rfl ?_)
    simp_arith [v_max2]
    have B1 := hB.put (k := k) (v := max 0 (0 - (sm (some k) ft - sm none ft)) + z) hkx (by omega) (by omega)
    have lB1 := B1.len
    refine ⟨.inr k, rfl, ?_⟩
    rw [kvD_put]
    refine ⟨kvD_ok (by omega), ?_⟩
    refine k_sIf ?_
    walk_at "E"
    refine k_draw8 (by omega) (by omega) fun r s4 r0 r1 => ?_
    walk_at "E"
    have keep : ∀ (v : Int), max 0 (sm (some k) ft - sm none ft) + z ≤ v → ∀ A2 : KV, (∀ i, gv A2 i = if k = i then v else gv A i) → ∀ i ∈ xs.take (j + 1), sm (some i) ft - sm none ft ≤ gv A2 i - gv (kvPut B k (max 0 (0 - (sm (some k) ft - sm none ft)) + z)) i := fun v hv A2 h2 i hi => by
      rw [h2, gv_put]
      by_cases e : k = i
      · subst e
        rw [if_pos rfl, if_pos rfl]
        omega
      · rw [if_neg e, if_neg e]
        rw [take_snoc hk] at hi
        rcases List.mem_append.mp hi with hi | hi
        · exact hm i hi
        · exact absurd (List.mem_singleton.mp hi).symm e
    by_cases hr : r = 1
    · rw [decide_eq_true hr]
      walk_at "E"
      refine k_putO rfl ?_
      simp_arith [okd_Dx, okd_Own]
      refine ⟨_, rfl, .inr k, .int (max 0 (sm (some k) ft - sm none ft) + z), rfl, ?_, ?_⟩
      · rw [kvD_val, get_put, if_pos rfl]
        rfl
      walk_at "E"
      refine k_draw8 (by omega) (by omega) fun t s5 t0 t1 => ?_
      walk_at "E"
      have A2 := A1.put (k := k) (v := max 0 (sm (some k) ft - sm none ft) + z + 1 + t) hkx (by omega) (by omega)
      have lA2 := A2.len
      refine ⟨.inr k, rfl, ?_⟩
      rw [kvD_put]
      refine ⟨kvD_ok (by omega), _, _, _, _, _, rfl, A2, B1, ?_⟩
      refine keep (max 0 (sm (some k) ft - sm none ft) + z + 1 + t) (by omega) _ fun i => ?_
      rw [gv_put, gv_put]
      split <;> rfl
    · rw [decide_eq_false hr]
      walk_at "E"
      refine k_nx ⟨_, _, _, _, _, rfl, A1, B1, ?_⟩
      exact keep _ (Int.le_refl _) _ fun i => gv_put A k i _
  · rintro ρ s2 ⟨o7, o8, o9, A, B, rfl, hA, hB, hm⟩
    rw [List.length_map, List.take_length] at hm
    refine k_seq (k_set ?_)
    walk_at "E"
    refine k_draw8 (by omega) (by omega) fun r s3 r0 r1 => ?_
    obtain ⟨z, hz, e⟩ := ix_list (ns := [0, 1, 7]) r0 r1
    rw [show PyData.list [.int 0, .int 1, .int 7] = .list ([0, 1, 7].map .int) from rfl, e]
    have hz2 : 0 ≤ z ∧ z ≤ 7 := by
      simp only [List.mem_cons, List.not_mem_nil, or_false] at hz
      omega
    walk_at "E"
    refine k_seq (k_set ?_)
    simp_arith [v_max2]
    refine k_draw8 (by omega) (by omega) fun r s4 r0 r1 => ?_
    obtain ⟨y, hy, e⟩ := ix_list (ns := [0, 0, 2]) r0 r1
    rw [show PyData.list [.int 0, .int 0, .int 2] = .list ([0, 0, 2].map .int) from rfl, e]
    have hy2 : 0 ≤ y ∧ y ≤ 2 := by
      simp only [List.mem_cons, List.not_mem_nil, or_false] at hy
      omega
    walk_at "E"
    refine k_ret ?_
    simp_arith [v_max2]
    have lA := hA.len
    have lB := hB.len
    have b0 := sm_bd F none
    refine ⟨_, _, side_eq (by omega), _, _, side_eq (by omega), ?_⟩
    have n1 : 0 ≤ max 0 (sm none ft) + z + y ∧ max 0 (sm none ft) + z + y ≤ 10 ^ 15 := by omega
    have n2 : 0 ≤ max 0 (0 - sm none ft) + z ∧ max 0 (0 - sm none ft) + z ≤ 10 ^ 15 := by omega
    refine q (sideT A (max 0 (sm none ft) + z + y), sideT B (max 0 (0 - sm none ft) + z)) _ (side_St hA n1.1 n1.2) (side_St hB n2.1 n2.2) ?_
    have o0 : ovr none (sideT A (max 0 (sm none ft) + z + y), sideT B (max 0 (0 - sm none ft) + z)) ft = (max 0 (sm none ft) + z + y + 0) - (max 0 (0 - sm none ft) + z + 0) - sm none ft := rfl
    have ok : ∀ k, ovr (some k) (sideT A (max 0 (sm none ft) + z + y), sideT B (max 0 (0 - sm none ft) + z)) ft = (max 0 (sm none ft) + z + y + gv A k) - (max 0 (0 - sm none ft) + z + gv B k) - sm (some k) ft := fun k => by
      rw [← side_gv hA n1.1 n1.2 k, ← side_gv hB n2.1 n2.2 k]
      rfl
    unfold dueB
    rw [o0, decide_eq_true (by omega), Bool.true_and, List.all_eq_true]
    intro k hk
    have := hm k hk
    rw [ok k]
    exact decide_eq_true (by omega)
/-! ### put otherwise -/
abbrev Fbs : Fn DS := K_w_bent_sum Fdraw8 K_w_side
theorem ok_bent_sum {s : DS} {xs : List Str} {B : Int} {t : Tot} (hx : xs.length ≤ 6) (h : St xs B t) {Q : D → DS → Prop} (q : ∀ t s', St xs (B + 1) t → Q (totD t) s') : Ok (Fbs [hnd 0, totD t, .list (xs.map .str)] s) Q := by
  have hl := h.len
  have nd := canon_nd h.can
  unfold Fbs K_w_bent_sum B_w_bent_sum
  refine k_fn (k_seq (k_ownD ?_))
  rw [okd_PairsT]
  simp_arith [t_i0]
  refine ⟨_, _, rfl, pairs_kv _, ?_⟩
  rw [kvD_id nd]
  refine ⟨kvD_ok (by omega), ?_⟩
  refine k_seq (k_set ?_)
  walk_at "E"
  refine k_draw8 (by omega) (by omega) fun r s3 r0 r1 => ?_
  obtain ⟨z, hz, e⟩ := ix_list (ns := [1, -1]) r0 r1
  rw [show PyData.list [.int 1, .int (-1)] = .list ([1, -1].map .int) from rfl, e]
  have hz2 : z ≤ 1 := by
    simp only [List.mem_cons, List.not_mem_nil, or_false] at hz
    omega
  walk_at "E"
  refine k_seq (k_set ?_)
  simp_arith [List.length_map]
  refine k_draw8 (by omega) (by omega) fun a s4 a0 a1 => ?_
  refine k_seq (k_sIf ?_)
  simp_arith [List.length_map]
  have hn := h.n
  by_cases ha : a = (xs.length : Int)
  · rw [decide_eq_true ha]
    walk_at "E"
    refine k_ret ?_
    simp_arith [t_i0, t_i1, v_max2]
    exact q (t.1, max 0 (t.2 + z)) _ ⟨h.can, h.sub, fun p hp => by have := h.ps p hp; omega, by show 0 ≤ max 0 (t.2 + z); omega, by show max 0 (t.2 + z) ≤ _; omega⟩
  · rw [decide_eq_false ha]
    walk_at "E"
    refine k_nx ?_
    obtain ⟨k, hk, ek⟩ := ix_strs (xs := xs) a0 (by omega)
    have hD : Dk xs (B + 1) t.1 := ⟨nd, fun k hk => st_keys h k hk, fun k => by
      have := cnt_bd h none
      have : 0 ≤ B := by omega
      unfold gv
      rw [get_cnt nd]
      by_cases hk : k ∈ t.1.map (·.1)
      · obtain ⟨p, hp, rfl⟩ := List.mem_map.mp hk
        rw [cnt_nd nd p hp]
        have := h.ps p hp
        omega
      · rw [cnt_not hk]
        omega⟩
    have hg : gv t.1 k ≤ B := by
      unfold gv
      rw [get_cnt nd]
      by_cases hk : k ∈ t.1.map (·.1)
      · obtain ⟨p, hp, rfl⟩ := List.mem_map.mp hk
        rw [cnt_nd nd p hp]
        exact (h.ps p hp).2
      · rw [cnt_not hk]
        omega
    have D1 := hD.put (k := k) (v := max 0 (gv t.1 k + z)) hk (by omega) (by omega)
    have l1 := D1.len
    refine k_seq (k_putO rfl ?_)
    simp_arith [okd_Dgx, okd_Own, ek]
    refine ⟨_, rfl, .inr k, rfl, ?_⟩
    have e2 : (valD (kvD t.1) (.inr k)).getD (.int 0) = .int (gv t.1 k) := by
      rw [kvD_val]
      unfold gv
      cases kvGet t.1 k <;> rfl
    rw [e2]
    simp_arith [v_max2, ek]
    refine ⟨.inr k, rfl, ?_⟩
    rw [kvD_put]
    refine ⟨kvD_ok (by omega), ?_⟩
    refine k_ret ?_
    simp_arith [t_i1]
    exact ⟨_, _, side_eq (by omega), q _ _ (side_St D1 hn.1 (by omega))⟩
abbrev Fbent : Fn DS := K_w_bent Fdraw8 Fbs
theorem St.up {xs : List Str} {B : Int} {t : Tot} (h : St xs B t) : St xs (B + 1) t := ⟨h.can, h.sub, fun p hp => by have := h.ps p hp; omega, by have := h.n; omega⟩
theorem ok_bent {s : DS} {xs : List Str} {B : Int} {f : Lf} (hx : xs.length ≤ 6) (h1 : St xs B f.1) (h2 : St xs B f.2) {Q : D → DS → Prop} (q : ∀ (f : Lf) s', St xs (B + 1) f.1 → St xs (B + 1) f.2 → Q (leD f) s') : Ok (Fbent [hnd 0, leD f, .list (xs.map .str)] s) Q := by
  unfold Fbent K_w_bent B_w_bent
  refine k_fn (k_seq (k_set ?_))
  walk_at "E"
  refine k_draw8 (by omega) (by omega) fun r s1 r0 r1 => ?_
  refine k_seq (k_sIf ?_)
  walk_at "E"
  by_cases hr : r < 2
  · rw [decide_eq_true hr]
    walk_at "E"
    refine k_ret ?_
    simp_arith [l_i1, l_i2]
    exact ok_bent_sum hx h1 fun t s2 ht => q (t, f.2) _ ht h2.up
  rw [decide_eq_false hr]
  walk_at "E"
  refine k_nx (k_seq (k_sIf ?_))
  walk_at "E"
  by_cases hr : r < 4
  · rw [decide_eq_true hr]
    walk_at "E"
    refine k_ret ?_
    simp_arith [l_i1, l_i2]
    exact ok_bent_sum hx h2 fun t s2 ht => q (f.1, t) _ h1.up ht
  rw [decide_eq_false hr]
  walk_at "E"
  refine k_nx (k_ret ?_)
  simp_arith [l_i1, l_i2]
  exact q (f.2, f.1) _ h2.up h1.up
end Lw42
set_option Elab.async false
set_option linter.all false
set_option maxRecDepth 100000
set_option maxHeartbeats 1000000
namespace K42
open PySem PySem.Spec L2 Dl Mx Ds Lw01 Lw41 Lw42
abbrev Fkinds : Fn DS := Lw42.K_w_kinds (Lw42.K_w_word Fdraw8) Fdraw8
abbrev Fsm : Fn DS := Lw42.K_w_sum Fdraw8
abbrev Fdu : Fn DS := Fdue
abbrev Ftl : Fn DS := Ftold
theorem catT {a b : List D} (h : a.length + b.length ≤ 1000) : pAdd (.tuple a) (.tuple b) = some (.tuple (a ++ b)) := by
  show (if a.length + b.length ≤ sizeLine then some (PyData.tuple (a ++ b)) else none) = _
  rw [if_pos (szL (Nat.le_trans h (by decide)))]
theorem inner_ok {s : DS} {xs : List Str} {n : Nat} (hk : Kds xs n) (hn : n ≤ 6) {g o : Int} (g0 : 3 < g) (g1 : g ≤ 100000000) (o0 : 2 ≤ o) (o1 : o ≤ 10000) {fi : Ea DS} {a2 a3 a9 a10 a11 a12 a13 a14 : Option D} {R : Rs → DS → Prop}
    (hf : ∀ ρ, ρ = [none, some (hnd 0), a2, a3, some (.list (xs.map .str)), some (.tuple []), some (.tuple []), some (.int g), some (.int o), a9, a10, a11, a12, a13, a14] → Ok (fi ρ s) fun ds _ => ∃ m : Nat, m ≤ 20 ∧ ds = rngD 0 m)
    (q : ∀ (ft : Ft) o9 o10 o11 s', Fts xs ft → R (.nx [none, some (hnd 0), a2, a3, some (.list (xs.map .str)), some (fsD ft), some (tsD ft), some (.int g), some (.int o), o9, o10, o11, a12, a13, a14]) s') :
    Ok (sFor fi (gNm 9)
      (sSeq (sSet 10 (cCall 3 Fsm (aCons (cVar 1) (aCons (cVar 4) (aCons (cVar 7) aNil)))))
        (sSeq (sSet 5 (cB pAdd (cVar 5) (cN pTup (aCons (cN pTup (aCons (cK (.str "least")) (aCons (cVar 10) (aCons (cCall 3 Fsm (aCons (cVar 1) (aCons (cVar 4) (aCons (cVar 7) aNil)))) aNil)))) aNil))))
        (sSeq (sSet 11 (cN pLst (aCons (cK (.int 0)) (aCons (cK (.int 1)) (aCons (cCall 2 Fdraw8 (aCons (cVar 1) (aCons (cN pMin2 (aCons (cK (.int 5)) (aCons (cVar 8) aNil))) aNil))) (aCons (cCall 2 Fdraw8 (aCons (cVar 1) (aCons (cVar 8) aNil))) aNil))))))
        (sSet 6 (cB pAdd (cVar 6) (cN pTup (aCons (cB pIx (cVar 11) (cCall 2 Fdraw8 (aCons (cVar 1) (aCons (cK (.int 4)) aNil)))) aNil)))))))
      [none, some (hnd 0), a2, a3, some (.list (xs.map .str)), some (.tuple []), some (.tuple []), some (.int g), some (.int o), a9, a10, a11, a12, a13, a14] s) R := by
  have hl := hk.len
  refine k_forP (fun ds _ => ∃ m : Nat, m ≤ 20 ∧ ds = rngD 0 m) (hf _ rfl) ?_
  rintro ds s1 ⟨m, hm, rfl⟩
  refine ⟨fun j ρ _ => ∃ (ft : Ft) (o9 o10 o11 : Option D), ρ = [none, some (hnd 0), a2, a3, some (.list (xs.map .str)), some (fsD ft), some (tsD ft), some (.int g), some (.int o), o9, o10, o11, a12, a13, a14] ∧ ft.length = j ∧ ∀ x ∈ ft, St xs (10 ^ 9) x.1.1 ∧ St xs (10 ^ 9) x.1.2 ∧ 0 ≤ x.2 ∧ x.2 ≤ 10 ^ 4, ⟨[], _, _, _, rfl, rfl, by simp⟩, ?_, ?_⟩
  · rintro j d ρ s2 hd ⟨ft, o9, o10, o11, rfl, hj, hft⟩
    obtain ⟨hjm, rfl⟩ := rng_get hd
    refine ⟨_, rfl, ?_⟩
    refine k_seq (k_set ?_)
    walk_at "E"
    refine ok_sum42 hk hn g0 g1 fun t1 s3 h1 => ?_
    refine k_seq (k_set ?_)
    walk_at "E"
    refine ok_sum42 hk hn g0 g1 fun t2 s4 h2 => ?_
    refine ⟨_, catT (by simp only [List.length_map, List.length_cons, List.length_nil]; omega), ?_⟩
    refine k_seq (k_set ?_)
    walk_at "E"
    have hmin : ∃ z, 0 < z ∧ z ≤ 5 ∧ pMin2 [.int 5, .int o] = some (.int z) := by
      refine ⟨if o < 5 then o else 5, ?_, ?_, rfl⟩
      · split <;> omega
      · split <;> omega
    obtain ⟨z, z0, z5, ez⟩ := hmin
    rw [ez]
    walk_at "E"
    refine k_draw8 z0 (by omega) fun r s5 r0 r1 => ?_
    refine k_draw8 (by omega) (by omega) fun r' s6 r0' r1' => ?_
    refine k_set ?_
    walk_at "E"
    refine k_draw8 (by omega) (by omega) fun w s7 w0 w1 => ?_
    obtain ⟨y, hy, e⟩ := ix_list (ns := [0, 1, r, r']) w0 w1
    rw [show PyData.list [.int 0, .int 1, .int r, .int r'] = .list ([0, 1, r, r'].map .int) from rfl, e]
    have hy2 : 0 ≤ y ∧ y ≤ 10 ^ 4 := by
      simp only [List.mem_cons, List.not_mem_nil, or_false] at hy
      omega
    walk_at "E"
    refine ⟨_, catT (by simp only [List.length_map, List.length_cons, List.length_nil]; omega), ?_⟩
    refine ⟨ft ++ [((t1, t2), y)], some (.int (0 + (j : Int))), some (totD t1), some (.list [.int 0, .int 1, .int r, .int r']), ?_, by simp [hj], fun x hx => ?_⟩
    · unfold fsD tsD
      rw [List.map_append, List.map_append]
      rfl
    · rcases List.mem_append.mp hx with hx | hx
      · exact hft x hx
      · rw [List.mem_singleton.mp hx]
        exact ⟨h1, h2, hy2⟩
  · rintro ρ s2 ⟨ft, o9, o10, o11, rfl, hj, hft⟩
    rw [rng_len] at hj
    exact q ft _ _ _ _ ⟨by omega, by omega, fun x hx => (hft x hx).1, fun x hx => (hft x hx).2.1, fun x hx => (hft x hx).2.2⟩
theorem bent_ok {s : DS} {xs : List Str} {ft : Ft} {f : Lf} {B : Int} (F : Fts xs ft) (hxl : xs.length ≤ 6) (h1 : St xs B f.1) (h2 : St xs B f.2) (hB : B + 3 < 2 ^ 100) {a2 a3 a7 a8 a9 a10 a11 a13 a14 : Option D} {R : Rs → DS → Prop}
    (q : ∀ (f : Lf) o9 s', St xs (B + 3) f.1 → St xs (B + 3) f.2 → R (.nx [none, some (hnd 0), a2, a3, some (.list (xs.map .str)), some (fsD ft), some (tsD ft), a7, a8, o9, a10, a11, some (leD f), a13, a14]) s') :
    Ok (sFor (iOfA pR1 (aCons (cK (.int 3)) aNil)) (gNm 9)
      (sSeq (sSet 12 (cCall 3 Fbent (aCons (cVar 1) (aCons (cVar 12) (aCons (cVar 4) aNil)))))
        (sIf (qNot (qT (cCall 4 Ftl (aCons (cVar 12) (aCons (cVar 5) (aCons (cVar 6) (aCons (cCall 4 Fdu (aCons (cVar 12) (aCons (cVar 5) (aCons (cVar 6) (aCons (cVar 4) aNil))))) aNil)))))))
        (sRet (cK (.bool false)))
        sNx))
      [none, some (hnd 0), a2, a3, some (.list (xs.map .str)), some (fsD ft), some (tsD ft), a7, a8, a9, a10, a11, some (leD f), a13, a14] s) R := by
  refine k_forP (fun ds _ => ds = rngD 0 3) ?_ ?_
  · walk_at "E"
    rw [pr1 (by omega) (by omega)]
    walk_at "E"
    rfl
  rintro ds s1 rfl
  refine ⟨fun j ρ _ => ∃ (f : Lf) (o9 : Option D), ρ = [none, some (hnd 0), a2, a3, some (.list (xs.map .str)), some (fsD ft), some (tsD ft), a7, a8, o9, a10, a11, some (leD f), a13, a14] ∧ St xs (B + j) f.1 ∧ St xs (B + j) f.2, ⟨f, _, rfl, by simpa using h1, by simpa using h2⟩, ?_, ?_⟩
  · rintro j d ρ s2 hd ⟨f, o9, rfl, h1, h2⟩
    obtain ⟨hj, rfl⟩ := rng_get hd
    refine ⟨_, rfl, ?_⟩
    refine k_seq (k_set ?_)
    walk_at "E"
    refine ok_bent hxl h1 h2 fun f s3 h1 h2 => ?_
    have ej : B + (j : Int) + 1 = B + ((j + 1 : Nat) : Int) := by omega
    rw [ej] at h1 h2
    have S1 := sz_of F.few (by omega) h1 h2
    refine k_sIf ?_
    walk_at "E"
    refine ⟨_, _, due_eq F S1 (by omega), _, _, told_eq (summed_eq F h1 h2), ?_⟩
    rw [due_sum F h1 h2, beq_self_eq_true]
    walk_at "E"
    exact k_nx ⟨f, _, rfl, h1, h2⟩
  · rintro ρ s2 ⟨f, o9, rfl, h1, h2⟩
    rw [rng_len] at h1 h2
    exact q f _ _ h1 h2
theorem law_true {s : DS} : Ok (B_law Fdraw8 Fkinds Fsm Fbuilt Fdu Ftl Fbent (lawR 13) s) fun r _ => r = .rt (.bool true) := by
  unfold B_law
  refine k_seq (k_forP (fun ds s' => ds = rngD 0 4) ?_ ?_)
  · walk_at "E"
    rw [pr1 (by omega) (by omega)]
    walk_at "E"
    rfl
  rintro ds s1 rfl
  refine ⟨fun j ρ _ => ∃ o2 o3 o4 o5 o6 o7 o8 o9 o10 o11 o12 o13 o14, ρ = [none, some (hnd 0), o2, o3, o4, o5, o6, o7, o8, o9, o10, o11, o12, o13, o14], ⟨none, none, none, none, none, none, none, none, none, none, none, none, none, rfl⟩, ?_, ?_⟩
  · rintro j d ρ s2 hd ⟨o2, o3, o4, o5, o6, o7, o8, o9, o10, o11, o12, o13, o14, rfl⟩
    refine ⟨_, rfl, ?_⟩
    refine k_seq (k_set ?_)
    walk_at "E"
    refine k_draw8 (by omega) (by omega) fun r s3 r0 r1 => ?_
    walk_at "E"
    generalize decide (r = 5) = far
    refine k_seq (k_set ?_)
    walk_at "E"
    refine k_draw8 (by omega) (by omega) fun r s3 r0 r1 => ?_
    obtain ⟨z, hz, e⟩ := ix_list (ns := [4, 6, 4, 4]) r0 r1
    rw [show PyData.list [.int 4, .int 6, .int 4, .int 4] = .list ([4, 6, 4, 4].map .int) from rfl, e]
    obtain ⟨n, rfl, hn⟩ : ∃ n : Nat, z = n ∧ n ≤ 6 := by
      simp only [List.mem_cons, List.not_mem_nil, or_false] at hz
      exact ⟨z.toNat, by omega, by omega⟩
    walk_at "E"
    refine ok_kinds42 (by omega) fun xs s4 hk => ?_
    have hxl : xs.length ≤ 6 := by rw [hk.len]; exact hn
    refine k_seq (k_set ?_)
    walk_at "E"
    refine k_seq (k_set ?_)
    walk_at "E"
    refine k_seq (k_asg ?_)
    walk_at "E"
    refine ⟨_, rfl, _, rfl, ?_⟩
    walk_at "E"
    refine k_draw8 (by omega) (by omega) fun r s5 r0 r1 => ?_
    have hgo : ∃ g o : Int, pIx (.list [.tuple [.int 1000, .int (10 ^ 4)], .tuple [.int (10 ^ 8), .int 2]]) (.int r) = some (.tuple [.int g, .int o]) ∧ 3 < g ∧ g ≤ 100000000 ∧ 2 ≤ o ∧ o ≤ 10000 := by
      have : r = 0 ∨ r = 1 := by omega
      rcases this with rfl | rfl
      · exact ⟨1000, 10 ^ 4, rfl, by decide, by decide, by decide, by decide⟩
      · exact ⟨10 ^ 8, 2, rfl, by decide, by decide, by decide, by decide⟩
    obtain ⟨g, o, ego, g0, g1, o0, o1⟩ := hgo
    refine ⟨_, ego, _, rfl, ?_⟩
    refine k_seq (inner_ok hk hn g0 g1 o0 o1 (fun ρ e => ?_) fun ft o9 o10 o11 s6 F => ?_)
    · subst e
      walk_at "E"
      refine k_draw8 (by omega) (by omega) fun a s6 a0 a1 => ?_
      refine k_draw8 (by omega) (by omega) fun b s7 b0 b1 => ?_
      walk_at "E"
      have : ∃ m : Nat, m ≤ 20 ∧ pIx (.list [.int a, .int (12 + b)]) (.int (if far = true then 1 else 0)) = some (.int (m : Nat)) := by
        cases far
        · exact ⟨a.toNat, by omega, by rw [show ((a.toNat : Nat) : Int) = a by omega]; rfl⟩
        · exact ⟨(12 + b).toNat, by omega, by rw [show (((12 + b).toNat : Nat) : Int) = 12 + b by omega]; rfl⟩
      obtain ⟨m, hm, em⟩ := this
      exact ⟨_, em, _, pr1 (by omega) (by omega), m, hm, rfl⟩
    refine k_seq (k_set ?_)
    walk_at "E"
    refine ok_built F fun f s7 h1 h2 hd => ?_
    have S1 := sz_of (f := f) F.few (by decide) h1 h2
    have hs : sumB f ft = true := by rw [← due_sum F h1 h2]; exact hd
    refine k_seq (k_sIf ?_)
    walk_at "E"
    refine ⟨_, _, told_eq (summed_eq F h1 h2), ?_⟩
    rw [hs]
    walk_at "E"
    refine ⟨_, _, due_eq F S1 (by omega), ?_⟩
    rw [hd]
    walk_at "E"
    refine k_nx (k_seq (bent_ok F hxl h1 h2 (by decide) fun f o9 s8 h1 h2 => ?_))
    have Fl : Fts xs (ft.map fun x => (x.1, max 0 (x.2 - 1))) := ⟨F.few, by rw [List.length_map]; exact F.len, fun x hx => by
      obtain ⟨y, hy, rfl⟩ := List.mem_map.mp hx
      exact F.a y hy, fun x hx => by
      obtain ⟨y, hy, rfl⟩ := List.mem_map.mp hx
      exact F.b y hy, fun x hx => by
      obtain ⟨y, hy, rfl⟩ := List.mem_map.mp hx
      have := F.t y hy
      exact ⟨by show 0 ≤ max 0 (y.2 - 1); omega, by show max 0 (y.2 - 1) ≤ _; omega⟩⟩
    have efs : fsD (ft.map fun x => (x.1, max 0 (x.2 - 1))) = fsD ft := by
      unfold fsD
      rw [List.map_map]
      rfl
    have ets : tsD (ft.map fun x => (x.1, max 0 (x.2 - 1))) = .tuple (ft.map fun x => .int (max 0 (x.2 - 1))) := by
      unfold tsD
      rw [List.map_map]
      rfl
    refine k_seq (k_set ?_)
    walk_at "E"
    refine ⟨_, _, k_mapX (xs := ft) (F := fun x => .int x.2) (G := fun x => .int (max 0 (x.2 - 1))) (by have := F.len; exact szL (by omega)) rfl (fun x hx => ⟨_, rfl, ok_eq ?_⟩), ?_⟩
    · show Ok ((cN pMax2 (aCons (cK (.int 0)) (aCons (cB pSub (cVar 10) (cK (.int 1))) aNil))) [none, some (hnd 0), some d, some (.bool far), some (.list (xs.map .str)), some (fsD ft), some (tsD ft), some (.int g), some (.int o), o9, some (.int x.2), o11, some (leD f), o13, o14] s8) _
      simp_arith [v_max2]
    walk_at "E"
    rw [← ets]
    have S1 := sz_of F.few (by decide) h1 h2
    refine k_seq (k_sIf ?_)
    walk_at "E"
    rw [← efs]
    refine ⟨_, _, due_eq Fl S1 (by omega), _, _, told_eq (summed_eq Fl h1 h2), ?_⟩
    rw [due_sum Fl h1 h2, beq_self_eq_true]
    rw [efs]
    walk_at "E"
    refine k_nx (k_seq (k_set ?_))
    walk_at "E"
    refine k_draw8 (by omega) (by omega) fun r s9 r0 r1 => ?_
    have hod : ∃ od, Odd od ∧ pIx (.list [.tuple [.str (Str.ofString "false")], .tuple [.str (Str.ofString "not"), leD f]]) (.int r) = some od := by
      have : r = 0 ∨ r = 1 := by omega
      rcases this with rfl | rfl
      · exact ⟨_, .inl rfl, rfl⟩
      · exact ⟨_, .inr ⟨f, rfl⟩, rfl⟩
    obtain ⟨od, ho, eo⟩ := hod
    refine ⟨_, eo, ?_⟩
    refine k_seq (k_sIf ?_)
    have hfl := F.len
    walk_at "E"
    refine ⟨_, catT (by simp only [List.length_map, List.length_cons, List.length_nil]; omega), ?_⟩
    refine k_draw8 (by omega) (by omega) fun r s9 r0 r1 => ?_
    refine ⟨_, catT (by simp only [List.length_map, List.length_cons, List.length_nil]; omega), ?_⟩
    refine ⟨_, _, told_eq (summed_odd2 F ho r0), ?_⟩
    walk_at "E"
    refine k_nx (k_sIf ?_)
    walk_at "E"
    refine ⟨_, _, told_eq (summed_odd F ho), ?_⟩
    walk_at "E"
    exact k_nx ⟨_, _, _, _, _, _, _, _, _, _, _, _, _, rfl⟩
  · rintro ρ s2 ⟨o2, o3, o4, o5, o6, o7, o8, o9, o10, o11, o12, o13, o14, rfl⟩
    refine k_ret ?_
    walk_at "E"
end K42
set_option Elab.async false
set_option linter.all false
set_option maxRecDepth 100000
set_option maxHeartbeats 4000000
/-! a written dict, texts to texts: d[k], d.get(k) -/
namespace Dl
open PySem PySem.Spec PyProof.Rows L2
/-- the entries are those of the table -/
def tblIn : List (Str × Str) → List DictEntry → Bool
  | [], [] => true
  | (k, v) :: r, e :: q => (match e.key, e.val with | .str k' _, .str v' _ => (k' == k) && (v' == v) | _, _ => false) && tblIn r q
  | _, _ => false
/-- at a: the written dict of the table -/
structure WD (K : PySem.W.Frag) (w : World) (a : Addr) (tbl : List (Str × Str)) : Prop where
  ex : ∃ es n, K.lookup a = some ⟨.type "dict", none, .dict es n, #[]⟩ ∧ PySem.W.KeysLit w.params es.toList ∧ tblIn tbl es.toList = true
  low : (a == sysModules) = false
section
variable {S : Type} {X : Cx} {G : Kx} {Z : Zk S} {W : List Nat} {f : Ev S} {b : Expr} {x : Str} {p pos apos : Pos} {a : Addr} {tbl : List (Str × Str)}
end
end Dl
set_option Elab.async false
set_option linter.all false
set_option maxRecDepth 100000
set_option maxHeartbeats 1000000
/-! a def, all that is known of it in one -/
namespace Dl
open PySem PySem.Spec PyProof.Rows L2
structure Du (K : PySem.W.Frag) (mg : Str → Option Value) (x : Str) (st : Stmt) (ps : List Str) where
  f : Addr
  fd : FuncData
  F : Fun K x x st f fd
  g : mg x = some (.ref f)
  b : Binds K fd ps []
structure DuC (K : PySem.W.Frag) (mg : Str → Option Value) (x : Str) (st : Stmt) (ps : List Str) (c : Addr) extends Du K mg x st ps where
  C : FunC K x x st f fd c
structure Tb1 (q : Program) (K : PySem.W.Frag) (x : Str) (c T : Addr) : Prop where
  ex : ∃ d : DefRec, (recsOf q).find? (fun e => e.name == x) = some d ∧ PySem.W.tabIn K x = some (c, T)
variable {K : PySem.W.Frag} {mg : Str → Option Value} {x : Str} {st : Stmt} {ps : List Str} {f : Addr} {oc : Value} {od an : Option Addr} {osl : Array (Option Value)} {kV doc pm cdv ct : Value}
def du_mk (g : mg x = some (.ref f)) (l : K.lookup f = some ⟨oc, od, .func (PySem.W.fnOf x x (defArgs st) (defBody st) (defScope st) .none kV doc pm an cdv ct), osl⟩) (c : PySem.W.codeIn K cdv x = true) (k : PySem.W.keepIn K (.ref f) = true)
    (h : ∀ (kV doc pm : Value) (an : Option Addr) (cdv ct : Value) (us : List Value), us.length = ps.length → bindArgs (PySem.W.fnOf x x (defArgs st) (defBody st) (defScope st) .none kV doc pm an cdv ct) ⟨us, []⟩ = pure (ps.zip us)) : Du K mg x st ps :=
  ⟨f, _, fun_mk l c k, g, (fun_mk l c k).binds h⟩
def duC_mk {cc : Addr} (g : mg x = some (.ref f)) (l : K.lookup f = some ⟨oc, od, .func (PySem.W.fnOf x x (defArgs st) (defBody st) (defScope st) .none kV doc pm an (.ref cc) ct), osl⟩) (c : PySem.W.codeIn K (.ref cc) x = true) (k : PySem.W.keepIn K (.ref f) = true)
    (h : ∀ (kV doc pm : Value) (an : Option Addr) (cdv ct : Value) (us : List Value), us.length = ps.length → bindArgs (PySem.W.fnOf x x (defArgs st) (defBody st) (defScope st) .none kV doc pm an cdv ct) ⟨us, []⟩ = pure (ps.zip us)) : DuC K mg x st ps cc :=
  ⟨⟨f, _, fun_mk l c k, g, (fun_mk l c k).binds h⟩, funC_mk l c⟩
end Dl
set_option Elab.async false
set_option linter.all false
set_option maxRecDepth 100000
set_option maxHeartbeats 4000000
namespace K42
open PySem PySem.Spec PyProof.Rows L2 Dl Lw42
section
variable {P : Program} {w : World} {K : PySem.W.Frag} {mg : Str → Option Value} {base : Heap} {f : Addr} {fd : FuncData}
theorem ok_law {Ts : List Addr} (U : Fun K "law" "law" s_law f fd) (C_deck : Lc.Dn P w K mg base "_law_deck" ["_law_script"] 1 (spDeck K))
    (hrest : ∀ d (cdv : Value) (A : Around) (outer : List Env) (s : Shared) (H : Hp) (E : XK), Room 5 (A.deeper (envOfC "law" (defScope s_law) s.heap.objs.size f cdv)) → PSs (cxOf CX0 P w K mg base N_law "law" (defScope s_law) f cdv A outer s H E).nox ((defBody s_law).drop 1) (tSt ⟨K, hdD d⟩ (Zt8 d Ts) [] (B_law Fdraw8 (K_w_kinds (K_w_word Fdraw8) Fdraw8) (K_w_sum Fdraw8) (K_w_built (K_w_more K_w_count) Fdraw8 K_w_side) (K_w_due (K_w_over (K_w_more K_w_count))) (K_w_told (K_summed K_so_often K_no_less K_sum_of)) (K_w_bent Fdraw8 (K_w_bent_sum Fdraw8 K_w_side))))) :
    FnOk P w K mg base CX0 6 f fd ["_law_script"] (spLawT K Ts) := by
  refine U.ok sc_law (fun vs H Q E h => ?_) (fun cdv A outer s H vs Q E hr h => ?_)
  · obtain ⟨a, ns, rfl, _⟩ := h
    rfl
  · obtain ⟨a, ns, rfl, hS, hT, q⟩ := h
    refine ⟨_, pss_cons (ps_set (i := 1) sc_law.nd rfl (.inl rfl) (Lc.pe_dn C_deck (hr.mono (by decide)) (by rfl) (pa_cons (pv 0) pa_nil))) (pss_rest8 fun d => hrest d cdv A outer s H E hr), ?_⟩
    refine ⟨.ref a, rfl, a, ns, rfl, hS, fun d H' s0 sm dk _ => ?_⟩
    exact rest_at8 dk (fun T hm => by obtain ⟨ps, e, t⟩ := hT T hm; exact ⟨ps, sm _ _ e, t⟩) (by decide) (law_true (s := s0)) q
end
theorem all_mk {l : PySem.W.OpenLaw} {w : World} {K : PySem.W.Frag} {h : Heap} {mg mb : Str → Option Value} {fa : Addr} {q : Program} {loose : List Str} {mean : ExcName → Option Value} (Tp : Top q (PySem.W.looseW q loose) mean mg mb h) (X : K.In h) (hfa : mg "law" = some (.ref fa))
    (H_sum_of : Du K mg "sum_of" s_sum_of ["totals"])
    (H_so_often : Du K mg "so_often" s_so_often ["total", "often"])
    {c_no_less T_no_less : Addr} (H_no_less : DuC K mg "no_less" s_no_less ["one", "other"] c_no_less) (B_no_less : Tb1 q K "no_less" c_no_less T_no_less)
    {c_summed T_summed : Addr} (H_summed : DuC K mg "summed" s_summed ["form", "forms", "times"] c_summed) (B_summed : Tb1 q K "summed" c_summed T_summed)
    (H_w_mixed : Du K mg "_law_mixed" s_w_mixed ["_law_cell", "_law_k"])
    (H_w_deck : Du K mg "_law_deck" s_w_deck ["_law_script"])
    (H_w_draw : Du K mg "_law_draw" s_w_draw ["_law_deck_here", "_law_most"])
    (H_w_word : Du K mg "_law_word" s_w_word ["_law_deck_here", "_law_least", "_law_most"])
    (H_w_kinds : Du K mg "_law_kinds" s_w_kinds ["_law_deck_here", "_law_many"])
    (H_w_sum : Du K mg "_law_sum" s_w_sum ["_law_deck_here", "_law_kinds_here", "_law_great"])
    (H_w_count : Du K mg "_law_count" s_w_count ["_law_total", "_law_counts"])
    (H_w_more : Du K mg "_law_more" s_w_more ["_law_form", "_law_counts"])
    (H_w_over : Du K mg "_law_over" s_w_over ["_law_form", "_law_forms", "_law_times", "_law_counts"])
    (H_w_due : Du K mg "_law_due" s_w_due ["_law_form", "_law_forms", "_law_times", "_law_kinds_here"])
    (H_w_side : Du K mg "_law_side" s_w_side ["_law_parts", "_law_number"])
    (H_w_built : Du K mg "_law_built" s_w_built ["_law_deck_here", "_law_kinds_here", "_law_forms", "_law_times"])
    (H_w_bent_sum : Du K mg "_law_bent_sum" s_w_bent_sum ["_law_deck_here", "_law_total", "_law_kinds_here"])
    (H_w_bent : Du K mg "_law_bent" s_w_bent ["_law_deck_here", "_law_form", "_law_kinds_here"])
    (H_w_told : Du K mg "_law_told" s_w_told ["_law_form", "_law_forms", "_law_times", "_law_due_here"])
    (H_law : Du K mg "law" s_law ["_law_script"])
    (hbl : ∀ (s : Shared) (u : Value), BindsTo s H_law.fd ⟨[u], []⟩ [("_law_script", u)])
    (m_all : mg "all" = none)
    (m_any : mg "any" = none)
    (m_bool : mg "bool" = none)
    (m_dict : mg "dict" = none)
    (m_int : mg "int" = none)
    (m_isinstance : mg "isinstance" = none)
    (m_len : mg "len" = none)
    (m_list : mg "list" = none)
    (m_max : mg "max" = none)
    (m_min : mg "min" = none)
    (m_range : mg "range" = none)
    (m_sorted : mg "sorted" = none)
    (m_sum : mg "sum" = none)
    (m_tuple : mg "tuple" = none)
    (m_zip : mg "zip" = none)
    (hno : PySem.W.noTabs K = true) :
    LamX.LawAtS l w K CX0 6 63 "_law_script" mg fa h := by
  have e : fa = H_law.f := by
    have h := hfa.symm.trans H_law.g
    injection h with h
    injection h
  subst e
  refine law_many [(c_no_less, T_no_less), (c_summed, T_summed)] Tp X (fun p hp => ?_) hno (fd := H_law.fd) (sp := spLawT K [T_no_less, T_summed]) hbl (fun H a ns t hS => ⟨a, ns, rfl, hS, fun T hT => ?_, fun _ => rfl⟩) (fun base hb hg hTB => ?_)
  · simp only [List.mem_cons, List.not_mem_nil, or_false] at hp
    rcases hp with rfl | rfl
    · exact ⟨_, B_no_less.ex⟩
    · exact ⟨_, B_summed.ex⟩
  · have h9 : T ∈ ([(c_no_less, T_no_less), (c_summed, T_summed)] : List (Addr × Addr)).map (·.2) := hT
    obtain ⟨p, hp, rfl⟩ := List.mem_map.mp h9
    exact t p hp
  have C_sum_of : ∀ d, Lc.Dn l.prog w K mg base "sum_of" ["totals"] 1 (spD ⟨K, hdD d⟩ (Zt8 d [T_no_less, T_summed]) 1 K_sum_of) := fun d => ⟨H_sum_of.f, _, H_sum_of.F.kp, H_sum_of.g, H_sum_of.b, P_sum_of (k := 0) H_sum_of.F m_tuple m_sorted⟩
  have C_so_often : ∀ d, Lc.Dn l.prog w K mg base "so_often" ["total", "often"] 1 (spD ⟨K, hdD d⟩ (Zt8 d [T_no_less, T_summed]) 2 K_so_often) := fun d => ⟨H_so_often.f, _, H_so_often.F.kp, H_so_often.g, H_so_often.b, P_so_often (k := 0) H_so_often.F m_tuple⟩
  have C_no_less : ∀ d, Lc.Dn l.prog w K mg base "no_less" ["one", "other"] 2 (spD ⟨K, hdD d⟩ (Zt8 d [T_no_less, T_summed]) 2 K_no_less) := fun d => ⟨H_no_less.f, _, H_no_less.F.kp, H_no_less.g, H_no_less.b, P_no_less (k := 0) H_no_less.C (hTB (c_no_less, T_no_less) (by simp)) (ztab8 (by simp)) m_dict m_all⟩
  have C_summed : ∀ d, Lc.Dn l.prog w K mg base "summed" ["form", "forms", "times"] 4 (spD ⟨K, hdD d⟩ (Zt8 d [T_no_less, T_summed]) 3 (K_summed K_so_often K_no_less K_sum_of)) := fun d => ⟨H_summed.f, _, H_summed.F.kp, H_summed.g, H_summed.b, P_summed (k := 2) H_summed.C (hTB (c_summed, T_summed) (by simp)) (ztab8 (by simp)) (C_so_often d) (by decide) (C_no_less d) (by decide) (C_sum_of d) (by decide) m_any m_len m_zip⟩
  have C_w_mixed : Lc.Dn l.prog w K mg base "_law_mixed" ["_law_cell", "_law_k"] 1 spMixed := ⟨H_w_mixed.f, _, H_w_mixed.F.kp, H_w_mixed.g, H_w_mixed.b, ok_w_mixed H_w_mixed.F⟩
  have C_deck : Lc.Dn l.prog w K mg base "_law_deck" ["_law_script"] 1 (spDeck K) := ⟨H_w_deck.f, _, H_w_deck.F.kp, H_w_deck.g, H_w_deck.b, ok_w_deck H_w_deck.F m_list m_sum⟩
  have C_w_draw : ∀ d, Lc.Dn l.prog w K mg base "_law_draw" ["_law_deck_here", "_law_most"] 2 (spD ⟨K, hdD d⟩ (Zt8 d [T_no_less, T_summed]) 2 Fdraw8) := fun d => ⟨H_w_draw.f, _, H_w_draw.F.kp, H_w_draw.g, H_w_draw.b, fn_zt8 (D_draw H_w_draw.F m_len C_w_mixed)⟩
  have C_w_word : ∀ d, Lc.Dn l.prog w K mg base "_law_word" ["_law_deck_here", "_law_least", "_law_most"] 3 (spD ⟨K, hdD d⟩ (Zt8 d [T_no_less, T_summed]) 3 (K_w_word Fdraw8)) := fun d => ⟨H_w_word.f, _, H_w_word.F.kp, H_w_word.g, H_w_word.b, P_w_word (k := 2) H_w_word.F (C_w_draw d) (by decide) m_range⟩
  have C_w_kinds : ∀ d, Lc.Dn l.prog w K mg base "_law_kinds" ["_law_deck_here", "_law_many"] 4 (spD ⟨K, hdD d⟩ (Zt8 d [T_no_less, T_summed]) 2 (K_w_kinds (K_w_word Fdraw8) Fdraw8)) := fun d => ⟨H_w_kinds.f, _, H_w_kinds.F.kp, H_w_kinds.g, H_w_kinds.b, P_w_kinds (k := 3) H_w_kinds.F (C_w_word d) (by decide) (C_w_draw d) (by decide) m_range m_len⟩
  have C_w_sum : ∀ d, Lc.Dn l.prog w K mg base "_law_sum" ["_law_deck_here", "_law_kinds_here", "_law_great"] 3 (spD ⟨K, hdD d⟩ (Zt8 d [T_no_less, T_summed]) 3 (K_w_sum Fdraw8)) := fun d => ⟨H_w_sum.f, _, H_w_sum.F.kp, H_w_sum.g, H_w_sum.b, P_w_sum (k := 2) H_w_sum.F (C_w_draw d) (by decide) m_sorted m_tuple⟩
  have C_w_count : ∀ d, Lc.Dn l.prog w K mg base "_law_count" ["_law_total", "_law_counts"] 1 (spD ⟨K, hdD d⟩ (Zt8 d [T_no_less, T_summed]) 2 K_w_count) := fun d => ⟨H_w_count.f, _, H_w_count.F.kp, H_w_count.g, H_w_count.b, P_w_count (k := 0) H_w_count.F m_sum⟩
  have C_w_more : ∀ d, Lc.Dn l.prog w K mg base "_law_more" ["_law_form", "_law_counts"] 2 (spD ⟨K, hdD d⟩ (Zt8 d [T_no_less, T_summed]) 2 (K_w_more K_w_count)) := fun d => ⟨H_w_more.f, _, H_w_more.F.kp, H_w_more.g, H_w_more.b, P_w_more (k := 1) H_w_more.F (C_w_count d) (by decide)⟩
  have C_w_over : ∀ d, Lc.Dn l.prog w K mg base "_law_over" ["_law_form", "_law_forms", "_law_times", "_law_counts"] 3 (spD ⟨K, hdD d⟩ (Zt8 d [T_no_less, T_summed]) 4 (K_w_over (K_w_more K_w_count))) := fun d => ⟨H_w_over.f, _, H_w_over.F.kp, H_w_over.g, H_w_over.b, P_w_over (k := 2) H_w_over.F (C_w_more d) (by decide) m_range m_len⟩
  have C_w_due : ∀ d, Lc.Dn l.prog w K mg base "_law_due" ["_law_form", "_law_forms", "_law_times", "_law_kinds_here"] 4 (spD ⟨K, hdD d⟩ (Zt8 d [T_no_less, T_summed]) 4 (K_w_due (K_w_over (K_w_more K_w_count)))) := fun d => ⟨H_w_due.f, _, H_w_due.F.kp, H_w_due.g, H_w_due.b, P_w_due (k := 3) H_w_due.F (C_w_over d) (by decide)⟩
  have C_w_side : ∀ d, Lc.Dn l.prog w K mg base "_law_side" ["_law_parts", "_law_number"] 1 (spD ⟨K, hdD d⟩ (Zt8 d [T_no_less, T_summed]) 2 K_w_side) := fun d => ⟨H_w_side.f, _, H_w_side.F.kp, H_w_side.g, H_w_side.b, P_w_side (k := 0) H_w_side.F m_tuple m_sorted⟩
  have C_w_built : ∀ d, Lc.Dn l.prog w K mg base "_law_built" ["_law_deck_here", "_law_kinds_here", "_law_forms", "_law_times"] 3 (spD ⟨K, hdD d⟩ (Zt8 d [T_no_less, T_summed]) 4 (K_w_built (K_w_more K_w_count) Fdraw8 K_w_side)) := fun d => ⟨H_w_built.f, _, H_w_built.F.kp, H_w_built.g, H_w_built.b, P_w_built (k := 2) H_w_built.F (C_w_more d) (by decide) (C_w_draw d) (by decide) (C_w_side d) (by decide) m_sum m_range m_len m_max⟩
  have C_w_bent_sum : ∀ d, Lc.Dn l.prog w K mg base "_law_bent_sum" ["_law_deck_here", "_law_total", "_law_kinds_here"] 3 (spD ⟨K, hdD d⟩ (Zt8 d [T_no_less, T_summed]) 3 (K_w_bent_sum Fdraw8 K_w_side)) := fun d => ⟨H_w_bent_sum.f, _, H_w_bent_sum.F.kp, H_w_bent_sum.g, H_w_bent_sum.b, P_w_bent_sum (k := 2) H_w_bent_sum.F (C_w_draw d) (by decide) (C_w_side d) (by decide) m_dict m_len m_max⟩
  have C_w_bent : ∀ d, Lc.Dn l.prog w K mg base "_law_bent" ["_law_deck_here", "_law_form", "_law_kinds_here"] 4 (spD ⟨K, hdD d⟩ (Zt8 d [T_no_less, T_summed]) 3 (K_w_bent Fdraw8 (K_w_bent_sum Fdraw8 K_w_side))) := fun d => ⟨H_w_bent.f, _, H_w_bent.F.kp, H_w_bent.g, H_w_bent.b, P_w_bent (k := 3) H_w_bent.F (C_w_draw d) (by decide) (C_w_bent_sum d) (by decide)⟩
  have C_w_told : ∀ d, Lc.Dn l.prog w K mg base "_law_told" ["_law_form", "_law_forms", "_law_times", "_law_due_here"] 5 (spD ⟨K, hdD d⟩ (Zt8 d [T_no_less, T_summed]) 4 (K_w_told (K_summed K_so_often K_no_less K_sum_of))) := fun d => ⟨H_w_told.f, _, H_w_told.F.kp, H_w_told.g, H_w_told.b, P_w_told (k := 4) H_w_told.F (C_summed d) (by decide) m_isinstance m_bool⟩
  exact ok_law H_law.F C_deck fun d cdv A outer s H E hr => P_law (C_w_draw d) (by decide) (C_w_kinds d) (by decide) (C_w_sum d) (by decide) (C_w_built d) (by decide) (C_w_due d) (by decide) (C_w_told d) (by decide) (C_w_bent d) (by decide) m_range m_int m_min m_tuple m_max hr
end K42
open PySem PySem.W PyProof.Rows
set_option maxHeartbeats 0 in
theorem PySem.Challenge.cw_linecourt_k42_whole_summed_kind_by_kind_holds : PySem.Challenge.rw_linecourt_k42_whole_summed_kind_by_kind.Holds := by
  w_on; o_law; k_head; (case hw => w_witness2)
  k_fill
  refine Lc.walk_tab (l := PySem.Challenge.rw_linecourt_k42_whole_summed_kind_by_kind) (n := 63) (k := 6) (x := "_law_script") (CX := fun _ => L2.CX0) rfl (by decide) rfl ⟨rfl, by decide, by decide⟩ (fun w h Y => PySem.W.kIn_of Y) ?F (fun _ _ _ _ _ h => h)
  case F =>
    intro w mean mg mb fa h Tp KX hmg
    refine' K42.all_mk Tp KX hmg (Dl.du_mk (st := K42.s_sum_of) (ps := ["totals"]) (PySem.W.mg_of KX Tp.g ?a0) ?l0 ?c0 ?k0 (fun _ _ _ _ _ _ us hl => match us, hl with | [_], _ => rfl)) (Dl.du_mk (st := K42.s_so_often) (ps := ["total", "often"]) (PySem.W.mg_of KX Tp.g ?a1) ?l1 ?c1 ?k1 (fun _ _ _ _ _ _ us hl => match us, hl with | [_, _], _ => rfl)) (Dl.duC_mk (st := K42.s_no_less) (ps := ["one", "other"]) (PySem.W.mg_of KX Tp.g ?a2) ?l2 ?c2 ?k2 (fun _ _ _ _ _ _ us hl => match us, hl with | [_, _], _ => rfl)) ⟨⟨_, ?hrec_no_less, ?htab_no_less⟩⟩ (Dl.duC_mk (st := K42.s_summed) (ps := ["form", "forms", "times"]) (PySem.W.mg_of KX Tp.g ?a3) ?l3 ?c3 ?k3 (fun _ _ _ _ _ _ us hl => match us, hl with | [_, _, _], _ => rfl)) ⟨⟨_, ?hrec_summed, ?htab_summed⟩⟩ (Dl.du_mk (st := K42.s_w_mixed) (ps := ["_law_cell", "_law_k"]) (PySem.W.mg_of KX Tp.g ?a4) ?l4 ?c4 ?k4 (fun _ _ _ _ _ _ us hl => match us, hl with | [_, _], _ => rfl)) (Dl.du_mk (st := K42.s_w_deck) (ps := ["_law_script"]) (PySem.W.mg_of KX Tp.g ?a5) ?l5 ?c5 ?k5 (fun _ _ _ _ _ _ us hl => match us, hl with | [_], _ => rfl)) (Dl.du_mk (st := K42.s_w_draw) (ps := ["_law_deck_here", "_law_most"]) (PySem.W.mg_of KX Tp.g ?a6) ?l6 ?c6 ?k6 (fun _ _ _ _ _ _ us hl => match us, hl with | [_, _], _ => rfl)) (Dl.du_mk (st := K42.s_w_word) (ps := ["_law_deck_here", "_law_least", "_law_most"]) (PySem.W.mg_of KX Tp.g ?a7) ?l7 ?c7 ?k7 (fun _ _ _ _ _ _ us hl => match us, hl with | [_, _, _], _ => rfl)) (Dl.du_mk (st := K42.s_w_kinds) (ps := ["_law_deck_here", "_law_many"]) (PySem.W.mg_of KX Tp.g ?a8) ?l8 ?c8 ?k8 (fun _ _ _ _ _ _ us hl => match us, hl with | [_, _], _ => rfl)) (Dl.du_mk (st := K42.s_w_sum) (ps := ["_law_deck_here", "_law_kinds_here", "_law_great"]) (PySem.W.mg_of KX Tp.g ?a9) ?l9 ?c9 ?k9 (fun _ _ _ _ _ _ us hl => match us, hl with | [_, _, _], _ => rfl)) (Dl.du_mk (st := K42.s_w_count) (ps := ["_law_total", "_law_counts"]) (PySem.W.mg_of KX Tp.g ?a10) ?l10 ?c10 ?k10 (fun _ _ _ _ _ _ us hl => match us, hl with | [_, _], _ => rfl)) (Dl.du_mk (st := K42.s_w_more) (ps := ["_law_form", "_law_counts"]) (PySem.W.mg_of KX Tp.g ?a11) ?l11 ?c11 ?k11 (fun _ _ _ _ _ _ us hl => match us, hl with | [_, _], _ => rfl)) (Dl.du_mk (st := K42.s_w_over) (ps := ["_law_form", "_law_forms", "_law_times", "_law_counts"]) (PySem.W.mg_of KX Tp.g ?a12) ?l12 ?c12 ?k12 (fun _ _ _ _ _ _ us hl => match us, hl with | [_, _, _, _], _ => rfl)) (Dl.du_mk (st := K42.s_w_due) (ps := ["_law_form", "_law_forms", "_law_times", "_law_kinds_here"]) (PySem.W.mg_of KX Tp.g ?a13) ?l13 ?c13 ?k13 (fun _ _ _ _ _ _ us hl => match us, hl with | [_, _, _, _], _ => rfl)) (Dl.du_mk (st := K42.s_w_side) (ps := ["_law_parts", "_law_number"]) (PySem.W.mg_of KX Tp.g ?a14) ?l14 ?c14 ?k14 (fun _ _ _ _ _ _ us hl => match us, hl with | [_, _], _ => rfl)) (Dl.du_mk (st := K42.s_w_built) (ps := ["_law_deck_here", "_law_kinds_here", "_law_forms", "_law_times"]) (PySem.W.mg_of KX Tp.g ?a15) ?l15 ?c15 ?k15 (fun _ _ _ _ _ _ us hl => match us, hl with | [_, _, _, _], _ => rfl)) (Dl.du_mk (st := K42.s_w_bent_sum) (ps := ["_law_deck_here", "_law_total", "_law_kinds_here"]) (PySem.W.mg_of KX Tp.g ?a16) ?l16 ?c16 ?k16 (fun _ _ _ _ _ _ us hl => match us, hl with | [_, _, _], _ => rfl)) (Dl.du_mk (st := K42.s_w_bent) (ps := ["_law_deck_here", "_law_form", "_law_kinds_here"]) (PySem.W.mg_of KX Tp.g ?a17) ?l17 ?c17 ?k17 (fun _ _ _ _ _ _ us hl => match us, hl with | [_, _, _], _ => rfl)) (Dl.du_mk (st := K42.s_w_told) (ps := ["_law_form", "_law_forms", "_law_times", "_law_due_here"]) (PySem.W.mg_of KX Tp.g ?a18) ?l18 ?c18 ?k18 (fun _ _ _ _ _ _ us hl => match us, hl with | [_, _, _, _], _ => rfl)) (Dl.du_mk (st := K42.s_law) (ps := ["_law_script"]) (PySem.W.mg_of KX Tp.g ?a19) ?l19 ?c19 ?k19 (fun _ _ _ _ _ _ us hl => match us, hl with | [_], _ => rfl)) (fun s v => .of_eq rfl) (PySem.W.mg_none_of KX Tp.g ?z_all) (PySem.W.mg_none_of KX Tp.g ?z_any) (PySem.W.mg_none_of KX Tp.g ?z_bool) (PySem.W.mg_none_of KX Tp.g ?z_dict) (PySem.W.mg_none_of KX Tp.g ?z_int) (PySem.W.mg_none_of KX Tp.g ?z_isinstance) (PySem.W.mg_none_of KX Tp.g ?z_len) (PySem.W.mg_none_of KX Tp.g ?z_list) (PySem.W.mg_none_of KX Tp.g ?z_max) (PySem.W.mg_none_of KX Tp.g ?z_min) (PySem.W.mg_none_of KX Tp.g ?z_range) (PySem.W.mg_none_of KX Tp.g ?z_sorted) (PySem.W.mg_none_of KX Tp.g ?z_sum) (PySem.W.mg_none_of KX Tp.g ?z_tuple) (PySem.W.mg_none_of KX Tp.g ?z_zip) ?hno
    (case a0 => k_is); (case l0 => k_is); (case c0 => k_is); (case k0 => k_is); (case a1 => k_is); (case l1 => k_is); (case c1 => k_is); (case k1 => k_is); (case a2 => k_is); (case l2 => k_is); (case c2 => k_is); (case k2 => k_is); (case a3 => k_is); (case l3 => k_is); (case c3 => k_is); (case k3 => k_is); (case a4 => k_is); (case l4 => k_is); (case c4 => k_is); (case k4 => k_is); (case a5 => k_is); (case l5 => k_is); (case c5 => k_is); (case k5 => k_is); (case a6 => k_is); (case l6 => k_is); (case c6 => k_is); (case k6 => k_is); (case a7 => k_is); (case l7 => k_is); (case c7 => k_is); (case k7 => k_is); (case a8 => k_is); (case l8 => k_is); (case c8 => k_is); (case k8 => k_is); (case a9 => k_is); (case l9 => k_is); (case c9 => k_is); (case k9 => k_is); (case a10 => k_is); (case l10 => k_is); (case c10 => k_is); (case k10 => k_is); (case a11 => k_is); (case l11 => k_is); (case c11 => k_is); (case k11 => k_is); (case a12 => k_is); (case l12 => k_is); (case c12 => k_is); (case k12 => k_is); (case a13 => k_is); (case l13 => k_is); (case c13 => k_is); (case k13 => k_is); (case a14 => k_is); (case l14 => k_is); (case c14 => k_is); (case k14 => k_is); (case a15 => k_is); (case l15 => k_is); (case c15 => k_is); (case k15 => k_is); (case a16 => k_is); (case l16 => k_is); (case c16 => k_is); (case k16 => k_is); (case a17 => k_is); (case l17 => k_is); (case c17 => k_is); (case k17 => k_is); (case a18 => k_is); (case l18 => k_is); (case c18 => k_is); (case k18 => k_is); (case a19 => k_is); (case l19 => k_is); (case c19 => k_is); (case k19 => k_is); (case z_all => k_is); (case z_any => k_is); (case z_bool => k_is); (case z_dict => k_is); (case z_int => k_is); (case z_isinstance => k_is); (case z_len => k_is); (case z_list => k_is); (case z_max => k_is); (case z_min => k_is); (case z_range => k_is); (case z_sorted => k_is); (case z_sum => k_is); (case z_tuple => k_is); (case z_zip => k_is)
    (case hrec_no_less => rfl)
    (case htab_no_less => (first | rfl | k_is))
    (case hrec_summed => rfl)
    (case htab_summed => (first | rfl | k_is))
    (case hno => (first | rfl | decide +kernel | k_is))
