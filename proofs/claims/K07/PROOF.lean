import PyProof.Rows.All
import Wide.All
import OpenK.AllK
import Wide.FinOn
import HandS.SetFor
import HandS.SetTxt0
import HandS.Strs
import PyProof.Rows.SortShellAny
import KE.GoesSet
import PyProof.MeetsSeq2
import HandS.Zip
import HandS.ForMost
import HandS.More
import HandS.Wide
import HandS.IsInst
import HandS.Flow
import HandS.Replace
import HandS.Evl
import HandS.Walk
import HandS.TupAny
import HandS.Deep
import HandS.FStr
import HandS.ExcInit
import PyProof.NeData
import PyProof.EnumIter
import PyProof.EnumMake
import PyProof.EnumFor
import PyProof.TupleIter
import PyProof.WalksMore
import HandS.Zip0
import PyProof.ListStr
import HandS.AnyAll
import HandS.Nested
import HandS.EndTab
import HandS.GenOver
import HandS.Conv
import KE.GoesMore
import KE.GoesEnum
import HandS.Style
import KE.KRevSl
import HandS.Rev
import KE.KDictList
import HandS.Dict
import HandS.Comp
import HandS.DictComp
import HandS.Codes
import HandS.ExcField
import HandS.ExcValue
import HandS.ExcOwn
import HandS.ExcIs
import KE.KExcSuper
import KE.KSuper
import KE.KExcIs
import HandS.ClsMeth
import HandS.RaiseMore
import HandS.Star
import HandS.CallLocal
import HandS.Text
import HandS.TryOnly
import HandS.SetBool
import HandS.WordsDict
import HandS.ListItems
import KE.KDictPairs
import HandS.TupSets
import PyProof.SumAny
import HandS.Defaults
import PyProof.FitsInt
import PySem.Challenge.RW_linecourt_k07_refusals_made_by_hand
set_option Elab.async false
set_option linter.all false
set_option maxRecDepth 100000
set_option maxHeartbeats 4000000
/-! sets of texts that can be walked -/
namespace Ds
open PySem PySem.Spec PyProof.Rows PySem.Froz
/-- the table rises, and its order is told or led -/
def Wlk (w : World) (t : SetTable) : Prop := L2.Ris t.place.toList ∧ (w.params.followText "set-order" = true ∨ t.led = true)
/-- the set at a has the members l, each once -/
def TSet (P : Program) (w : World) (h : Heap) (a : Addr) (l : List Str) : Prop :=
  ∃ D : SD, h.get? a = some (sObj "set" D) ∧ TxOk P w D l ∧ l.Nodup ∧ l.length < scanBound ∧ Wlk w D.2.2
def nuD (w : World) : SD := (#[], 0, .fresh 0 0 (!w.params.followText "set-order"))
section
variable {P : Program} {w : World} {h h' : Heap} {a : Addr} {l : List Str}
theorem TSet.mv (T : TSet P w h a l) (k : ∀ o, h.get? a = some o → h'.get? a = some o) : TSet P w h' a l := by
  obtain ⟨D, e, r⟩ := T
  exact ⟨D, k _ e, r⟩
theorem TSet.nu (e : h.get? a = some (sObj "set" (nuD w))) : TSet P w h a [] := by
  refine ⟨nuD w, e, TxOk.nil rfl, List.nodup_nil, by decide, List.Pairwise.nil, ?_⟩
  show _ ∨ (!w.params.followText "set-order") = true
  cases w.params.followText "set-order" <;> simp
theorem wlk_add {D : SD} {hs : Int} {v : Value} (k : Wlk w D.2.2) : Wlk w (addTx hs v D).2.2 := by
  obtain ⟨r, e⟩ := k
  have r1 := L2.layNew_ris D.2.2 D.1 hs v r
  have e1 := L2.layNew_led D.2.2 D.1 hs v
  have k1 : ∀ t : SetTable, t = (if (layNew D.2.2 D.1 hs v).2.1.plain = true then { (layNew D.2.2 D.1 hs v).2.1 with plain := false } else (layNew D.2.2 D.1 hs v).2.1) → Wlk w t := fun t ht => by
    subst ht
    split
    · exact ⟨r1, e.imp id fun z => e1.trans z⟩
    · exact ⟨r1, e.imp id fun z => e1.trans z⟩
  unfold addTx tailTx
  have k2 := k1 _ rfl
  generalize (if (layNew D.2.2 D.1 hs v).2.1.plain = true then { (layNew D.2.2 D.1 hs v).2.1 with plain := false } else (layNew D.2.2 D.1 hs v).2.1) = t at k2 ⊢
  split
  · exact ⟨L2.relayAll_ris _ _ _, k2.2.imp id fun z => (L2.relayAll_led _ _ _).trans z⟩
  · exact k2
end
section
variable {P : Program} {w : World} {A : Around} {E : Value → Shared → Prop} {s : Shared} {a : Addr} {l : List Str}
/-- the members behind an add -/
def plus (l : List Str) (k : Str) : List Str := if k ∈ l then l else k :: l
/-- what is there already is found -/
theorem add_there {T : String} {D : SD} {k : Str} {u : Tok} {Q : Bool → Shared → Prop} (ho : s.heap.get? a = some (sObj T D)) (F : TxOk P w D l) (hk : k ∈ l) (hb : l.length < scanBound) (h : Q false s) : wpAny (model P w) A (setAddHashed a (.str k u) (hashStr w k)) Q E s := by
  obtain ⟨es, ep, t⟩ := D
  have hsz : es.size = l.length := F.sz
  have hd : (sObj T (es, ep, t)).data = .set es ep t := rfl
  obtain ⟨e, he, hq⟩ := (F.mem k).mp hk
  unfold setAddHashed setAddHashedIn
  refine wpAny_holding (wpAny_bind (wpAny_setState_of ho hd F.fit ?_))
  dsimp only
  have hb0 : es.size < scanBound := by omega
  have hel : ElemsOf (strKind P w) es.toList := F.el
  rw [byScan_of rfl hb0 hel]
  simp only [↓reduceIte]
  unfold setAddByScan
  refine wpAny_bind (wpAny_bind (wpAny_rule (wpAny_bind (wpAny_setScan_of (knd := strKind P w) (k := k) (is_str k u) ho hd F.fit F.el ?_))))
  cases q : List.findIdx? (fun e => (strKind P w).is k e.2) es.toList with
  | some j =>
    dsimp only
    exact wpAny_pure (wpAny_pure h)
  | none =>
    have c := List.findIdx?_eq_none_iff.mp q e he
    rw [hq] at c
    cases c
theorem TSet.add {k : Str} {u : Tok} {Q : Bool → Shared → Prop} (T : TSet P w s.heap a l) (hb : l.length + 1 < scanBound) (h : ∀ b h', Heap.SameBut a s.heap h' → TSet P w h' a (plus l k) → Q b { s with heap := h' }) :
    wpAny (model P w) A (setAddHashed a (.str k u) (hashStr w k)) Q E s := by
  obtain ⟨D, e, F, nd, hl, wk⟩ := T
  unfold plus at h
  by_cases c : k ∈ l
  · rw [if_pos c] at h
    exact add_there e F c hl (h false s.heap (Heap.SameBut.refl a s.heap) ⟨D, e, F, nd, hl, wk⟩)
  · rw [if_neg c] at h
    refine add_x e F c hb (h true _ (Heap.SameBut.update s.heap a _) ⟨_, get_upd _ e rfl, add_ok u F, List.nodup_cons.mpr ⟨c, nd⟩, hb, wlk_add wk⟩)
end
end Ds
set_option Elab.async false
set_option linter.all false
set_option maxRecDepth 100000
set_option maxHeartbeats 4000000
namespace Ds
open PySem PySem.Spec PyProof.Rows PySem.Froz
theorem plus_len (l : List Str) (k : Str) : (plus l k).length ≤ l.length + 1 := by
  unfold plus
  split
  · exact Nat.le_succ _
  · exact Nat.le_refl _
def gath (xs : List Str) : List Str := xs.foldl plus []
section
variable {P : Program} {w : World} {A : Around} {E : Value → Shared → Prop} {s : Shared}
variable {x : Addr} {items : Array Value} {xs : List Str} {Q : Value → Shared → Prop}
end
end Ds
set_option Elab.async false
set_option linter.all false
set_option maxRecDepth 100000
set_option maxHeartbeats 4000000
namespace Ds
open PySem PySem.Spec PyProof.Rows PySem.Froz
theorem perm_of : ∀ (l ks : List Str), l.Nodup → (∀ x ∈ l, x ∈ ks) → ks.length ≤ l.length → l.Perm ks
  | [], ks, _, _, hn => by
    have : ks = [] := List.length_eq_zero_iff.mp (Nat.le_zero.mp hn)
    rw [this]
  | a :: l, ks, nd, hs, hn => by
    obtain ⟨n1, n2⟩ := List.nodup_cons.mp nd
    have ha : a ∈ ks := hs a List.mem_cons_self
    have hp := List.perm_cons_erase ha
    have hl := hp.length_eq
    rw [List.length_cons] at hl hn
    refine List.Perm.trans (List.Perm.cons a (perm_of l (ks.erase a) n2 (fun x hx => ?_) (by omega))) hp.symm
    exact (List.mem_erase_of_ne (fun z : x = a => n1 (z ▸ hx))).mpr (hs x (List.mem_cons_of_mem _ hx))
def strOf : Value → Str
  | .str k _ => k
  | _ => Str.empty
theorem str_is {k : Str} {v : Value} (h : Value.isStrOf k v = true) : ∃ t, v = .str k t := by
  unfold Value.isStrOf at h
  split at h
  · rename_i y t
    exact ⟨t, by rw [show y = k from by simpa using h]⟩
  · cases h
section
variable {P : Program} {w : World} {A : Around} {E : Value → Shared → Prop} {s : Shared} {a : Addr} {l : List Str}
theorem elem_str {es : List (Int × Value)} (h : ElemsOf (strKind P w) es) : ∀ e ∈ es, ∃ k t, e.2 = .str k t ∧ e.1 = hashStr w k := fun e he => by
  obtain ⟨⟨k, h1, h2⟩, _⟩ := h e he
  obtain ⟨t, e1⟩ := str_is h1
  exact ⟨k, t, e1, h2⟩
theorem keys_perm {D : SD} (F : TxOk P w D l) (nd : l.Nodup) : l.Perm (D.1.toList.map fun e => strOf e.2) := by
  refine perm_of l _ nd (fun x hx => ?_) ?_
  · obtain ⟨e, he, q⟩ := (F.mem x).mp hx
    obtain ⟨t, e1⟩ := str_is q
    exact List.mem_map.mpr ⟨e, he, by rw [e1]; rfl⟩
  · rw [List.length_map, Array.length_toList, F.sz]
    exact Nat.le_refl _
theorem strs_of : ∀ (vs : List Value), (∀ v ∈ vs, ∃ k t, v = Value.str k t) → StrsAre vs (vs.map strOf)
  | [], _ => .nil
  | v :: vs, h => by
    obtain ⟨k, t, rfl⟩ := h v List.mem_cons_self
    exact .cons k t (strs_of vs fun u hu => h u (List.mem_cons_of_mem _ hu))
/-- sorted(x), x a set of texts -/
theorem TSet.sorted {Q : Value → Shared → Prop} (T : TSet P w s.heap a l) (hh : A.handled = none)
    (q : ∀ s' p (out : Array Value) (c : Nat) (ys : List Str), (∀ b o, s.heap.get? b = some o → s'.heap.get? b = some o) → s'.gens = s.gens → s'.os = s.os → s.heap.objs.size ≤ p → s'.heap.get? p = some (seqObj "list" out c) → StrsAre out.toList ys → ys.Perm l → sortedS ys = true → Q (.ref p) s') :
    wpAny (model P w) A (call (.builtin "sorted") [.ref a]) Q E s := by
  obtain ⟨D, e, F, nd, hl, r, ld⟩ := T
  obtain ⟨es, ep, t⟩ := D
  have hsz : es.size = l.length := F.sz
  have hb : es.size < scanBound := by omega
  have kp := keys_perm F nd
  refine Calls.call_function_entry kind_sorted plain_sorted entry_sorted (args_sorted1 _) ?_
  unfold Builtin.«sorted»
  refine wpAny_bind (m := checkCount "sorted" 1 1 _) (wpAny_pure (wpAny_bind (L2.collect_set (A := A.in1) hh ⟨_, e, rfl, rfl⟩ F.fit hb r ld fun s1 vs k1 z1 g1 o1 pm => ?_)))
  have hS := strs_of vs fun v hv => by
    obtain ⟨x, hx, e2⟩ := List.mem_map.mp (pm.mem_iff.mp hv)
    obtain ⟨k, u, h1, _⟩ := elem_str F.el x hx
    exact ⟨k, u, e2.symm.trans h1⟩
  have pk : (vs.map strOf).Perm l := by
    have p2 := pm.map strOf
    rw [List.map_map] at p2
    exact p2.trans kp.symm
  have hvl : vs.length ≤ sizeLine := by
    have := pk.length_eq
    rw [List.length_map] at this
    rw [this]
    exact fits_of_scanBound hl
  refine wpAny_bind (wpAny_newList ?_ hvl)
  have hoL : (s1.heap.push (seqObj "list" vs.toArray 0)).get? s1.heap.objs.size = some (seqObj "list" vs.toArray 0) := Heap.get?_push_size _ rfl
  refine wpAny_bind (wpAny_holding (wpAny_call_entry slot_list_sort ⟨_, hoL, rfl⟩ entry_list_sort (list_sort_treeKAny strKind_oneLt hoL hS.keysOf (fun v₁ v₂ rest e => keyKind_strs (by rw [← e]; exact hS)) hvl fun st hp hs => ⟨_, rfl, ?_⟩) (args_list_sort _)))
  obtain ⟨ys, y1, y2, y3⟩ := sorted_out_str hS hp hs
  obtain ⟨c, hc⟩ := sortedHeap_at (vs := vs) (out := (arrOf st).map (·.2)) hoL
  refine wpAny_pure ⟨_, rfl, q _ s1.heap.objs.size _ c ys (fun b o hbo => ?_) g1 o1 z1 hc y1 (y2.trans pk) y3⟩
  have h2 := k1 b o hbo
  have hlt := Heap.lt_size h2
  show (sortedHeap (s1.heap.push (seqObj "list" vs.toArray 0)) s1.heap.objs.size vs ((arrOf st).map (·.2))).get? b = some o
  rw [sortedHeap_old (Nat.ne_of_lt hlt) (by rw [size_push']; exact Nat.lt_succ_of_lt hlt)]
  exact Heap.get?_push_of_some _ h2
end
end Ds
set_option Elab.async false
set_option linter.all false
set_option maxRecDepth 100000
set_option maxHeartbeats 4000000
namespace Ds
open PySem PySem.Spec PyProof.Rows PySem.Froz
theorem entry_and : entryFor table "set.__and__" = some Builtin.«frozenset.__and__» := entryFor_alias (id' := "frozenset.__and__") (by kernel_rfl) rfl (by decide +kernel) (by kernel_rfl)
section
variable {P : Program} {w : World} {A : Around} {E : Value → Shared → Prop} {s : Shared} {a b r : Addr} {l la lb : List Str}
theorem TSet.ty (T : TSet P w s.heap a l) : s.TypeIs (.ref a) "set" := by
  obtain ⟨D, e, _⟩ := T
  exact ⟨_, e, rfl⟩
theorem any_set {Q : Bool → Shared → Prop} (T : s.TypeIs (.ref a) "set") (q : Q true s) : wpAny (model P w) A (Builtin.Frozenset.isAnySet (.ref a)) Q E s := by
  unfold Builtin.Frozenset.isAnySet orM
  refine wpAny_bind (wpAny_isInstance T sub_set_self ?_)
  exact wpAny_pure q
theorem base_of {Q : Value → Shared → Prop} (T : s.TypeIs (.ref a) "set") (q : Q (.type "set") s) : wpAny (model P w) A (Builtin.Frozenset.baseOf a) Q E s := by
  unfold Builtin.Frozenset.baseOf
  refine wpAny_bind (wpAny_isInstance T sub_set_self ?_)
  exact wpAny_pure q
theorem walk_some {es : Array (Int × Value)} {ep : Nat} {t : SetTable} {Q : Array (Int × Value) → Shared → Prop} (e : s.heap.get? a = some (sObj "set" (es, ep, t))) (hf : t.fits es.size = true) (ld : w.params.followText "set-order" = true ∨ t.led = true)
    (q : ∀ es' d', es'.toList.Perm es.toList → Q es' { s with drawn := d' }) : wpAny (model P w) A (setWalk a) Q E s := by
  unfold setWalk
  refine wpAny_bind (wpAny_setState_of e rfl hf ?_)
  dsimp only
  refine wpAny_bind (L2.wpAny_byText ?_)
  cases hb : w.params.followText "set-order" with
  | true =>
    refine L2.wp_if_pos rfl ?_
    exact wpAny_bind (wpAny_askSetting (wpAny_pure (q _ s.drawn (L2.pick_perm _ _))))
  | false =>
    have hl : t.led = true := ld.elim (fun z => by rw [hb] at z; cases z) id
    refine L2.wp_if_neg (by decide) ?_
    by_cases c : (!t.plain && decide (es.size > 1)) = true
    · refine L2.wp_if_pos c ?_
      refine wpAny_bind (L2.drawOrder_at _ _ _ _ (Nat.le_of_eq (Array.length_toList)) fun ys d hp => wpAny_pure (q _ d ?_))
      rw [List.toList_toArray]
      exact hp
    · refine L2.wp_if_neg c ?_
      refine wpAny_bind ?_
      show wpAny _ _ (if (!t.led && decide (es.size > 1)) = true then _ else pure ()) _ _ _
      rw [hl]
      refine L2.wp_if_neg (by simp) (wpAny_pure (wpAny_pure (q es s.drawn (List.Perm.refl _))))
theorem quiet_all {Q : Bool → Shared → Prop} (xs : List Addr) (hx : ∀ c ∈ xs, ∃ l, TSet P w s.heap c l) (q : Q true s) : wpAny (model P w) A (setsQuiet xs) Q E s := by
  unfold setsQuiet
  refine wpAny_bind (wpAny_forIn_list _ (fun ys (b : Option Bool × Unit) s' => (∀ c ∈ ys, ∃ l, TSet P w s.heap c l) ∧ b = (none, ()) ∧ s' = s) _ (fun x rest b s' ⟨h1, h2, h3⟩ => ?_) (fun b s' ⟨_, h2, h3⟩ => ?_) xs (none, ()) ⟨hx, rfl, rfl⟩)
  · subst h2 h3
    obtain ⟨l, D, e, F, _⟩ := h1 x List.mem_cons_self
    refine wpAny_bind (wpAny_setEntries_of e rfl F.fit ?_)
    have hel : ∀ e ∈ D.1.toList, ∃ k t, e.2 = Value.str k t := fun e he => by
      obtain ⟨k, t, e3, _⟩ := elem_str F.el e he
      exact ⟨k, t, e3⟩
    refine wpAny_bind (MeetsSeq2.wpAny_forIn_array _ (fun ys (b : Option Bool × Unit) s2 => (∀ e ∈ ys, ∃ k t, e.2 = Value.str k t) ∧ b = (none, ()) ∧ s2 = s') _ (fun x rest b s2 ⟨g1, g2, g3⟩ => ?_) (fun b s2 ⟨_, g2, g3⟩ => ?_) D.1 (none, ()) ⟨hel, rfl, rfl⟩)
    · subst g2 g3
      obtain ⟨k, t, e3⟩ := g1 x List.mem_cons_self
      obtain ⟨hx, vx⟩ := x
      have e3 : vx = .str k t := e3
      subst e3
      exact wpAny_pure ⟨fun c hc => g1 c (List.mem_cons_of_mem _ hc), rfl, rfl⟩
    · subst g2 g3
      exact wpAny_pure ⟨fun c hc => h1 c (List.mem_cons_of_mem _ hc), rfl, rfl⟩
  · subst h2 h3
    exact wpAny_pure q
/-- walking a set where nobody sees the order: some order of its entries; the new set r stays empty -/
theorem walk_unseen {D : SD} {Q : Array (Int × Value) → Shared → Prop} (e : s.heap.get? a = some (sObj "set" D)) (F : TxOk P w D l) (nd : l.Nodup) (hl : l.length < scanBound) (wk : Wlk w D.2.2) (Tb : TSet P w s.heap b lb) (Tr : TSet P w s.heap r [])
    (q : ∀ es' h' d', es'.toList.Perm D.1.toList → Heap.SameBut r s.heap h' → TSet P w h' r [] → Q es' { s with heap := h', drawn := d' }) :
    wpAny (model P w) A (setWalkUnseen a [b, r] (some r)) Q E s := by
  obtain ⟨es, ep, t⟩ := D
  have hd : (sObj "set" (es, ep, t)).data = .set es ep t := rfl
  unfold setWalkUnseen
  refine wpAny_bind (wpAny_setState_of e hd F.fit ?_)
  refine wpAny_bind (L2.wpAny_byText ?_)
  by_cases c : (w.params.followText "set-order" || t.led && t.plain || decide (es.size ≤ 1)) = true
  · refine L2.wp_if_pos c (walk_some e F.fit wk.2 fun es' d hp => q es' s.heap d hp (Heap.SameBut.refl r s.heap) Tr)
  · refine L2.wp_if_neg c ?_
    refine wpAny_bind (quiet_all _ (fun x hx => ?_) ?_)
    · rcases List.mem_cons.mp hx with rfl | hx
      · exact ⟨l, (es, ep, t), e, F, nd, hl, wk⟩
      · rcases List.mem_cons.mp hx with rfl | hx
        · exact ⟨lb, Tb⟩
        · rw [List.mem_singleton.mp hx]
          exact ⟨[], Tr⟩
    · refine L2.wp_if_neg (by decide) (wpAny_bind (wpAny_rule ?_))
      have Tr0 := Tr
      obtain ⟨⟨ef, epf, tf⟩, e2, F2, _, _, wk2⟩ := Tr
      have z0 : ef = #[] := Array.eq_empty_of_size_eq_zero F2.sz
      subst z0
      refine wpAny_bind (wpAny_setState_of e2 rfl F2.fit ?_)
      dsimp only
      by_cases c2 : (tf.led && !t.led || tf.plain && !t.plain) = true
      · refine L2.wp_if_pos c2 (wpAny_bind (wpAny_storeSet_of e2 rfl (wpAny_pure (q es _ s.drawn (List.Perm.refl _) (Heap.SameBut.update s.heap r _) ?_)) (Nat.zero_le _)))
        have e3 : s.heap.update r (Obj.putSet #[] { tf with led := tf.led && t.led, plain := tf.plain && t.plain }) = s.heap.update r (fun _ => sObj "set" (#[], epf + 1, { tf with led := tf.led && t.led, plain := tf.plain && t.plain })) := (upd_const _ e2).trans rfl
        rw [e3]
        refine ⟨_, get_upd _ e2 rfl, TxOk.nil F2.fit, List.nodup_nil, by decide, wk2.1, ?_⟩
        rcases wk.2 with z | z
        · exact .inl z
        · rcases wk2.2 with y | y
          · exact .inl y
          · exact .inr (by show (tf.led && t.led) = true; rw [show tf.led = true from y, show t.led = true from z]; rfl)
      · exact L2.wp_if_neg c2 (wpAny_pure (q es s.heap s.drawn (List.Perm.refl _) (Heap.SameBut.refl r s.heap) Tr0))
end
end Ds
set_option Elab.async false
set_option linter.all false
set_option maxRecDepth 100000
set_option maxHeartbeats 4000000
namespace Ds
open PySem PySem.Spec PyProof.Rows PySem.Froz
section
variable {P : Program} {w : World} {A : Around} {E : Value → Shared → Prop} {s : Shared} {a b r : Addr} {l la lb : List Str}
theorem TSet.size {Q : Nat → Shared → Prop} (T : TSet P w s.heap a l) (q : Q l.length s) : wpAny (model P w) A (Builtin.Frozenset.sizeOf a) Q E s := by
  obtain ⟨D, e, F, _⟩ := T
  unfold Builtin.Frozenset.sizeOf
  have hz := F.sz
  refine wpAny_bind (wpAny_setEntries_of e rfl F.fit (wpAny_pure ?_))
  show Q D.1.size s
  rw [hz]
  exact q
theorem TSet.find {k : Str} {t : Tok} {Q : Option Nat → Shared → Prop} (T : TSet P w s.heap a l) (q : ∀ o : Option Nat, o.isSome = decide (k ∈ l) → Q o s) : wpAny (model P w) A (setFind a (.str k t) (hashStr w k)) Q E s := by
  obtain ⟨D, e, F, _, hl, _⟩ := T
  have hz := F.sz
  exact PySem.W.setFind_any (knd := strKind P w) (S := fun k => decide (k ∈ l)) (is_str k t) rfl e rfl F.el (fun k => by rw [decide_eq_true_eq]; exact F.mem k) (by omega) F.fit q
/-- the loop of & -/
theorem and_loop {id : String} {es' : Array (Int × Value)} {D : SD} {x y : Addr} {lx ly : List Str} {h0 : Heap} {Q : PUnit → Shared → Prop} (ex : h0.get? x = some (sObj "set" D)) (F : TxOk P w D lx) (nd : lx.Nodup) (hl : lx.length < scanBound) (Ty : TSet P w h0 y ly) (hx : x ≠ r) (hy : y ≠ r)
    (hp : es'.toList.Perm D.1.toList) (sb : Heap.SameBut r h0 s.heap) (Tr : TSet P w s.heap r [])
    (q : ∀ h' l', Heap.SameBut r h0 h' → TSet P w h' r l' → (∀ k, k ∈ l' ↔ k ∈ lx ∧ k ∈ ly) → Q PUnit.unit { s with heap := h' }) :
    wpAny (model P w) A (forIn es' PUnit.unit fun (z : Int × Value) (_ : PUnit) => match z with
      | (h, v) => do
        holding [v] do
          if (← setFind y v h).isSome = true then do
            let _ ← setAddHashed r v h
            pure ()
          else pure ()
        Builtin.Frozenset.unchanged id x D.2.1
        pure (ForInStep.yield PUnit.unit)) Q E s := by
  have kp := keys_perm F nd
  have hk : (es'.toList.map fun e => strOf e.2).Perm lx := (hp.map _).trans kp.symm
  have hgood : ∀ e ∈ es'.toList, ∃ k t, e.2 = Value.str k t ∧ e.1 = hashStr w k := fun e he => elem_str F.el e (hp.mem_iff.mp he)
  refine MeetsSeq2.wpAny_forIn_array _ (fun ys (u : PUnit) s' => ∃ done l', es'.toList = done ++ ys ∧ s' = { s with heap := s'.heap } ∧ Heap.SameBut r h0 s'.heap ∧ TSet P w s'.heap r l' ∧ l'.length ≤ done.length ∧ ∀ k, k ∈ l' ↔ (k ∈ done.map fun e => strOf e.2) ∧ k ∈ ly) _ (fun e rest u s' ⟨dn, l', h1, h2, h3, h4, h5, h6⟩ => ?_) (fun u s' ⟨dn, l', h1, h2, h3, h4, h5, h6⟩ => ?_) es' PUnit.unit ⟨[], [], rfl, rfl, sb, Tr, Nat.le_refl _, fun k => by simp⟩
  · obtain ⟨hh, v⟩ := e
    obtain ⟨k, t, e1, e2⟩ := hgood (hh, v) (by rw [h1]; simp)
    have e1 : v = .str k t := e1
    have e2 : hh = hashStr w k := e2
    subst e1 e2
    have Ty2 : TSet P w s'.heap y ly := Ty.mv fun o z => (h3.2 y hy).trans z
    have ex2 : s'.heap.get? x = some (sObj "set" D) := (h3.2 x hx).trans ex
    have hlen : dn.length + (rest.length + 1) = lx.length := by
      have z1 := congrArg List.length h1
      rw [List.length_append, List.length_cons] at z1
      have z2 := hk.length_eq
      rw [List.length_map] at z2
      omega
    have fin : ∀ h' l2, Heap.SameBut r h0 h' → TSet P w h' r l2 → l2.length ≤ dn.length + 1 → (∀ z, z ∈ l2 ↔ (z ∈ (dn ++ [(hashStr w k, Value.str k t)]).map fun e => strOf e.2) ∧ z ∈ ly) →
        wpAny (model P w) A (Builtin.Frozenset.unchanged id x D.2.1) (fun _ s2 => ∃ done l', es'.toList = done ++ rest ∧ s2 = { s with heap := s2.heap } ∧ Heap.SameBut r h0 s2.heap ∧ TSet P w s2.heap r l' ∧ l'.length ≤ done.length ∧ ∀ k, k ∈ l' ↔ (k ∈ done.map fun e => strOf e.2) ∧ k ∈ ly) E { s' with heap := h' } := fun h' l2 g1 g2 g3 g4 => by
      unfold Builtin.Frozenset.unchanged setEpoch
      have ex3 : h'.get? x = some (sObj "set" D) := (g1.2 x hx).trans ex
      refine wpAny_bind (wpAny_bind (wpAny_setState_of ex3 rfl F.fit (wpAny_pure ?_)))
      refine L2.wp_if_neg (by simp) (wpAny_pure ⟨dn ++ [(hashStr w k, Value.str k t)], l2, by rw [h1]; simp, ?_, g1, g2, by simpa using g3, g4⟩)
      show ({ s' with heap := h' } : Shared) = { s with heap := h' }
      rw [h2]
    refine wpAny_bind (wpAny_holding (wpAny_bind (TSet.find Ty2 fun o ho => ?_)))
    by_cases c : k ∈ ly
    · rw [decide_eq_true c] at ho
      refine L2.wp_if_pos ho (wpAny_bind (TSet.add h4 (by omega) fun b1 h7 sb7 T7 => wpAny_pure ?_))
      refine wpAny_bind (wpAny_mono (fin h7 (plus l' k) ⟨sb7.1.trans h3.1, fun c hc => (sb7.2 c hc).trans (h3.2 c hc)⟩ T7 ?_ fun z => ?_) (fun _ s2 h => wpAny_pure h) fun _ _ z => z)
      · have := plus_len l' k
        omega
      · rw [List.map_append, List.mem_append]
        unfold plus
        by_cases c2 : k ∈ l'
        · rw [if_pos c2, h6 z]
          constructor
          · exact fun ⟨z1, z2⟩ => ⟨.inl z1, z2⟩
          · rintro ⟨z1 | z1, z2⟩
            · exact ⟨z1, z2⟩
            · have z1 : z = k := by simpa [strOf] using z1
              rw [z1]
              exact (h6 k).mp c2
        · rw [if_neg c2, List.mem_cons, h6 z]
          constructor
          · rintro (z1 | ⟨z1, z2⟩)
            · rw [z1]
              exact ⟨.inr (by simp [strOf]), c⟩
            · exact ⟨.inl z1, z2⟩
          · rintro ⟨z1 | z1, z2⟩
            · exact .inr ⟨z1, z2⟩
            · exact .inl (by simpa [strOf] using z1)
    · rw [decide_eq_false c] at ho
      refine L2.wp_if_neg (by rw [ho]; decide) (wpAny_pure ?_)
      refine wpAny_bind (wpAny_mono (fin s'.heap l' h3 h4 (by omega) fun z => ?_) (fun _ s2 h => wpAny_pure h) fun _ _ z => z)
      rw [List.map_append, List.mem_append, h6 z]
      constructor
      · exact fun ⟨z1, z2⟩ => ⟨.inl z1, z2⟩
      · rintro ⟨z1 | z1, z2⟩
        · exact ⟨z1, z2⟩
        · have z1 : z = k := by simpa [strOf] using z1
          rw [z1] at z2
          exact absurd z2 c
  · rw [List.append_nil] at h1
    have hd : (dn.map fun e => strOf e.2).Perm lx := by rw [← h1]; exact hk
    rw [h2]
    exact q s'.heap l' h3 h4 fun k => by rw [h6 k, hd.mem_iff]
/-- x & y -/
theorem TSet.both {Q : Value → Shared → Prop} (Ta : TSet P w s.heap a la) (Tb : TSet P w s.heap b lb) (hab : a ≠ b)
    (q : ∀ h' d' l', (∀ c o, s.heap.get? c = some o → h'.get? c = some o) → TSet P w h' s.heap.objs.size l' → (∀ k, k ∈ l' ↔ k ∈ la ∧ k ∈ lb) → Q (.ref s.heap.objs.size) { s with heap := h', drawn := d' }) :
    wpAny (model P w) A (binaryOp .BitAnd (.ref a) (.ref b)) Q E s := by
  refine wpAny_binaryOp_same (T := "set") (id := "set.__and__") Ta.ty Tb.ty F.fills_set_and F.slot_set_and ?_
  refine wpAny_call_entry F.slot_set_and Ta.ty entry_and ?_ (F.args_set_and_2 _ _)
  show wpAny _ _ (do
    let (self, other) ← Builtin.Frozenset.slot1 "__and__" ⟨[.ref a, .ref b], []⟩
    let (l, r) := (self, other)
    if !(← Builtin.Frozenset.isAnySet l <&&> Builtin.Frozenset.isAnySet r) then
      rule s!"frozenset.{"__and__"}.declined"
      return ← ret .notImplemented
    ret (← Builtin.Frozenset.intersection s!"frozenset.{"__and__"}" (← Builtin.Frozenset.addrOf l) r)) _ _ _
  refine wpAny_bind (m := Builtin.Frozenset.slot1 "__and__" _) (wpAny_of_eq (a := (Value.ref a, Value.ref b)) (by rfl) ?_)
  dsimp only
  refine wpAny_bind ?_
  unfold andM
  refine wpAny_bind (any_set Ta.ty ?_)
  show wpAny _ _ (Builtin.Frozenset.isAnySet (.ref b)) _ _ _
  refine any_set Tb.ty ?_
  refine L2.wp_if_neg (by decide) ?_
  refine wpAny_bind (wpAny_of_eq (a := a) rfl ?_)
  refine wpAny_bind ?_
  unfold Builtin.Frozenset.intersection
  refine L2.wp_if_neg (by simpa using Ne.symm hab) ?_
  refine wpAny_bind (base_of Ta.ty ?_)
  refine wpAny_bind (wpAny_newSet_raw fun led hled => ?_)
  subst hled
  have k1 : ∀ c o, s.heap.get? c = some o → (s.heap.push (sObj "set" (nuD w))).get? c = some o := fun c o z => Heap.get?_push_of_some _ z
  have Tr : TSet P w (s.heap.push (sObj "set" (nuD w))) s.heap.objs.size [] := TSet.nu (Heap.get?_push_size _ rfl)
  have Ta1 : TSet P w (s.heap.push (sObj "set" (nuD w))) a la := Ta.mv fun o z => k1 _ o z
  have Tb1 : TSet P w (s.heap.push (sObj "set" (nuD w))) b lb := Tb.mv fun o z => k1 _ o z
  have na : a ≠ s.heap.objs.size := by
    obtain ⟨D, e, _⟩ := Ta
    exact Nat.ne_of_lt (Heap.lt_size e)
  have nb : b ≠ s.heap.objs.size := by
    obtain ⟨D, e, _⟩ := Tb
    exact Nat.ne_of_lt (Heap.lt_size e)
  change wpAny _ _ _ _ _ { s with heap := s.heap.push (sObj "set" (nuD w)) }
  have q2 : ∀ h' d' l', Heap.SameBut s.heap.objs.size (s.heap.push (sObj "set" (nuD w))) h' → TSet P w h' s.heap.objs.size l' → (∀ k, k ∈ l' ↔ k ∈ la ∧ k ∈ lb) → Q (.ref s.heap.objs.size) { s with heap := h', drawn := d' } := fun h' d' l' sb T hk =>
    q h' d' l' (fun c o z => (sb.2 c (Nat.ne_of_lt (Heap.lt_size z))).trans (k1 c o z)) T hk
  clear q
  generalize hh1 : s.heap.push (sObj "set" (nuD w)) = h1 at k1 Tr Ta1 Tb1 q2 ⊢
  generalize hn : s.heap.objs.size = n at Tr na nb q2 ⊢
  refine wpAny_bind (wpAny_of_eq (a := n) rfl ?_)
  refine wpAny_bind (wpAny_holding ?_)
  refine wpAny_bind (any_set Tb1.ty ?_)
  refine L2.wp_if_pos rfl ?_
  refine wpAny_bind (wpAny_of_eq (a := b) rfl ?_)
  refine wpAny_bind (TSet.size Tb1 ?_)
  refine wpAny_bind (TSet.size Ta1 ?_)
  have core : ∀ (x y : Addr) (lx ly : List Str), TSet P w h1 x lx → TSet P w h1 y ly → x ≠ n → y ≠ n → (∀ k, k ∈ lx ∧ k ∈ ly ↔ k ∈ la ∧ k ∈ lb) →
      wpAny (model P w) A.in1 (do
        let was ← setEpoch x
        let es ← setWalkUnseen x [y, n] (some n)
        forIn es PUnit.unit fun (z : Int × Value) (_ : PUnit) => match z with
          | (h, v) => do
            holding [v] do
              if (← setFind y v h).isSome = true then do
                let _ ← setAddHashed n v h
                pure ()
              else pure ()
            Builtin.Frozenset.unchanged (toString "frozenset." ++ toString "__and__") x was
            pure (ForInStep.yield PUnit.unit)
        pure ()) (fun _ s' => wpAny (model P w) A.in1 (pure (Value.ref n)) (fun a s' => wpAny (model P w) A.in1 (ret a) (fun fin s' => ∃ v, fin = Fin.done (Flow.ret v) ∧ v ≠ Value.notImplemented ∧ Q v s') E s') E s') E { s with heap := h1 } := fun x y lx ly Tx Ty hx hy hk => by
    obtain ⟨D, e, F, nd, hl, wk⟩ := Tx
    unfold setEpoch
    refine wpAny_bind (wpAny_bind (wpAny_setState_of e rfl F.fit (wpAny_pure ?_)))
    refine wpAny_bind (walk_unseen e F nd hl wk Ty Tr fun es h2 d2 hp sb T2 => ?_)
    refine wpAny_bind (and_loop (s := { s with heap := h2, drawn := d2 }) e F nd hl Ty hx hy hp sb T2 fun h3 l3 sb3 T3 hk3 => ?_)
    refine wpAny_pure (wpAny_pure (wpAny_pure ⟨_, rfl, by simp, q2 h3 d2 l3 sb3 T3 fun k => (hk3 k).trans (hk k)⟩))
  by_cases c : lb.length > la.length
  · rw [if_pos c]
    exact core a b la lb Ta1 Tb1 na nb fun k => Iff.rfl
  · rw [if_neg c]
    exact core b a lb la Tb1 Ta1 nb na fun k => And.comm
end
end Ds
set_option Elab.async false
set_option linter.all false
set_option maxRecDepth 100000
set_option maxHeartbeats 4000000
namespace Ds
open PySem PySem.Spec PyProof.Rows PySem.Froz L2
section
variable {X : Cx}
end
end Ds
set_option Elab.async false
set_option linter.all false
set_option maxRecDepth 100000
set_option maxHeartbeats 4000000
namespace Lc
open PySem PySem.Spec PyProof.Rows L2
/-! ### a def that is called -/
structure Dn (P : Program) (w : World) (K : PySem.W.Frag) (mg : Str → Option Value) (base : Heap) (x : Str) (ps : List Str) (k : Nat) (sp : Sp) where
  f : Addr
  fd : FuncData
  kp : PySem.W.keepIn K (.ref f) = true
  g : mg x = some (.ref f)
  b : Binds K fd ps []
  G : FnOk P w K mg base CX0 k f fd ps sp
section
variable {X : Cx} {x : Str} {ps : List Str} {k : Nat} {sp : Sp} {e : Expr} {es : List Expr} {t : TA} {p pos : Pos}
theorem pe_dn (C : Dn X.prog X.w X.K X.mg X.base x ps k sp) (hr : Room k X.A) (hg : Gl X x) (ha : PA X (e :: es) t) (hdb : (x == ("__debug__" : Str)) = false := by decide)
    (he : starEach (e :: es) X.env = (false, eval e X.env) :: starEach es X.env := by rfl) (hpl : (backTo pos (starEach es X.env)).any (·.1) = false := by rfl) :
    PE X (.Call (.Name x p) (e :: es) [] pos) (tCall sp [] E0 t) := pe_call C.G hr hg C.g C.kp C.b .nil pass0 ha hdb he hpl
end
/-! ### frames: what is not in M stays as it is -/
def Fr (M : Addr → Prop) (H H' : Hp) : Prop := ∀ b o, H b = some o → ∃ o', H' b = some o' ∧ (¬ M b → o' = o)
theorem Fr.refl {M : Addr → Prop} (H : Hp) : Fr M H H := fun _ o h => ⟨o, h, fun _ => rfl⟩
theorem Fr.trans {M : Addr → Prop} {H H1 H2 : Hp} (a : Fr M H H1) (b : Fr M H1 H2) : Fr M H H2 := fun c o h => by
  obtain ⟨o1, h1, e1⟩ := a c o h
  obtain ⟨o2, h2, e2⟩ := b c o1 h1
  exact ⟨o2, h2, fun n => (e2 n).trans (e1 n)⟩
theorem Fr.new {M : Addr → Prop} {H : Hp} {p : Addr} {o : HO} (h : H p = none) : Fr M H (upd H p o) := fun b u e => ⟨u, by rw [upd_ne (ne_of_none e h)]; exact e, fun _ => rfl⟩
theorem Fr.mut {M : Addr → Prop} {H : Hp} {p : Addr} {o : HO} (h : M p) : Fr M H (upd H p o) := fun b u e => by
  by_cases q : b = p
  · subst q
    exact ⟨o, upd_same, fun n => absurd h n⟩
  · exact ⟨u, by rw [upd_ne q]; exact e, fun _ => rfl⟩
/-- what H does not know may change -/
theorem Fr.own {M : Addr → Prop} {H H' : Hp} {p : Addr} {o : HO} (e : Fr M H H') (h : H p = none) : Fr M H (upd H' p o) := fun b u q => by
  obtain ⟨o', h1, h2⟩ := e b u q
  exact ⟨o', by rw [upd_ne (ne_of_none q h)]; exact h1, h2⟩
theorem Fr.free {M : Addr → Prop} {H H' : Hp} {p : Addr} (e : Fr M H H') (h : H' p = none) : H p = none := by
  cases q : H p with
  | none => rfl
  | some o =>
    obtain ⟨o', h1, _⟩ := e p o q
    rw [h1] at h
    cases h
theorem Fr.at {M : Addr → Prop} {H H' : Hp} {b : Addr} {o : HO} (e : Fr M H H') (h : H b = some o) (n : ¬ M b) : H' b = some o := by
  obtain ⟨o', h1, h2⟩ := e b o h
  rw [h2 n] at h1
  exact h1
theorem Fr.of {M : Addr → Prop} {H H' : Hp} (e : Same H H') : Fr M H H' := fun b o h => ⟨o, e b o h, fun _ => rfl⟩
theorem Fr.seq {M : Addr → Prop} {K : PySem.W.Frag} {H H' : Hp} {a : Addr} {xs : List V} (e : Fr M H H') (n : ¬ M a) (h : SqL K H a xs) : SqL K H' a xs := by
  rcases h with (h | ⟨o, h⟩) | h
  · exact .inl (.inl (e.at h n))
  · exact .inl (.inr ⟨o, e.at h n⟩)
  · exact .inr h
theorem same_new {H : Hp} {p : Addr} {o : HO} (h : H p = none) : Same H (upd H p o) := fun b x e => by
  rw [upd_ne (ne_of_none e h)]
  exact e
theorem sz {n : Nat} (h : n ≤ 100000) : n ≤ sizeLine := Nat.le_trans h (by decide)
theorem szl {n : Nat} (h : n < 100000) : n < sizeLine := Nat.lt_of_lt_of_le h (by decide)
/-! ### powers by squares -/
/-! ### pigeons -/
theorem nodup_le {α : Type} [DecidableEq α] : ∀ (l m : List α), l.Nodup → (∀ x ∈ l, x ∈ m) → l.length ≤ m.length
  | [], m, _, _ => Nat.zero_le _
  | a :: l, m, hn, hs => by
    have ha : a ∈ m := hs a List.mem_cons_self
    have hn' := List.nodup_cons.mp hn
    have ih := nodup_le l (m.erase a) hn'.2 fun x hx => (List.mem_erase_of_ne (fun e => by subst e; exact hn'.1 hx)).mpr (hs x (List.mem_cons_of_mem _ hx))
    rw [List.length_erase_of_mem ha] at ih
    have : 0 < m.length := List.length_pos_of_mem ha
    simp only [List.length_cons]
    omega
theorem own_few (own : List (List Nat)) (n : Nat) (h : ∀ o ∈ own, (own.filter fun q => decide (q.dropLast = o.dropLast)).length ≤ n) (p : List Nat) : (own.filter fun q => decide (q.dropLast = p)).length ≤ n := by
  by_cases hp : ∃ o ∈ own, o.dropLast = p
  · obtain ⟨o, ho, e⟩ := hp
    rw [← e]
    exact h o ho
  · have : (own.filter fun q => decide (q.dropLast = p)) = [] := by
      rw [List.filter_eq_nil_iff]
      intro q hq
      simp
      exact fun e => hp ⟨q, hq, e⟩
    rw [this]
    exact Nat.zero_le _
end Lc
namespace Lc
open PySem PySem.Spec PyProof.Rows L2
/-! ### data -/
theorem lay_strs : ∀ ns : List Str, (∀ x ∈ ns, PyData.canLay0 (.str x) = true) → PyData.canLayAll0 (ns.map PyData.str) = true
  | [], _ => rfl
  | n :: r, h => by
    show (PyData.canLay0 (.str n) && PyData.canLayAll0 (r.map PyData.str)) = true
    rw [lay_strs r fun x hx => h x (List.mem_cons_of_mem _ hx), h n List.mem_cons_self]
    rfl
theorem dep_strs : ∀ ns : List Str, PyData.depthAll (ns.map PyData.str) = 0
  | [] => rfl
  | n :: r => by
    show max (PyData.depth (.str n)) (PyData.depthAll (r.map PyData.str)) = 0
    rw [dep_strs r]
    rfl
theorem cut_to (xs : List V) (k : Nat) : cutV xs none (some (k : Int)) = xs.take k := by
  unfold cutV
  rw [HT.sIx_none, HT.sIx_nat, List.drop_zero, Nat.sub_zero]
  by_cases h : k ≤ xs.length
  · rw [Nat.min_eq_left h]
  · rw [Nat.min_eq_right (by omega), List.take_length, List.take_of_length_le (by omega)]
theorem cut_from (xs : List V) (k : Nat) : cutV xs (some (k : Int)) none = xs.drop k := by
  unfold cutV
  rw [HT.sIx_none, HT.sIx_nat]
  by_cases h : k ≤ xs.length
  · rw [Nat.min_eq_left h, List.take_of_length_le]
    rw [List.length_drop]
    exact Nat.le_refl _
  · rw [Nat.min_eq_right (by omega), Nat.sub_self, List.take_zero, List.drop_of_length_le (by omega)]
end Lc
namespace Lc
open PySem PySem.Spec PyProof.Rows L2
/-! ### texts by their codes -/
theorem in_strs {x : Str} : ∀ {xs : List Str}, inV (.str x) (xs.map V.str) = decide (x ∈ xs)
  | [] => by simp [inV]
  | y :: r => by
    have ih := in_strs (x := x) (xs := r)
    unfold inV at ih ⊢
    rw [List.map_cons, List.any_cons, ih]
    show ((y == x) || decide (x ∈ r)) = decide (x ∈ y :: r)
    by_cases h : y = x
    · subst h
      simp
    · have h2 : ¬ x = y := fun e => h e.symm
      simp [h, h2]
/-- small signs alone -/
def Low (l : List Nat) : Prop := ∀ c ∈ l, 97 ≤ c ∧ c ≤ 122
theorem Low.app {a b : List Nat} (h : Low a) (g : Low b) : Low (a ++ b) := fun c hc => (List.mem_append.mp hc).elim (h c) (g c)
theorem Low.take {a : List Nat} (h : Low a) (k : Nat) : Low (a.take k) := fun c hc => h c (List.mem_of_mem_take hc)
theorem Low.drop {a : List Nat} (h : Low a) (k : Nat) : Low (a.drop k) := fun c hc => h c (List.mem_of_mem_drop hc)
end Lc
namespace Lc
open PySem PySem.Spec PyProof.Rows L2
/-! ### the rules with the written part told, for use inside a comprehension -/
section
variable {X : Cx} (K : PySem.W.Frag)
variable {o e : Expr} {es : List Expr} {to : TE} {t : TA} {name : Str} {apos cpos : Pos} {T id : String} {r : V → List V → Hp → VK → Prop}
end
end Lc
namespace Lc
open PySem PySem.Spec PyProof.Rows L2
end Lc
set_option Elab.async false
set_option linter.all false
set_option maxRecDepth 100000
set_option maxHeartbeats 4000000
/-! tuples made anew, told with their object: it has no dict of its own -/
namespace Dl
open PySem PySem.Spec PyProof.Rows L2
/-- the object of a new tuple -/
abbrev tpO (its : List Value) : Obj := { cls := .type "tuple", data := .seq its.toArray }
/-- what is asked of a new tuple's place -/
def NewT (H : Hp) (xs : List V) (Q : VK) : Prop := ∀ (p : Addr) (o : Obj), H p = none → o.dict = none → Q (.ref p) (upd H p (.frz o (.tup xs)))
section
variable {X : Cx} {pins : List (Addr × Obj)} {σ : L2.St} {H : Hp} {s : Shared}
/-- a tuple laid at the heap's end -/
theorem laid_new {vs : List V} {us : List Value} {Q : VK} {h' : Heap} (I : Inv X pins σ H { s with heap := h' }) (r : Vals vs us) (z : vs.length ≤ sizeLine) (q : NewT H vs Q) :
    EP X pins σ Q (.ref h'.objs.size) { s with heap := h'.push (tpO us) } := by
  have new : ObjOk X.prog X.w (upd H h'.objs.size (.frz (tpO us) (.tup vs))) (h'.push (tpO us)) h'.objs.size (.frz (tpO us) (.tup vs)) :=
    ⟨Heap.get?_push_size _ rfl, z, us, r, IsTup.new _ _⟩
  exact ⟨.ref h'.objs.size, _, I.laid (t' := s.toks) (fun b ob e => Heap.get?_push_of_some _ e) (Nat.le_refl _) new, rfl, q _ _ (I.hok.fresh (Nat.le_refl _)) rfl⟩
end
def tTupF (t : TA) : TE := fun σ H Q => t σ H fun xs H1 => xs.length ≤ sizeLine ∧ NewT H1 xs Q
theorem pe_tupF {X : Cx} {es : List Expr} {t : TA} {pos : Pos} {x1} (h : PA X es t) : PE X (.Tuple es x1 pos) (tTupF t) := by
  constructor
  intro pins s σ H Q I hq
  refine wpAny_Tuple_spliced (thn (h.run pos pins s σ H _ I hq) ?_)
  rintro us s1 ⟨xs, H1, I1, r, z, q⟩
  exact ⟨r.length ▸ z, laid_new (h' := s1.heap) I1 r z q⟩
/-- t + u -/
def rCatF (K : PySem.W.Frag) : R2 := fun x y H Q => ∃ a b xs ys, x = .ref a ∧ y = .ref b ∧ SqT K H a xs ∧ SqT K H b ys ∧ xs.length + ys.length ≤ sizeLine ∧
  (xs = [] → Q (.ref b) H) ∧ (xs ≠ [] → ys = [] → Q (.ref a) H) ∧ (xs ≠ [] → ys ≠ [] → NewT H (xs ++ ys) Q)
theorem op_catF {X : Cx} : OpR X (binaryOp .Add) (rCatF X.K) := by
  intro pins s σ H x y v u Q I rx ry ⟨a, b, xs, ys, ex, ey, ha, hb, hz, q0, q1, q2⟩
  subst ex ey
  cases rx
  cases ry
  obtain ⟨us, r1, p1, _⟩ := I.tuple ha
  obtain ⟨ws, r2, p2, _⟩ := I.tuple hb
  by_cases hx : xs = []
  · subst hx
    cases r1
    exact cat_tup0 p1 p2 ⟨.ref b, H, I, rfl, q0 rfl⟩
  · refine HT.cat_tup p1 p2 (fun z => hx (r1.nil_iff.mp z)) (fun z => ⟨.ref a, H, I, rfl, q1 hx (r2.nil_iff.mp z)⟩) (fun z => ?_) (by rw [← r1.length, ← r2.length]; exact hz)
    exact laid_new (h' := s.heap) I (r1.append r2) (by rw [List.length_append]; exact hz) (q2 hx fun w => z (r2.nil_iff.mpr w))
end Dl
set_option Elab.async false
set_option linter.all false
set_option maxRecDepth 100000
set_option maxHeartbeats 4000000
/-! values as data: what a value in the heap stands for, and readings by functions on data -/
namespace Dl
open PySem PySem.Spec PyProof.Rows L2
abbrev D := PyData
abbrev Bar := Addr → Prop
/-- the written part, and the handles of what is shared -/
structure Kx where
  K : PySem.W.Frag
  hd : Nat → Addr → Prop
def KT (K : PySem.W.Frag) (a : Addr) (xs : List V) : Prop :=
  ∃ (o : Obj) (its : Array Value) (n : Nat), K.lookup a = some o ∧ o.cls = .type "tuple" ∧ o.data = .seq its n ∧ its.size ≤ sizeLine ∧ Vals xs its.toList ∧ o.dict = none
theorem KT.sq {K : PySem.W.Frag} {a : Addr} {xs : List V} {H : Hp} (h : KT K a xs) : SqT K H a xs := by
  obtain ⟨o, its, n, h1, h2, h3, h4, h5, _⟩ := h
  exact .inr ⟨o, its, n, h1, h2, h3, h4, h5⟩
/-- all are tuples -/
def allTup : List D → Bool
  | [] => true
  | .tuple _ :: r => allTup r
  | _ => false
/-- a tuple in the heap; its object is told, but where it is one of a walk's pairs -/
def TpAt (H : Hp) (a : Addr) (ds : List D) (vs : List V) : Prop := (H a = some (.tup vs) ∧ allTup ds = false) ∨ ∃ o : Obj, H a = some (.frz o (.tup vs)) ∧ o.dict = none
theorem TpAt.sq {K : PySem.W.Frag} {H : Hp} {a : Addr} {ds : List D} {vs : List V} (h : TpAt H a ds vs) : SqT K H a vs := by
  rcases h with ⟨h, _⟩ | ⟨o, h, _⟩
  · exact .inl (.inl h)
  · exact .inl (.inr ⟨o, h⟩)
theorem TpAt.mv {H H' : Hp} {a : Addr} {ds : List D} {vs : List V} (h : TpAt H a ds vs) (k : ∀ o, H a = some o → H' a = some o) : TpAt H' a ds vs := by
  rcases h with ⟨h, z⟩ | ⟨o, h, z⟩
  · exact .inl ⟨k _ h, z⟩
  · exact .inr ⟨o, k _ h, z⟩
theorem TpAt.ex {H : Hp} {a : Addr} {ds : List D} {vs : List V} (h : TpAt H a ds vs) : ∃ o, H a = some o := by
  rcases h with ⟨h, z⟩ | ⟨o, h, z⟩
  · exact ⟨_, h⟩
  · exact ⟨_, h⟩
/-- a handle as data -/
def isHd : List (D × D) → Bool
  | [(.int _, .none)] => true
  | _ => false
/-- what is no plain dict: a handle, an object (its first row tells the class), a dict whose keys are pairs (its first row tells so) -/
def isHn : List (D × D) → Bool
  | [(.int _, .none)] => true
  | (.none, _) :: _ => true
  | (.tuple _, _) :: _ => true
  | _ => false
/-- a dict whose keys are pairs of whole numbers, with True at each -/
def pkK (p : Int × Int) : List Key := [.inl p.1, .inl p.2]
def PD (L : Addr) (ks : List ((Int × Int) × Addr)) : HO := .ext fun h => (L == sysModules) = false ∧ ∃ (P : Program) (w : World) (o : Obj) (es : Array DictEntry) (ep : Nat), h.get? L = some o ∧ o.ExactDict ∧ o.data = .dict es ep ∧
  es.toList = ks.map (fun p => entryOfKey (tupleKind (mixKind P w)) (pkK p.1, p.2, Value.bool true)) ∧ (ks.map (·.1)).Nodup
def pkD (p : Int × Int) : D := .tuple [.int p.1, .int p.2]
def pdD (ks : List (Int × Int)) : List (D × D) := (.tuple [], .none) :: ks.map fun p => (pkD p, .bool true)
def keyD : D → Option Key
  | .str x => some (.inr x)
  | .int i => some (.inl i)
  | _ => none
/-- a handle: a thing that is shared and may change, told by its number -/
def hnd (n : Nat) : D := .dict [(.int n, .none)]
/-- a pair of whole numbers at b -/
def PkAt (G : Kx) (B : Bar) (H : Hp) (p : Int × Int) (b : Addr) : Prop := (TpAt H b [.int p.1, .int p.2] [.int p.1, .int p.2] ∧ ¬ B b) ∨ KT G.K b [.int p.1, .int p.2]
mutual
def Rep (G : Kx) (B : Bar) (H : Hp) : D → V → Prop
  | .none, v => v = .non
  | .bool b, v => v = .bl b
  | .int i, v => v = .int i
  | .str x, v => v = .str x
  | .list ds, v => ∃ a vs, v = .ref a ∧ H a = some (.lst vs) ∧ ¬ B a ∧ Reps G B H ds vs
  | .tuple ds, v => ∃ a vs, v = .ref a ∧ ((TpAt H a ds vs ∧ ¬ B a) ∨ KT G.K a vs) ∧ Reps G B H ds vs
  | .dict kvs, v => ∃ a, v = .ref a ∧ ((∃ n, kvs = [(.int (n : Nat), .none)] ∧ G.hd n a) ∨ (isHn kvs = false ∧ ∃ kv, H a = some (.dK kv) ∧ ¬ B a ∧ Repk G B H kvs kv) ∨
    (∃ c : Nat, kvs.head? = some (.none, .int c) ∧ ∃ C dx fv, G.hd (1000 + c) C ∧ H a = some (.ins C dx fv) ∧ ¬ B a ∧ Repo G B H kvs fv) ∨
    (∃ ks : List ((Int × Int) × Addr), kvs = pdD (ks.map (·.1)) ∧ H a = some (PD a ks) ∧ ¬ B a ∧ ∀ p ∈ ks, PkAt G B H p.1 p.2) ∨
    (∃ c : Nat, kvs.head? = some (.none, .tuple [.int c]) ∧ ∃ C d fv, G.hd (2000 + c) C ∧ H a = some (exo a C d) ∧ ¬ B a ∧ ((d = none ∧ fv = []) ∨ ∃ dx, d = some dx ∧ H dx = some (exd dx fv) ∧ ¬ B dx) ∧ Repo G B H kvs fv))
def Reps (G : Kx) (B : Bar) (H : Hp) : List D → List V → Prop
  | [], vs => vs = []
  | d :: ds, vs => ∃ v r, vs = v :: r ∧ Rep G B H d v ∧ Reps G B H ds r
def Repk (G : Kx) (B : Bar) (H : Hp) : List (D × D) → List (Key × V) → Prop
  | [], kv => kv = []
  | (k, d) :: r, kv => ∃ q v t, kv = (q, v) :: t ∧ keyD k = some q ∧ Rep G B H d v ∧ Repk G B H r t
/-- an object's attributes; the row that tells the class is passed over -/
def Repo (G : Kx) (B : Bar) (H : Hp) : List (D × D) → List (Str × V) → Prop
  | [], fv => fv = []
  | (k, d) :: r, fv => (k = .none ∧ Repo G B H r fv) ∨ ∃ x v t, fv = (x, v) :: t ∧ k = .str x ∧ Rep G B H d v ∧ Repo G B H r t
end
theorem PkAt.mv {G : Kx} {B B' : Bar} {H H' : Hp} {p : Int × Int} {b : Addr} (h : PkAt G B H p b) (k : ∀ a o, H a = some o → ¬ B a → H' a = some o ∧ ¬ B' a) : PkAt G B' H' p b := by
  rcases h with ⟨h1, h2⟩ | h
  · obtain ⟨o, e⟩ := h1.ex
    exact .inl ⟨h1.mv fun o e => (k _ o e h2).1, (k _ o e h2).2⟩
  · exact .inr h
section
variable {G : Kx} {B B' : Bar} {H H' : Hp}
mutual
theorem Rep.mv (k : ∀ a o, H a = some o → ¬ B a → H' a = some o ∧ ¬ B' a) : ∀ (d : D) (v : V), Rep G B H d v → Rep G B' H' d v
  | .none, _, h => by simpa only [Rep] using h
  | .bool _, _, h => by simpa only [Rep] using h
  | .int _, _, h => by simpa only [Rep] using h
  | .str _, _, h => by simpa only [Rep] using h
  | .list ds, v, h => by
    simp only [Rep] at h ⊢
    obtain ⟨a, vs, e, h1, h2, h3⟩ := h
    exact ⟨a, vs, e, (k a _ h1 h2).1, (k a _ h1 h2).2, Reps.mv k ds vs h3⟩
  | .tuple ds, v, h => by
    simp only [Rep] at h ⊢
    obtain ⟨a, vs, e, h1, h3⟩ := h
    refine ⟨a, vs, e, ?_, Reps.mv k ds vs h3⟩
    rcases h1 with ⟨h1, h2⟩ | h1
    · obtain ⟨o, e1⟩ := h1.ex
      exact .inl ⟨h1.mv fun o e => (k a _ e h2).1, (k a _ e1 h2).2⟩
    · exact .inr h1
  | .dict kvs, _, h => by
    simp only [Rep] at h ⊢
    obtain ⟨a, e, h⟩ := h
    refine ⟨a, e, ?_⟩
    rcases h with h | ⟨h1, kv, h2, h3, h4⟩ | ⟨c, h0, C, dx, fv, h1, h2, h3, h4⟩ | ⟨ks, h0, h2, h3, h4⟩ | ⟨c, h0, C, d, fv, h1, h2, h3, h5, h4⟩
    · exact .inl h
    · exact .inr (.inl ⟨h1, kv, (k a _ h2 h3).1, (k a _ h2 h3).2, Repk.mv k kvs kv h4⟩)
    · exact .inr (.inr (.inl ⟨c, h0, C, dx, fv, h1, (k a _ h2 h3).1, (k a _ h2 h3).2, Repo.mv k kvs fv h4⟩))
    · exact .inr (.inr (.inr (.inl ⟨ks, h0, (k a _ h2 h3).1, (k a _ h2 h3).2, fun p hp => (h4 p hp).mv k⟩)))
    · exact .inr (.inr (.inr (.inr ⟨c, h0, C, d, fv, h1, (k a _ h2 h3).1, (k a _ h2 h3).2, h5.imp id fun ⟨dx, e1, e2, e3⟩ => ⟨dx, e1, (k dx _ e2 e3).1, (k dx _ e2 e3).2⟩, Repo.mv k kvs fv h4⟩)))
theorem Reps.mv (k : ∀ a o, H a = some o → ¬ B a → H' a = some o ∧ ¬ B' a) : ∀ (ds : List D) (vs : List V), Reps G B H ds vs → Reps G B' H' ds vs
  | [], _, h => by simpa only [Reps] using h
  | d :: ds, vs, h => by
    simp only [Reps] at h ⊢
    obtain ⟨v, r, e, h1, h2⟩ := h
    exact ⟨v, r, e, Rep.mv k d v h1, Reps.mv k ds r h2⟩
theorem Repk.mv (k : ∀ a o, H a = some o → ¬ B a → H' a = some o ∧ ¬ B' a) : ∀ (ds : List (D × D)) (vs : List (Key × V)), Repk G B H ds vs → Repk G B' H' ds vs
  | [], _, h => by simpa only [Repk] using h
  | (_, d) :: ds, vs, h => by
    simp only [Repk] at h ⊢
    obtain ⟨q, v, r, e, h0, h1, h2⟩ := h
    exact ⟨q, v, r, e, h0, Rep.mv k d v h1, Repk.mv k ds r h2⟩
theorem Repo.mv (k : ∀ a o, H a = some o → ¬ B a → H' a = some o ∧ ¬ B' a) : ∀ (ds : List (D × D)) (vs : List (Str × V)), Repo G B H ds vs → Repo G B' H' ds vs
  | [], _, h => by simpa only [Repo] using h
  | (_, d) :: ds, vs, h => by
    simp only [Repo] at h ⊢
    rcases h with ⟨e, h⟩ | ⟨x, v, t, e, e2, h1, h2⟩
    · exact .inl ⟨e, Repo.mv k ds vs h⟩
    · exact .inr ⟨x, v, t, e, e2, Rep.mv k d v h1, Repo.mv k ds t h2⟩
end
theorem Rep.same {d : D} {v : V} (h : Rep G B H d v) (s : Same H H') : Rep G B H' d v := h.mv fun a o e n => ⟨s a o e, n⟩
theorem Reps.same {d : List D} {v : List V} (h : Reps G B H d v) (s : Same H H') : Reps G B H' d v := h.mv fun a o e n => ⟨s a o e, n⟩
theorem Rep.fr {M : Bar} {d : D} {v : V} (h : Rep G B H d v) (f : Lc.Fr M H H') (m : ∀ a, M a → B a) : Rep G B H' d v := h.mv fun a o e n => ⟨f.at e fun z => n (m a z), n⟩
theorem Reps.fr {M : Bar} {d : List D} {v : List V} (h : Reps G B H d v) (f : Lc.Fr M H H') (m : ∀ a, M a → B a) : Reps G B H' d v := h.mv fun a o e n => ⟨f.at e fun z => n (m a z), n⟩
theorem Repk.same {d : List (D × D)} {v : List (Key × V)} (h : Repk G B H d v) (s : Same H H') : Repk G B H' d v := h.mv fun a o e n => ⟨s a o e, n⟩
theorem Repk.fr {M : Bar} {d : List (D × D)} {v : List (Key × V)} (h : Repk G B H d v) (f : Lc.Fr M H H') (m : ∀ a, M a → B a) : Repk G B H' d v := h.mv fun a o e n => ⟨f.at e fun z => n (m a z), n⟩
theorem Repo.same {d : List (D × D)} {v : List (Str × V)} (h : Repo G B H d v) (s : Same H H') : Repo G B H' d v := h.mv fun a o e n => ⟨s a o e, n⟩
theorem Repo.fr {M : Bar} {d : List (D × D)} {v : List (Str × V)} (h : Repo G B H d v) (f : Lc.Fr M H H') (m : ∀ a, M a → B a) : Repo G B H' d v := h.mv fun a o e n => ⟨f.at e fun z => n (m a z), n⟩
theorem Repo.sub {d : List (D × D)} {v : List (Str × V)} (h : Repo G B H d v) (k : ∀ a, B' a → H a ≠ none → B a) : Repo G B' H d v := h.mv fun a o e n => ⟨e, fun z => n (k a z (by rw [e]; simp))⟩
theorem Repk.sub {d : List (D × D)} {v : List (Key × V)} (h : Repk G B H d v) (k : ∀ a, B' a → H a ≠ none → B a) : Repk G B' H d v := h.mv fun a o e n => ⟨e, fun z => n (k a z (by rw [e]; simp))⟩
theorem Rep.sub {d : D} {v : V} (h : Rep G B H d v) (k : ∀ a, B' a → H a ≠ none → B a) : Rep G B' H d v := h.mv fun a o e n => ⟨e, fun z => n (k a z (by rw [e]; simp))⟩
theorem Reps.sub {d : List D} {v : List V} (h : Reps G B H d v) (k : ∀ a, B' a → H a ≠ none → B a) : Reps G B' H d v := h.mv fun a o e n => ⟨e, fun z => n (k a z (by rw [e]; simp))⟩
theorem Reps.len : ∀ {ds : List D} {vs : List V}, Reps G B H ds vs → vs.length = ds.length
  | [], _, h => by simp only [Reps] at h; subst h; rfl
  | d :: ds, vs, h => by
    simp only [Reps] at h
    obtain ⟨v, r, rfl, _, h2⟩ := h
    simp [Reps.len h2]
theorem Reps.nil : Reps G B H [] [] := by simp only [Reps]
theorem Reps.cons {d : D} {ds : List D} {v : V} {vs : List V} (h : Rep G B H d v) (t : Reps G B H ds vs) : Reps G B H (d :: ds) (v :: vs) := by
  simp only [Reps]
  exact ⟨v, vs, rfl, h, t⟩
theorem Reps.get : ∀ {ds : List D} {vs : List V} {i : Nat} {d : D}, Reps G B H ds vs → ds[i]? = some d → ∃ v, vs[i]? = some v ∧ Rep G B H d v
  | [], _, _, _, _, e => by simp at e
  | d :: ds, vs, i, x, h, e => by
    simp only [Reps] at h
    obtain ⟨v, r, rfl, h1, h2⟩ := h
    cases i with
    | zero =>
      simp at e
      subst e
      exact ⟨v, rfl, h1⟩
    | succ i => exact Reps.get (i := i) h2 (by simpa using e)
theorem Reps.append : ∀ {ds es : List D} {vs us : List V}, Reps G B H ds vs → Reps G B H es us → Reps G B H (ds ++ es) (vs ++ us)
  | [], _, _, _, h, t => by simp only [Reps] at h; subst h; exact t
  | d :: ds, es, vs, us, h, t => by
    simp only [Reps] at h
    obtain ⟨v, r, rfl, h1, h2⟩ := h
    exact Reps.cons h1 (Reps.append h2 t)
theorem Reps.take : ∀ {ds : List D} {vs : List V} (n : Nat), Reps G B H ds vs → Reps G B H (ds.take n) (vs.take n)
  | _, _, 0, _ => by simp [Reps]
  | [], _, n + 1, h => by simp only [Reps] at h; subst h; simp [Reps]
  | d :: ds, vs, n + 1, h => by
    simp only [Reps] at h
    obtain ⟨v, r, rfl, h1, h2⟩ := h
    exact Reps.cons h1 (Reps.take n h2)
theorem Reps.drop : ∀ {ds : List D} {vs : List V} (n : Nat), Reps G B H ds vs → Reps G B H (ds.drop n) (vs.drop n)
  | _, _, 0, h => h
  | [], _, n + 1, h => by simp only [Reps] at h; subst h; simp [Reps]
  | d :: ds, vs, n + 1, h => by
    simp only [Reps] at h
    obtain ⟨v, r, rfl, h1, h2⟩ := h
    exact Reps.drop n h2
theorem Reps.ints : ∀ {ns : List Int} {vs : List V}, Reps G B H (ns.map PyData.int) vs → vs = ns.map V.int
  | [], _, h => by simpa only [Reps, List.map_nil] using h
  | n :: ns, vs, h => by
    simp only [Reps, Rep, List.map_cons] at h
    obtain ⟨v, r, rfl, rfl, h2⟩ := h
    rw [Reps.ints h2]
    rfl
theorem reps_strs : ∀ {ns : List Str}, Reps G B H (ns.map PyData.str) (ns.map V.str)
  | [] => Reps.nil
  | n :: ns => Reps.cons (by simp only [Rep]) reps_strs
/-- a tuple is to be read -/
theorem Rep.sqT {ds : List D} {v : V} (h : Rep G B H (.tuple ds) v) : ∃ a vs, v = .ref a ∧ SqT G.K H a vs ∧ Reps G B H ds vs := by
  simp only [Rep] at h
  obtain ⟨a, vs, e, h1, h3⟩ := h
  refine ⟨a, vs, e, ?_, h3⟩
  rcases h1 with ⟨h1, _⟩ | h1
  · exact h1.sq
  · exact h1.sq
theorem Rep.sqL {ds : List D} {v : V} (h : Rep G B H (.list ds) v) : ∃ a vs, v = .ref a ∧ H a = some (.lst vs) ∧ SqL G.K H a vs ∧ Reps G B H ds vs := by
  simp only [Rep] at h
  obtain ⟨a, vs, e, h1, h2, h3⟩ := h
  exact ⟨a, vs, e, h1, .inl (.inl h1), h3⟩
mutual
theorem Rep.dp : ∀ (d : D) (v : V), PyData.canLay0 d = true → Rep G B H d v → Dp G.K H v d
  | .none, _, _, h => by simp only [Rep] at h; subst h; exact .non
  | .bool _, _, _, h => by simp only [Rep] at h; subst h; exact .bl _
  | .int _, _, _, h => by simp only [Rep] at h; subst h; exact .int _
  | .str _, _, _, h => by simp only [Rep] at h; subst h; exact .str _
  | .list ds, v, c, h => by
    obtain ⟨a, vs, rfl, _, h1, h2⟩ := h.sqL
    exact .lst h1 (Reps.dp ds vs (by simpa [PyData.canLay0] using c) h2)
  | .tuple ds, v, c, h => by
    obtain ⟨a, vs, rfl, h1, h2⟩ := h.sqT
    exact .tup h1 (Reps.dp ds vs (by simpa [PyData.canLay0] using c) h2)
  | .dict _, _, c, _ => by simp [PyData.canLay0] at c
theorem Reps.dp : ∀ (ds : List D) (vs : List V), PyData.canLayAll0 ds = true → Reps G B H ds vs → DpAll G.K H vs ds
  | [], vs, _, h => by simp only [Reps] at h; subst h; exact .nil
  | d :: ds, vs, c, h => by
    simp only [Reps] at h
    obtain ⟨v, r, rfl, h1, h2⟩ := h
    have c' : d.canLay0 = true ∧ PyData.canLayAll0 ds = true := by simpa [PyData.canLayAll0] using c
    exact .cons (Rep.dp d v c'.1 h1) (Reps.dp ds r c'.2 h2)
end
end
/-- an own thing at P: a list or a dict -/
def OwnAt (G : Kx) (B : Bar) (H : Hp) (P : Addr) : D → Prop
  | .list ds => ∃ vs, H P = some (.lst vs) ∧ Reps G B H ds vs
  | .dict kvs => isHn kvs = false ∧ ∃ kv, H P = some (.dK kv) ∧ Repk G B H kvs kv
  | _ => False
/-- what stands where something of one's own is -/
def LoD (H : Hp) (a : Addr) : Prop := (∃ vs, H a = some (.lst vs)) ∨ (∃ kv, H a = some (.dK kv)) ∨ ∃ C dx fv, H a = some (.ins C dx fv)
theorem LoD.ne {H : Hp} {a : Addr} (h : LoD H a) : H a ≠ none := by
  rcases h with ⟨vs, h⟩ | ⟨kv, h⟩ | ⟨C, dx, fv, h⟩ <;> rw [h] <;> simp
theorem LoD.k {H H' : Hp} {a : Addr} (h : LoD H a) (k : ∀ o, H a = some o → H' a = some o) : LoD H' a := h.imp (fun ⟨vs, h⟩ => ⟨vs, k _ h⟩) fun h => h.imp (fun ⟨kv, h⟩ => ⟨kv, k _ h⟩) fun ⟨C, dx, fv, h⟩ => ⟨C, dx, fv, k _ h⟩
theorem OwnAt.mv {G : Kx} {B B' : Bar} {H H' : Hp} {P : Addr} {d : D} (h : OwnAt G B H P d) (k : ∀ a o, H a = some o → ¬ B a → H' a = some o ∧ ¬ B' a) (hp : ∀ o, H P = some o → H' P = some o) : OwnAt G B' H' P d := by
  cases d with
  | list ds =>
    obtain ⟨vs, h1, h2⟩ := h
    exact ⟨vs, hp _ h1, h2.mv k⟩
  | dict kvs =>
    obtain ⟨h0, kv, h1, h2⟩ := h
    exact ⟨h0, kv, hp _ h1, h2.mv k⟩
  | _ => exact h.elim
theorem OwnAt.ne {G : Kx} {B : Bar} {H : Hp} {P : Addr} : ∀ {d : D}, OwnAt G B H P d → H P ≠ none
  | .list ds, ⟨vs, h1, h2⟩ => by rw [h1]; simp
  | .dict kvs, ⟨h0, kv, h1, h2⟩ => by rw [h1]; simp
  | .none, h => h.elim
  | .bool _, h => h.elim
  | .int _, h => h.elim
  | .str _, h => h.elim
  | .tuple _, h => h.elim
/-- read as plain data -/
theorem OwnAt.rep {G : Kx} {B : Bar} {H : Hp} {P : Addr} (n : ¬ B P) : ∀ {d : D}, OwnAt G B H P d → Rep G B H d (.ref P)
  | .list ds, ⟨vs, h1, h2⟩ => by simp only [Rep]; exact ⟨P, vs, rfl, h1, n, h2⟩
  | .dict kvs, ⟨h0, kv, h1, h2⟩ => by simp only [Rep]; exact ⟨P, rfl, .inr (.inl ⟨h0, kv, h1, n, h2⟩)⟩
  | .none, h => h.elim
  | .bool _, h => h.elim
  | .int _, h => h.elim
  | .str _, h => h.elim
  | .tuple _, h => h.elim
/-! ### what is shared, and the slots -/
structure Zk (S : Type) where
  M : Bar
  R : Hp → S → Prop
  dom : ∀ H s a, R H s → M a → H a ≠ none
  loc : ∀ H H' s, R H s → (∀ a, M a → H' a = H a) → R H' s
theorem Zk.same {S : Type} (Z : Zk S) {H H' : Hp} {s : S} (r : Z.R H s) (e : Same H H') : Z.R H' s := Z.loc H H' s r fun a m => by
  cases q : H a with
  | none => exact absurd q (Z.dom H s a r m)
  | some o => exact e a o q
abbrev Rho := List (Option D)
abbrev Ev (S : Type) := Rho → S → Option (D × S)
abbrev Ea (S : Type) := Rho → S → Option (List D × S)
structure Er (G : Kx) (W : List Nat) (B O : Bar) (H : Hp) (σ : L2.St) (ρ : Rho) : Prop where
  len : σ.length = ρ.length
  pl : ∀ i d, i ∉ W → ρ[i]? = some (some d) → ∃ v, σ[i]? = some (some v) ∧ Rep G (fun a => B a ∨ O a) H d v
  ow : ∃ om : Nat → Addr, (∀ i j d e, i ∈ W → j ∈ W → ρ[i]? = some (some d) → ρ[j]? = some (some e) → om i = om j → i = j) ∧
    ∀ i d, i ∈ W → ρ[i]? = some (some d) → σ[i]? = some (some (.ref (om i))) ∧ O (om i) ∧ OwnAt G (fun a => B a ∨ O a) H (om i) d
structure Eo {S : Type} (G : Kx) (Z : Zk S) (W : List Nat) (B O : Bar) (H : Hp) (σ : L2.St) (ρ : Rho) : Prop where
  er : Er G W B O H σ ρ
  bd : ∀ a, B a → H a ≠ none
  ol : ∀ a, O a → LoD H a
  mb : ∀ a, Z.M a → B a
  ob : ∀ a, O a → ¬ B a
section
variable {S : Type} {G : Kx} {Z : Zk S} {W : List Nat} {B O : Bar} {H H' : Hp} {σ : L2.St} {ρ : Rho}
theorem some_of_ne {α : Type} {o : Option α} (h : o ≠ none) : ∃ x, o = some x := by
  cases o with
  | none => exact absurd rfl h
  | some x => exact ⟨x, rfl⟩
theorem ne_fr {M : Bar} {a : Addr} (f : Lc.Fr M H H') (h : H a ≠ none) : H' a ≠ none := by
  obtain ⟨o, e⟩ := some_of_ne h
  obtain ⟨o', e', _⟩ := f a o e
  rw [e']
  simp
theorem Er.fr {M : Bar} (e : Er G W B O H σ ρ) (f : Lc.Fr M H H') (m : ∀ a, M a → B a) (ob : ∀ a, O a → ¬ B a) : Er G W B O H' σ ρ where
  len := e.len
  pl := fun i d hi hd => by
    obtain ⟨v, h1, h2⟩ := e.pl i d hi hd
    exact ⟨v, h1, h2.fr f fun a z => .inl (m a z)⟩
  ow := by
    obtain ⟨om, h1, h2⟩ := e.ow
    refine ⟨om, h1, fun i d hi hd => ?_⟩
    obtain ⟨a2, a3, a5⟩ := h2 i d hi hd
    exact ⟨a2, a3, a5.mv (fun a o e n => ⟨f.at e fun z => n (.inl (m a z)), n⟩) fun o e => f.at e fun z => ob _ a3 (m _ z)⟩
theorem Eo.od (e : Eo G Z W B O H σ ρ) : ∀ a, O a → H a ≠ none := fun a h => (e.ol a h).ne
theorem Eo.fr (e : Eo G Z W B O H σ ρ) (f : Lc.Fr Z.M H H') : Eo G Z W B O H' σ ρ where
  er := e.er.fr f e.mb e.ob
  bd := fun a h => ne_fr f (e.bd a h)
  ol := fun a h => (e.ol a h).k fun o h2 => f.at h2 fun z => e.ob a h (e.mb a z)
  mb := e.mb
  ob := e.ob
theorem Eo.new (e : Eo G Z W B O H σ ρ) {p : Addr} (h : H p = none) : ¬ (B p ∨ O p) := fun z => z.elim (fun z => e.bd p z h) fun z => e.od p z h
end
/-! ### readings of expressions by functions on data -/
def tEx {S : Type} (G : Kx) (Z : Zk S) (W : List Nat) (f : Ev S) : TE := fun σ H Q =>
  ∃ (B O : Bar) (ρ : Rho) (s : S) (d : D) (s' : S), Eo G Z W B O H σ ρ ∧ Z.R H s ∧ f ρ s = some (d, s') ∧
    ∀ v H', Lc.Fr Z.M H H' → Rep G (fun a => B a ∨ O a) H' d v → Z.R H' s' → Q v H'
def tEa {S : Type} (G : Kx) (Z : Zk S) (W : List Nat) (f : Ea S) : TA := fun σ H Q =>
  ∃ (B O : Bar) (ρ : Rho) (s : S) (d : List D) (s' : S), Eo G Z W B O H σ ρ ∧ Z.R H s ∧ f ρ s = some (d, s') ∧
    ∀ v H', Lc.Fr Z.M H H' → Reps G (fun a => B a ∨ O a) H' d v → Z.R H' s' → Q v H'
def tEt {S : Type} (G : Kx) (Z : Zk S) (W : List Nat) (f : Rho → S → Option (Bool × S)) : TT := fun σ H Q =>
  ∃ (B O : Bar) (ρ : Rho) (s : S) (d : Bool) (s' : S), Eo G Z W B O H σ ρ ∧ Z.R H s ∧ f ρ s = some (d, s') ∧
    ∀ H', Lc.Fr Z.M H H' → Z.R H' s' → Q d H'
theorem imp_pe {X : Cx} {e : Expr} {t t' : TE} (h : PE X e t) (m : ∀ σ H Q, t' σ H Q → t σ H Q) : PE X e t' := ⟨fun pins s σ H Q I q => h.run pins s σ H Q I (m σ H Q q)⟩
theorem imp_pa {X : Cx} {e : List Expr} {t t' : TA} (h : PA X e t) (m : ∀ σ H Q, t' σ H Q → t σ H Q) : PA X e t' := ⟨fun pos pins s σ H Q I q => h.run pos pins s σ H Q I (m σ H Q q)⟩
theorem imp_pt {X : Cx} {e : Expr} {t t' : TT} (h : PT X e t) (m : ∀ σ H Q, t' σ H Q → t σ H Q) : PT X e t' := ⟨fun pins s σ H Q I q => h.run pins s σ H Q I (m σ H Q q)⟩
theorem imp_pw {X : Cx} {e : Expr} {t t' : TT} (h : PW X e t) (m : ∀ σ H Q, t' σ H Q → t σ H Q) : PW X e t' := ⟨fun wh pins s σ H Q I q => h.run wh pins s σ H Q I (m σ H Q q)⟩
theorem imp_ps {X : Cx} {e : Stmt} {t t' : TS} (h : PS X e t) (m : ∀ D σ H, t' D σ H → t D σ H) : PS X e t' := ⟨fun pins s σ H D I q => h.run pins s σ H D I (m D σ H q)⟩
theorem imp_pss {X : Cx} {e : List Stmt} {t t' : TS} (h : PSs X e t) (m : ∀ D σ H, t' D σ H → t D σ H) : PSs X e t' := ⟨fun pins s σ H D I q => h.run pins s σ H D I (m D σ H q)⟩
end Dl
set_option Elab.async false
set_option linter.all false
set_option maxRecDepth 100000
set_option maxHeartbeats 4000000
namespace Dl
open PySem PySem.Spec PyProof.Rows L2
def bnd {S α β : Type} (f : Option (α × S)) (k : α → S → Option (β × S)) : Option (β × S) := match f with
  | none => none
  | some (a, s) => k a s
theorem bnd_some {S α β : Type} {f : Option (α × S)} {k : α → S → Option (β × S)} {r : β × S} (h : bnd f k = some r) : ∃ a s, f = some (a, s) ∧ k a s = some r := by
  unfold bnd at h
  split at h
  · cases h
  · exact ⟨_, _, rfl, h⟩
@[simp] theorem bnd_of {S α β : Type} {a : α} {s : S} {k : α → S → Option (β × S)} : bnd (some (a, s)) k = k a s := rfl
@[simp] theorem bnd_no {S α β : Type} {k : α → S → Option (β × S)} : bnd (none : Option (α × S)) k = none := rfl
/-- a value without a change of what is shared -/
def put {S α : Type} (o : Option α) (s : S) : Option (α × S) := match o with
  | none => none
  | some a => some (a, s)
@[simp] theorem put_of {S α : Type} {a : α} {s : S} : put (some a) s = some (a, s) := rfl
@[simp] theorem put_no {S α : Type} {s : S} : put (none : Option α) s = none := rfl
theorem put_some {S α : Type} {o : Option α} {s s' : S} {a : α} (h : put o s = some (a, s')) : o = some a ∧ s' = s := by
  unfold put at h
  split at h
  · cases h
  · cases h
    exact ⟨rfl, rfl⟩
section
variable {S : Type}
def cVar (i : Nat) : Ev S := fun ρ s => match ρ[i]? with
  | some (some d) => some (d, s)
  | _ => none
def cK (d : D) : Ev S := fun _ s => some (d, s)
def cB (p : D → D → Option D) (f g : Ev S) : Ev S := fun ρ s => bnd (f ρ s) fun x s => bnd (g ρ s) fun y s => put (p x y) s
def cU (p : D → Option D) (f : Ev S) : Ev S := fun ρ s => bnd (f ρ s) fun x s => put (p x) s
def aNil : Ea S := fun _ s => some ([], s)
def aCons (f : Ev S) (g : Ea S) : Ea S := fun ρ s => bnd (f ρ s) fun x s => bnd (g ρ s) fun xs s => some (x :: xs, s)
def cN (p : List D → Option D) (f : Ea S) : Ev S := fun ρ s => bnd (f ρ s) fun xs s => put (p xs) s
def pTup (ds : List D) : Option D := if ds.length ≤ sizeLine then some (.tuple ds) else none
def pLst (ds : List D) : Option D := if ds.length ≤ sizeLine then some (.list ds) else none
abbrev Fn (S : Type) := List D → S → Option (D × S)
def cCall (n : Nat) (F : Fn S) (f : Ea S) : Ev S := fun ρ s => bnd (f ρ s) fun xs s => if xs.length = n then F xs s else none
end
def truth : D → Option Bool
  | .none => some false
  | .bool b => some b
  | .int i => some (i != 0)
  | .str x => if x.length ≤ sizeLine then some ((x.length : Int) != 0) else none
  | .list ds => some (!ds.isEmpty)
  | .tuple ds => some (!ds.isEmpty)
  | .dict _ => none
section
variable {S : Type}
abbrev Et (S : Type) := Rho → S → Option (Bool × S)
def qT (f : Ev S) : Et S := fun ρ s => bnd (f ρ s) fun x s => put (truth x) s
def qNot (f : Et S) : Et S := fun ρ s => bnd (f ρ s) fun b s => some (!b, s)
def qAnd (f g : Et S) : Et S := fun ρ s => bnd (f ρ s) fun b s => if b = true then g ρ s else some (false, s)
def qOr (f g : Et S) : Et S := fun ρ s => bnd (f ρ s) fun b s => if b = true then some (true, s) else g ρ s
def cAnd (f g : Ev S) : Ev S := fun ρ s => bnd (f ρ s) fun x s => bnd (put (truth x) s) fun b s => if b = true then g ρ s else some (x, s)
def cOr (f g : Ev S) : Ev S := fun ρ s => bnd (f ρ s) fun x s => bnd (put (truth x) s) fun b s => if b = true then some (x, s) else g ρ s
def cNot (f : Ev S) : Ev S := fun ρ s => bnd (f ρ s) fun x s => bnd (put (truth x) s) fun b s => some (.bool (!b), s)
def cIf (c : Et S) (f g : Ev S) : Ev S := fun ρ s => bnd (c ρ s) fun b s => if b = true then f ρ s else g ρ s
def asB : D → Option Bool
  | .bool b => some b
  | _ => none
/-- a < b < c -/
def cCh (p q : D → D → Option D) (f g h : Ev S) : Ev S := fun ρ s => bnd (f ρ s) fun x s => bnd (g ρ s) fun y s => bnd (put (p x y) s) fun z s => bnd (put (asB z) s) fun b s =>
  if b = true then bnd (h ρ s) fun w s => put (q y w) s else some (.bool false, s)
end
/-! ### the rules -/
section
variable {S : Type} {X : Cx} {G : Kx} {Z : Zk S} {W : List Nat} {f g : Ev S} {fa : Ea S} {a b c e : Expr} {es : List Expr} {pos p : Pos} {x : Str}
theorem ex_var (i : Nat) (hw : W.contains i = false := by rfl) (hN : X.N[i]? = some x := by rfl) (hv : Vis X.env.scope x := by first | exact Or.inl rfl | exact Or.inr (Or.inl rfl) | exact Or.inr (Or.inr rfl)) (hd : (x == ("__debug__" : Str)) = false := by decide)
    (hcd : (x == ("__classdict__" : Str)) = false := by decide) : PE X (.Name x pos) (tEx G Z W (cVar i)) :=
  imp_pe (pe_var hN hv hd hcd) fun σ H Q ⟨B, O, ρ, s, d, s', eo, hR, hf, q⟩ => by
    unfold cVar at hf
    split at hf
    · rename_i e
      cases hf
      obtain ⟨v, h1, h2⟩ := eo.er.pl i d (by simpa using hw) e
      exact ⟨v, h1, q v H (Lc.Fr.refl H) h2 hR⟩
    · cases hf
theorem ex_of {v : V} {d : D} (h : PE X e (tC v)) (r : ∀ B H, Rep G B H d v) : PE X e (tEx G Z W (cK d)) :=
  imp_pe h fun σ H Q ⟨B, O, ρ, s, d', s', eo, hR, hf, q⟩ => by
    cases hf
    exact q v H (Lc.Fr.refl H) (r _ H) hR
theorem ex_int {i : Int} {j} : PE X (.Constant (.int i) j pos) (tEx G Z W (cK (.int i))) := ex_of pe_int fun B H => by simp only [Rep]
theorem ex_str {i : Str} {j} : PE X (.Constant (.str i) j pos) (tEx G Z W (cK (.str i))) := ex_of pe_str fun B H => by simp only [Rep]
theorem ex_bl {i : Bool} {j} : PE X (.Constant (.bool i) j pos) (tEx G Z W (cK (.bool i))) := ex_of pe_bl fun B H => by simp only [Rep]
/-- an operation on values, by one on data -/
def OpS (G : Kx) (r : R2) (p : D → D → Option D) : Prop := ∀ (B : Bar) (H : Hp) (x y : V) (dx dy d : D) (Q : VK), (∀ a, B a → H a ≠ none) → Rep G B H dx x → Rep G B H dy y → p dx dy = some d →
  (∀ v H', Same H H' → Rep G B H' d v → Q v H') → r x y H Q
theorem top_ex {r : R2} {p : D → D → Option D} (hs : OpS G r p) {σ : L2.St} {H : Hp} {Q : VK} (h : tEx G Z W (cB p f g) σ H Q) : tOp r (tEx G Z W f) (tEx G Z W g) σ H Q := by
  obtain ⟨B, O, ρ, s, d, s', eo, hR, hf, q⟩ := h
  unfold cB at hf
  obtain ⟨x, s1, h1, hf⟩ := bnd_some hf
  obtain ⟨y, s2, h2, hf⟩ := bnd_some hf
  obtain ⟨h3, rfl⟩ := put_some hf
  refine ⟨B, O, ρ, s, x, s1, eo, hR, h1, fun v H1 f1 r1 R1 => ⟨B, O, ρ, s1, y, _, eo.fr f1, R1, h2, fun u H2 f2 r2 R2 => ?_⟩⟩
  have e2 := (eo.fr f1).fr f2
  refine hs _ H2 v u x y d Q (fun a z => z.elim (e2.bd a) (e2.od a)) (r1.fr f2 fun a z => .inl (eo.mb a z)) r2 h3 fun w H3 sm r3 => ?_
  exact q w H3 ((f1.trans f2).trans (Lc.Fr.of sm)) r3 (Z.same R2 sm)
theorem ex_bin {op : Operator} {r : R2} {q : D → D → Option D} (ho : OpR X (binaryOp op) r) (hs : OpS G r q) (ha : PE X a (tEx G Z W f)) (hb : PE X b (tEx G Z W g)) : PE X (.BinOp a op b pos) (tEx G Z W (cB q f g)) :=
  imp_pe (pe_op ho ha hb) fun σ H Q h => top_ex hs h
theorem ex_cmp {op : CmpOp} {r : R2} {q : D → D → Option D} (ho : OpR X (compareOp op) r) (hs : OpS G r q) (ha : PE X a (tEx G Z W f)) (hb : PE X b (tEx G Z W g)) (hm : behindInMarks op b = false) : PE X (.Compare a [op] [b] pos) (tEx G Z W (cB q f g)) :=
  imp_pe (pe_cmpR ho ha hb hm) fun σ H Q h => top_ex hs h
theorem ex_ix {r : R2} {q : D → D → Option D} (ho : IxR X r) (hs : OpS G r q) (ha : PE X a (tEx G Z W f)) (hb : PE X b (tEx G Z W g)) (hp : PlainIx b) : PE X (.Subscript a b pos) (tEx G Z W (cB q f g)) :=
  imp_pe (pe_ix ho ha hb hp) fun σ H Q h => top_ex hs h
def UnS (G : Kx) (r : V → Hp → VK → Prop) (p : D → Option D) : Prop := ∀ (B : Bar) (H : Hp) (x : V) (dx d : D) (Q : VK), (∀ a, B a → H a ≠ none) → Rep G B H dx x → p dx = some d →
  (∀ v H', Same H H' → Rep G B H' d v → Q v H') → r x H Q
theorem tun_ex {r : V → Hp → VK → Prop} {p : D → Option D} (hs : UnS G r p) {σ : L2.St} {H : Hp} {Q : VK} (h : tEx G Z W (cU p f) σ H Q) : tUn r (tEx G Z W f) σ H Q := by
  obtain ⟨B, O, ρ, s, d, s', eo, hR, hf, q⟩ := h
  unfold cU at hf
  obtain ⟨x, s1, h1, hf⟩ := bnd_some hf
  obtain ⟨h3, rfl⟩ := put_some hf
  refine ⟨B, O, ρ, s, x, _, eo, hR, h1, fun v H1 f1 r1 R1 => ?_⟩
  have e2 := eo.fr f1
  refine hs _ H1 v x d Q (fun a z => z.elim (e2.bd a) (e2.od a)) r1 h3 fun w H3 sm r3 => ?_
  exact q w H3 (f1.trans (Lc.Fr.of sm)) r3 (Z.same R1 sm)
theorem ex_un {op : UnaryOp} {r : V → Hp → VK → Prop} {q : D → Option D} (ho : UnR X (unaryOp op) r) (hs : UnS G r q) (ha : PE X a (tEx G Z W f)) : PE X (.UnaryOp op a pos) (tEx G Z W (cU q f)) :=
  imp_pe (pe_un ho ha) fun σ H Q h => tun_ex hs h
/-! arguments -/
theorem ea_nil : PA X [] (tEa G Z W aNil) := imp_pa pa_nil fun σ H Q ⟨B, O, ρ, s, d, s', eo, hR, hf, q⟩ => by
  cases hf
  exact q [] H (Lc.Fr.refl H) Reps.nil hR
theorem ea_cons (ha : PE X e (tEx G Z W f)) (hr : PA X es (tEa G Z W fa)) (hs : starEach (e :: es) X.env = (false, eval e X.env) :: starEach es X.env := by rfl) : PA X (e :: es) (tEa G Z W (aCons f fa)) :=
  imp_pa (pa_cons ha hr hs) fun σ H Q ⟨B, O, ρ, s, d, s', eo, hR, hf, q⟩ => by
    unfold aCons at hf
    obtain ⟨x, s1, h1, hf⟩ := bnd_some hf
    obtain ⟨y, s2, h2, hf⟩ := bnd_some hf
    cases hf
    refine ⟨B, O, ρ, s, x, s1, eo, hR, h1, fun v H1 f1 r1 R1 => ⟨B, O, ρ, s1, y, _, eo.fr f1, R1, h2, fun u H2 f2 r2 R2 => ?_⟩⟩
    exact q _ H2 (f1.trans f2) (Reps.cons (r1.fr f2 fun a z => .inl (eo.mb a z)) r2) R2
theorem ttup_ex {σ : L2.St} {H : Hp} {Q : VK} (h : tEx G Z W (cN pTup fa) σ H Q) : tTupF (tEa G Z W fa) σ H Q := by
  obtain ⟨B, O, ρ, s, d, s', eo, hR, hf, q⟩ := h
  unfold cN at hf
  obtain ⟨x, s1, h1, hf⟩ := bnd_some hf
  obtain ⟨h3, rfl⟩ := put_some hf
  unfold pTup at h3
  split at h3
  · cases h3
    refine ⟨B, O, ρ, s, x, _, eo, hR, h1, fun v H1 f1 r1 R1 => ⟨by rw [r1.len]; assumption, fun p o hp ho => ?_⟩⟩
    have e2 := eo.fr f1
    refine q _ _ (f1.trans (Lc.Fr.new hp)) ?_ (Z.same R1 (Lc.same_new hp))
    simp only [Rep]
    exact ⟨p, v, rfl, .inl ⟨.inr ⟨o, upd_same, ho⟩, e2.new hp⟩, r1.same (Lc.same_new hp)⟩
  · cases h3
theorem ex_tup {x1} (h : PA X es (tEa G Z W fa)) : PE X (.Tuple es x1 pos) (tEx G Z W (cN pTup fa)) := imp_pe (pe_tupF h) fun σ H Q h => ttup_ex h
theorem tlst_ex {σ : L2.St} {H : Hp} {Q : VK} (h : tEx G Z W (cN pLst fa) σ H Q) : tLst (tEa G Z W fa) σ H Q := by
  obtain ⟨B, O, ρ, s, d, s', eo, hR, hf, q⟩ := h
  unfold cN at hf
  obtain ⟨x, s1, h1, hf⟩ := bnd_some hf
  obtain ⟨h3, rfl⟩ := put_some hf
  unfold pLst at h3
  split at h3
  · cases h3
    refine ⟨B, O, ρ, s, x, _, eo, hR, h1, fun v H1 f1 r1 R1 => ⟨by rw [r1.len]; assumption, fun p hp => ?_⟩⟩
    have e2 := eo.fr f1
    refine q _ _ (f1.trans (Lc.Fr.new hp)) ?_ (Z.same R1 (Lc.same_new hp))
    simp only [Rep]
    exact ⟨p, v, rfl, upd_same, e2.new hp, r1.same (Lc.same_new hp)⟩
  · cases h3
theorem ex_lst (h : PA X es (tEa G Z W fa)) : PE X (.List es pos) (tEx G Z W (cN pLst fa)) := imp_pe (pe_lst h) fun σ H Q h => tlst_ex h
/-! a def by a function on data -/
def spD (G : Kx) (Z : Zk S) (n : Nat) (F : Fn S) : Sp := fun vs H Q _ => ∃ (B : Bar) (ds : List D) (s : S) (d : D) (s' : S), ds.length = n ∧ (∀ a, B a → H a ≠ none) ∧ (∀ a, Z.M a → B a) ∧ Reps G B H ds vs ∧ Z.R H s ∧ F ds s = some (d, s') ∧
  ∀ v H', Lc.Fr Z.M H H' → Rep G B H' d v → Z.R H' s' → Q v H'
theorem tcall_ex {n : Nat} {F : Fn S} {σ : L2.St} {H : Hp} {Q : VK} (h : tEx G Z W (cCall n F fa) σ H Q) : tCall (spD G Z n F) [] E0 (tEa G Z W fa) σ H Q := by
  obtain ⟨B, O, ρ, s, d, s', eo, hR, hf, q⟩ := h
  unfold cCall at hf
  obtain ⟨x, s1, h1, hf⟩ := bnd_some hf
  split at hf
  · refine ⟨B, O, ρ, s, x, s1, eo, hR, h1, fun v H1 f1 r1 R1 => ?_⟩
    have e2 := eo.fr f1
    show spD G Z n F (v ++ []) H1 Q E0
    rw [List.append_nil]
    exact ⟨_, x, s1, d, s', by assumption, fun a z => z.elim (e2.bd a) (e2.od a), fun a z => .inl (eo.mb a z), r1, R1, hf, fun w H2 f2 r2 R2 => q w H2 (f1.trans f2) r2 R2⟩
  · cases hf
theorem ex_call {ps : List Str} {k n : Nat} {F : Fn S} (C : Lc.Dn X.prog X.w X.K X.mg X.base x ps k (spD G Z n F)) (hr : Room k X.A) (hg : Gl X x) (ha : PA X (e :: es) (tEa G Z W fa)) (hdb : (x == ("__debug__" : Str)) = false := by decide)
    (he : starEach (e :: es) X.env = (false, eval e X.env) :: starEach es X.env := by rfl) (hpl : (backTo pos (starEach es X.env)).any (·.1) = false := by rfl) : PE X (.Call (.Name x p) (e :: es) [] pos) (tEx G Z W (cCall n F fa)) :=
  imp_pe (Lc.pe_dn C hr hg ha hdb he hpl) fun σ H Q h => tcall_ex h
/-! tests -/
theorem tru_of {B : Bar} {H : Hp} : ∀ {d : D} {v : V} {k : Bool}, Rep G B H d v → truth d = some k → TruV G.K v H k
  | .none, v, k, h, e => by simp only [Rep] at h; subst h; cases e; rfl
  | .bool b, v, k, h, e => by simp only [Rep] at h; subst h; cases e; rfl
  | .int i, v, k, h, e => by simp only [Rep] at h; subst h; cases e; rfl
  | .str x, v, k, h, e => by
    simp only [Rep] at h
    subst h
    have e : (if x.length ≤ sizeLine then some ((x.length : Int) != 0) else none) = some k := e
    split at e
    · cases e
      exact ⟨by assumption, rfl⟩
    · cases e
  | .list ds, v, k, h, e => by
    obtain ⟨a, vs, rfl, _, h1, h2⟩ := h.sqL
    cases e
    refine .inl ⟨vs, h1, ?_⟩
    have := h2.len
    cases ds <;> cases vs <;> simp_all
  | .tuple ds, v, k, h, e => by
    obtain ⟨a, vs, rfl, h1, h2⟩ := h.sqT
    cases e
    refine .inr (.inl ⟨vs, h1, ?_⟩)
    have := h2.len
    cases ds <;> cases vs <;> simp_all
  | .dict _, v, k, h, e => by cases e
theorem et_val (ha : PE X a (tEx G Z W f)) (he : ∀ whole, isTrue a X.env whole = (do let v ← whole; standAt a.pos; holding [v] (truthy v)) := by intro _; rfl) (hK : X.K = G.K := by rfl) : PT X a (tEt G Z W (qT f)) :=
  imp_pt (pt_truth ha he) fun σ H Q ⟨B, O, ρ, s, d, s', eo, hR, hf, q⟩ => by
    unfold qT at hf
    obtain ⟨x, s1, h1, hf⟩ := bnd_some hf
    obtain ⟨h3, rfl⟩ := put_some hf
    refine ⟨B, O, ρ, s, x, _, eo, hR, h1, fun v H1 f1 r1 R1 => ⟨d, ?_, q H1 f1 R1⟩⟩
    rw [hK]
    exact tru_of r1 h3
theorem et_cmp {op : CmpOp} {r : R2} {q : D → D → Option D} (ho : OpR X (compareOp op) r) (hs : OpS G r q) (ha : PE X a (tEx G Z W f)) (hb : PE X b (tEx G Z W g)) (hm : behindInMarks op b = false) (hq : ∀ x y z, q x y = some z → ∃ k, z = .bool k := by intro x y z h; first | exact qb h | simp_all) :
    PT X (.Compare a [op] [b] pos) (tEt G Z W (qT (cB q f g))) :=
  imp_pt (pt_cmpR ho ha hb hm) fun σ H Q ⟨B, O, ρ, s, d, s', eo, hR, hf, h⟩ => by
    unfold qT at hf
    obtain ⟨x, s1, h1, hf⟩ := bnd_some hf
    obtain ⟨h3, rfl⟩ := put_some hf
    have hx : ∃ k, x = .bool k := by
      unfold cB at h1
      obtain ⟨x', s1, h1, hf⟩ := bnd_some h1
      obtain ⟨y', s2, h2, hf⟩ := bnd_some hf
      obtain ⟨h3, h4⟩ := put_some hf
      exact hq _ _ _ h3
    obtain ⟨k, rfl⟩ := hx
    cases h3
    refine top_ex hs ⟨B, O, ρ, s, .bool d, _, eo, hR, h1, fun v H1 f1 r1 R1 => ?_⟩
    simp only [Rep] at r1
    exact ⟨d, r1, h H1 f1 R1⟩
theorem et_not {t : Et S} (ha : PT X a (tEt G Z W t)) : PT X (.UnaryOp .Not a pos) (tEt G Z W (qNot t)) :=
  imp_pt (pt_not ha) fun σ H Q ⟨B, O, ρ, s, d, s', eo, hR, hf, h⟩ => by
    unfold qNot at hf
    obtain ⟨x, s1, h1, hf⟩ := bnd_some hf
    cases hf
    exact ⟨B, O, ρ, s, x, _, eo, hR, h1, fun H1 f1 R1 => h H1 f1 R1⟩
theorem ew_or {t u : Et S} {rest : List Expr} (ha : PT X a (tEt G Z W t)) (hb : PW X (.BoolOp .Or (b :: rest) pos) (tEt G Z W u)) : PW X (.BoolOp .Or (a :: b :: rest) pos) (tEt G Z W (qOr t u)) :=
  imp_pw (pw_or ha hb) fun σ H Q ⟨B, O, ρ, s, d, s', eo, hR, hf, h⟩ => by
    unfold qOr at hf
    obtain ⟨x, s1, h1, hf⟩ := bnd_some hf
    refine ⟨B, O, ρ, s, x, s1, eo, hR, h1, fun H1 f1 R1 => ?_⟩
    cases x with
    | false => exact ⟨B, O, ρ, s1, d, s', eo.fr f1, R1, hf, fun H2 f2 R2 => h H2 (f1.trans f2) R2⟩
    | true =>
      cases hf
      exact h H1 f1 R1
/-! and, or, not, if as values -/
end
end Dl
set_option Elab.async false
set_option linter.all false
set_option maxRecDepth 100000
set_option maxHeartbeats 4000000
namespace Dl
open PySem PySem.Spec PyProof.Rows L2
/-! ### flat data: no list within -/
mutual
def flatD : D → Bool
  | .none => true
  | .bool _ => true
  | .int _ => true
  | .str _ => true
  | .list _ => false
  | .tuple ds => flatDs ds
  | .dict kvs => isHd kvs
def flatDs : List D → Bool
  | [] => true
  | d :: ds => flatD d && flatDs ds
end
section
variable {G : Kx} {B O : Bar} {H : Hp}
mutual
theorem Rep.flat (ol : ∀ a, O a → LoD H a) : ∀ (d : D) (v : V), flatD d = true → Rep G B H d v → Rep G (fun a => B a ∨ O a) H d v
  | .none, _, _, h => by simpa only [Rep] using h
  | .bool _, _, _, h => by simpa only [Rep] using h
  | .int _, _, _, h => by simpa only [Rep] using h
  | .str _, _, _, h => by simpa only [Rep] using h
  | .list _, _, c, _ => by simp [flatD] at c
  | .tuple ds, v, c, h => by
    simp only [Rep] at h ⊢
    obtain ⟨a, vs, e, h1, h3⟩ := h
    refine ⟨a, vs, e, ?_, Reps.flat ol ds vs (by simpa only [flatD] using c) h3⟩
    rcases h1 with ⟨h1, h2⟩ | h1
    · refine .inl ⟨h1, fun z => z.elim h2 fun z => ?_⟩
      rcases h1 with ⟨h1, _⟩ | ⟨o, h1, _⟩ <;> rcases ol a z with ⟨us, z⟩ | ⟨us, z⟩ | ⟨_, _, _, z⟩ <;> (rw [h1] at z; cases z)
    · exact .inr h1
  | .dict _, _, c, h => by
    simp only [Rep] at h ⊢
    simp only [flatD] at c
    obtain ⟨a, e, h⟩ := h
    refine ⟨a, e, .inl (h.elim id fun h => ?_)⟩
    unfold isHd at c
    split at c
    · rcases h with ⟨h1, _⟩ | ⟨_, h1, _⟩ | ⟨_, h1, _⟩ | ⟨_, h1, _⟩ <;> cases h1
    · cases c
theorem Reps.flat (ol : ∀ a, O a → LoD H a) : ∀ (ds : List D) (vs : List V), flatDs ds = true → Reps G B H ds vs → Reps G (fun a => B a ∨ O a) H ds vs
  | [], _, _, h => by simpa only [Reps] using h
  | d :: ds, vs, c, h => by
    simp only [Reps] at h ⊢
    obtain ⟨v, r, e, h1, h2⟩ := h
    have c' : flatD d = true ∧ flatDs ds = true := by simpa [flatDs] using c
    exact ⟨v, r, e, Rep.flat ol d v c'.1 h1, Reps.flat ol ds r c'.2 h2⟩
end
end
section
variable {S : Type} {G : Kx} {Z : Zk S} {W : List Nat} {B O : Bar} {H : Hp} {σ : L2.St} {ρ : Rho}
theorem Eo.weak (e : Eo G Z W B O H σ ρ) : Eo G Z [] B (fun _ => False) H σ ρ where
  er := by
    refine ⟨e.er.len, fun i d _ hd => ?_, fun _ => 0, (fun _ _ _ _ z => by cases z), (fun _ _ z => by cases z)⟩
    by_cases hi : i ∈ W
    · obtain ⟨om, _, h2⟩ := e.er.ow
      obtain ⟨a2, a3, a5⟩ := h2 i d hi hd
      exact ⟨_, a2, OwnAt.rep (fun z => z.elim (e.ob _ a3) id) (a5.mv (fun a o h n => ⟨h, fun z => n (.inl (z.elim id False.elim))⟩) fun o h => h)⟩
    · obtain ⟨v, h1, h2⟩ := e.er.pl i d hi hd
      exact ⟨v, h1, h2.sub fun a z _ => .inl (z.elim id False.elim)⟩
  bd := e.bd
  ol := fun _ z => z.elim
  mb := e.mb
  ob := fun _ z => z.elim
end
def cFl {S : Type} (f : Ev S) : Ev S := fun ρ s => bnd (f ρ s) fun d s => if flatD d = true then some (d, s) else none
/-! ### statements -/
inductive Rs where
  | nx (ρ : Rho) | rt (d : D) | bk (ρ : Rho) | ct (ρ : Rho)
abbrev Sv (S : Type) := Rho → S → Option (Rs × S)
structure Sr {S : Type} (G : Kx) (Z : Zk S) (W : List Nat) (B : Bar) (H0 : Hp) (O : Bar) (H : Hp) (σ : L2.St) (ρ : Rho) (s : S) : Prop where
  eo : Eo G Z W B O H σ ρ
  fr : Lc.Fr Z.M H0 H
  b0 : ∀ a, B a → H0 a ≠ none
  o0 : ∀ a, O a → H0 a = none
  r : Z.R H s
/-- what a statement may have changed: what is shared, the own lists -/
structure Ch {S : Type} (Z : Zk S) (O O' : Bar) (H H' : Hp) : Prop where
  fr : Lc.Fr (fun a => Z.M a ∨ O a) H H'
  up : ∀ a, O a → O' a
  nw : ∀ a, O' a → O a ∨ H a = none
section
variable {S : Type} {G : Kx} {Z : Zk S} {W : List Nat} {B O O1 O2 : Bar} {H H1 H2 H0 : Hp} {σ σ1 : L2.St} {ρ ρ1 : Rho} {s s1 : S}
theorem Ch.refl : Ch Z O O H H := ⟨Lc.Fr.refl H, fun _ h => h, fun _ h => .inl h⟩
theorem Ch.of (f : Lc.Fr Z.M H H1) : Ch Z O O H H1 := ⟨fun b o e => by
  obtain ⟨o', h1, h2⟩ := f b o e
  exact ⟨o', h1, fun n => h2 fun z => n (.inl z)⟩, fun _ h => h, fun _ h => .inl h⟩
theorem Ch.trans (a : Ch Z O O1 H H1) (b : Ch Z O1 O2 H1 H2) : Ch Z O O2 H H2 where
  fr := fun c o e => by
    obtain ⟨o1, e1, k1⟩ := a.fr c o e
    obtain ⟨o2, e2, k2⟩ := b.fr c o1 e1
    refine ⟨o2, e2, fun n => (k2 fun z => ?_).trans (k1 n)⟩
    rcases z with z | z
    · exact n (.inl z)
    · rcases a.nw c z with z | z
      · exact n (.inr z)
      · rw [e] at z; cases z
  up := fun c h => b.up c (a.up c h)
  nw := fun c h => by
    rcases b.nw c h with h | h
    · exact a.nw c h
    · right
      cases q : H c with
      | none => rfl
      | some o =>
        obtain ⟨o1, e1, _⟩ := a.fr c o q
        rw [h] at e1
        cases e1
theorem Sr.mb (r : Sr G Z W B H0 O H σ ρ s) : ∀ a, Z.M a → B a := r.eo.mb
theorem Sr.step (r : Sr G Z W B H0 O H σ ρ s) (f : Lc.Fr Z.M H H1) (hs : Z.R H1 s1) : Sr G Z W B H0 O H1 σ ρ s1 := ⟨r.eo.fr f, r.fr.trans f, r.b0, r.o0, hs⟩
/-- a slot that is no own list is set -/
theorem Er.set (e : Er G W B O H σ ρ) {i : Nat} {d : D} {v : V} (hi : i ∉ W) (h : Rep G (fun a => B a ∨ O a) H d v) : Er G W B O H (σ.set i (some v)) (ρ.set i (some d)) where
  len := by simp [e.len]
  pl := fun j x hj hx => by
    by_cases hij : i = j
    · subst hij
      rw [List.getElem?_set] at hx
      simp only [if_true] at hx
      split at hx
      · cases hx
        refine ⟨v, ?_, h⟩
        rw [List.getElem?_set]
        simp only [if_true]
        rw [if_pos (by rw [e.len]; assumption)]
      · cases hx
    · rw [List.getElem?_set_ne hij] at hx
      obtain ⟨u, h1, h2⟩ := e.pl j x hj hx
      exact ⟨u, by rw [List.getElem?_set_ne hij]; exact h1, h2⟩
  ow := by
    obtain ⟨om, h1, h2⟩ := e.ow
    have ne : ∀ j, j ∈ W → i ≠ j := fun j hj z => hi (z ▸ hj)
    refine ⟨om, fun j k x y hj hk hx hy => ?_, fun j x hj hx => ?_⟩
    · rw [List.getElem?_set_ne (ne j hj)] at hx
      rw [List.getElem?_set_ne (ne k hk)] at hy
      exact h1 j k x y hj hk hx hy
    · rw [List.getElem?_set_ne (ne j hj)] at hx
      obtain ⟨a2, a3⟩ := h2 j x hj hx
      exact ⟨by rw [List.getElem?_set_ne (ne j hj)]; exact a2, a3⟩
theorem Eo.set (e : Eo G Z W B O H σ ρ) {i : Nat} {d : D} {v : V} (hi : i ∉ W) (h : Rep G (fun a => B a ∨ O a) H d v) : Eo G Z W B O H (σ.set i (some v)) (ρ.set i (some d)) := ⟨e.er.set hi h, e.bd, e.ol, e.mb, e.ob⟩
end
def tSt {S : Type} (G : Kx) (Z : Zk S) (W : List Nat) (F : Sv S) : TS := fun E σ H =>
  ∃ (B : Bar) (H0 : Hp) (O : Bar) (ρ : Rho) (s : S) (r : Rs) (s' : S), Sr G Z W B H0 O H σ ρ s ∧ F ρ s = some (r, s') ∧
    match r with
    | .nx ρ' => ∀ O' σ' H', Sr G Z W B H0 O' H' σ' ρ' s' → Ch Z O O' H H' → E.nx σ' H'
    | .rt d => ∀ v H', Lc.Fr Z.M H0 H' → Rep G B H' d v → Z.R H' s' → E.rt v H'
    | .bk ρ' => ∀ O' σ' H', Sr G Z W B H0 O' H' σ' ρ' s' → Ch Z O O' H H' → E.bk σ' H'
    | .ct ρ' => ∀ O' σ' H', Sr G Z W B H0 O' H' σ' ρ' s' → Ch Z O O' H H' → E.ct σ' H'
section
variable {S : Type}
def sNx : Sv S := fun ρ s => some (.nx ρ, s)
def sSeq (F F' : Sv S) : Sv S := fun ρ s => match F ρ s with
  | some (.nx ρ', s') => F' ρ' s'
  | r => r
def sSet (i : Nat) (f : Ev S) : Sv S := fun ρ s => bnd (f ρ s) fun d s => some (.nx (ρ.set i (some d)), s)
def sRet (f : Ev S) : Sv S := fun ρ s => bnd (f ρ s) fun d s => some (.rt d, s)
def sIf (c : Et S) (F F' : Sv S) : Sv S := fun ρ s => bnd (c ρ s) fun b s => if b = true then F ρ s else F' ρ s
/-- a target: how it sets slots -/
abbrev Tg := D → Rho → Option Rho
def gNm (i : Nat) : Tg := fun d ρ => some (ρ.set i (some d))
abbrev Tgs := List D → Rho → Option Rho
def gN0 : Tgs := fun ds ρ => match ds with
  | [] => some ρ
  | _ => none
def gC (t : Tg) (u : Tgs) : Tgs := fun ds ρ => match ds with
  | d :: ds => (t d ρ).bind fun ρ => u ds ρ
  | _ => none
def gTp (u : Tgs) : Tg := fun d ρ => match d with
  | .tuple ds => u ds ρ
  | _ => none
def sAsg (f : Ev S) (t : Tg) : Sv S := fun ρ s => bnd (f ρ s) fun d s => match t d ρ with
  | none => none
  | some ρ' => some (.nx ρ', s)
def loopF (t : Tg) (body : Sv S) : List D → Rho → S → Option (Rs × S)
  | [], ρ, s => some (.nx ρ, s)
  | d :: ds, ρ, s => match t d ρ with
    | none => none
    | some ρ1 => match body ρ1 s with
      | some (.nx ρ', s') => loopF t body ds ρ' s'
      | some (.ct ρ', s') => loopF t body ds ρ' s'
      | some (.bk ρ', s') => some (.nx ρ', s')
      | r => r
def sFor (fi : Ea S) (t : Tg) (body : Sv S) : Sv S := fun ρ s => bnd (fi ρ s) fun ds s => loopF t body ds ρ s
end
section
variable {S : Type} {X : Cx} {G : Kx} {Z : Zk S} {W : List Nat} {f g : Ev S} {F F' : Sv S} {a b c e : Expr} {es : List Expr} {st : Stmt} {rest : List Stmt} {pos p : Pos} {x : Str}
theorem es_nil : PSs X [] (tSt G Z W sNx) := imp_pss pss_nil fun E σ H ⟨B, H0, O, ρ, s, r, s', sr, hf, q⟩ => by
  cases hf
  exact q O σ H sr Ch.refl
theorem es_one (h : PS X st (tSt G Z W F)) : PSs X [st] (tSt G Z W F) := pss_one h
theorem es_cons (h : PS X st (tSt G Z W F)) (h2 : PSs X rest (tSt G Z W F')) : PSs X (st :: rest) (tSt G Z W (sSeq F F')) :=
  imp_pss (pss_cons h h2) fun E σ H ⟨B, H0, O, ρ, s, r, s', sr, hf, q⟩ => by
    unfold sSeq at hf
    split at hf
    · rename_i ρ1 s1 e1
      refine ⟨B, H0, O, ρ, s, .nx ρ1, s1, sr, e1, fun O1 σ1 H1 sr1 ch => ⟨B, H0, O1, ρ1, s1, r, s', sr1, hf, ?_⟩⟩
      cases r with
      | rt d => exact q
      | nx ρ2 => exact fun O2 σ2 H2 sr2 ch2 => q O2 σ2 H2 sr2 (ch.trans ch2)
      | bk ρ2 => exact fun O2 σ2 H2 sr2 ch2 => q O2 σ2 H2 sr2 (ch.trans ch2)
      | ct ρ2 => exact fun O2 σ2 H2 sr2 ch2 => q O2 σ2 H2 sr2 (ch.trans ch2)
    · rename_i hn
      refine ⟨B, H0, O, ρ, s, r, s', sr, hf, ?_⟩
      cases r with
      | rt d => exact q
      | nx ρ2 => exact absurd hf (hn ρ2 s')
      | bk ρ2 => exact q
      | ct ρ2 => exact q
theorem es_set {i : Nat} {pos' : Pos} (hN : X.N.Nodup) (hi : X.N[i]? = some x) (hx : Loc X.env.scope x) (he : PE X e (tEx G Z W f)) (hw : W.contains i = false := by rfl) (hs : swapsWith e (some (.Name x pos')) pos.line X.env = pure false := by rfl) (hf : X.fn x = true ∨ X.env.scope.names.lookup x = some .local := by first | exact .inl rfl | exact .inr rfl | assumption) :
    PS X (.Assign [.Name x pos'] e pos) (tSt G Z W (sSet i f)) :=
  imp_ps (ps_set hN hi hx he hs hf) fun E σ H ⟨B, H0, O, ρ, s, r, s', sr, hf, q⟩ => by
    unfold sSet at hf
    obtain ⟨d, s1, h1, hf⟩ := bnd_some hf
    cases hf
    refine ⟨B, O, ρ, s, d, _, sr.eo, sr.r, h1, fun v H1 f1 r1 R1 => ?_⟩
    have sr1 := sr.step f1 R1
    exact q O _ H1 ⟨sr1.eo.set (by simpa using hw) r1, sr1.fr, sr1.b0, sr1.o0, R1⟩ (Ch.of f1)
theorem es_ret (he : PE X e (tEx G Z [] f)) : PS X (.Return (some e) pos) (tSt G Z W (sRet f)) :=
  imp_ps (ps_ret he) fun E σ H ⟨B, H0, O, ρ, s, r, s', sr, hf, q⟩ => by
    unfold sRet at hf
    obtain ⟨d, s1, h1, hf⟩ := bnd_some hf
    cases hf
    exact ⟨B, fun _ => False, ρ, s, d, _, sr.eo.weak, sr.r, h1, fun v H1 f1 r1 R1 => q v H1 (sr.fr.trans f1) (r1.sub fun a z _ => .inl z) R1⟩
theorem es_if {t : Et S} {body orelse : List Stmt} (hc : PT X c (tEt G Z W t)) (ha : PSs X body (tSt G Z W F)) (hb : PSs X orelse (tSt G Z W F')) : PS X (.If c body orelse pos) (tSt G Z W (sIf t F F')) :=
  imp_ps (ps_if hc ha hb) fun E σ H ⟨B, H0, O, ρ, s, r, s', sr, hf, q⟩ => by
    unfold sIf at hf
    obtain ⟨d, s1, h1, hf⟩ := bnd_some hf
    refine ⟨B, O, ρ, s, d, s1, sr.eo, sr.r, h1, fun H1 f1 R1 => ?_⟩
    have sr1 := sr.step f1 R1
    have go : ∀ F : Sv S, F ρ s1 = some (r, s') → tSt G Z W F E σ H1 := fun F hF => by
      refine ⟨B, H0, O, ρ, s1, r, s', sr1, hF, ?_⟩
      cases r with
      | rt d => exact q
      | nx ρ2 => exact fun O2 σ2 H2 sr2 ch2 => q O2 σ2 H2 sr2 ((Ch.of f1).trans ch2)
      | bk ρ2 => exact fun O2 σ2 H2 sr2 ch2 => q O2 σ2 H2 sr2 ((Ch.of f1).trans ch2)
      | ct ρ2 => exact fun O2 σ2 H2 sr2 ch2 => q O2 σ2 H2 sr2 ((Ch.of f1).trans ch2)
    cases d with
    | true => exact go F hf
    | false => exact go F' hf
/-! targets -/
def tTg (G : Kx) (Z : Zk S) (W vs : List Nat) (t : Tg) : TG := fun v σ H Q => ∃ (B O : Bar) (ρ : Rho) (d : D) (ρ' : Rho), Eo G Z W B O H σ ρ ∧ Rep G (fun a => B a ∨ O a) H d v ∧ t d ρ = some ρ' ∧
  ∀ σ', Eo G Z W B O H σ' ρ' → (σ'.length = σ.length ∧ ∀ i, i ∉ vs → σ'[i]? = σ[i]?) → Q σ' H
theorem imp_pg {t t' : TG} (h : PG X e t) (m : ∀ v σ H Q, t' v σ H Q → t v σ H Q) : PG X e t' := ⟨fun pins s σ H v u Q I r q => h.run pins s σ H v u Q I r (m v σ H Q q)⟩
theorem eg_name {i : Nat} (hN : X.N.Nodup) (hi : X.N[i]? = some x) (hx : Loc X.env.scope x) (hw : W.contains i = false := by rfl) (hf : X.fn x = true ∨ X.env.scope.names.lookup x = some .local := by first | exact .inl rfl | exact .inr rfl | assumption) : PG X (.Name x pos) (tTg G Z W [i] (gNm i)) :=
  imp_pg (pg_name hN hi hx hf) fun v σ H Q ⟨B, O, ρ, d, ρ', eo, hr, ht, q⟩ => by
    cases ht
    exact q _ (eo.set (by simpa using hw) hr) ⟨by simp, fun j hj => List.getElem?_set_ne fun z => hj (by simp [z])⟩
end
end Dl
set_option Elab.async false
set_option linter.all false
set_option maxRecDepth 100000
set_option maxHeartbeats 4000000
namespace Dl
open PySem PySem.Spec PyProof.Rows L2
/-! ### what is walked -/
def Wk (G : Kx) (B : Bar) (H1 : Hp) (J : It) (ds : List D) : Prop := ∃ (Gd : Hp → Prop) (Y : Nat → Hp → V → Hp → Prop), Walk J ds.length Gd Y ∧
  ∀ (B2 : Bar) (H2 : Hp), (∀ a o, H1 a = some o → ¬ B a → H2 a = some o ∧ ¬ B2 a) → (∀ a, B2 a → H2 a ≠ none) → Gd H2 ∧ ∀ i d x H3, ds[i]? = some d → Y i H2 x H3 → Same H2 H3 ∧ Rep G B2 H3 d x
def tIt {S : Type} (G : Kx) (Z : Zk S) (W : List Nat) (f : Ea S) : TI := fun σ H R =>
  ∃ (B O : Bar) (ρ : Rho) (s : S) (d : List D) (s' : S), Eo G Z W B O H σ ρ ∧ Z.R H s ∧ f ρ s = some (d, s') ∧
    ∀ J H', Lc.Fr Z.M H H' → Wk G (fun a => B a ∨ O a) H' J d → Z.R H' s' → R J H'
theorem imp_pi {X : Cx} {tg e : Expr} {t t' : TI} (h : PI X tg e t) (m : ∀ σ H Q, t' σ H Q → t σ H Q) : PI X tg e t' := ⟨fun pins s σ H Q I q => h.run pins s σ H Q I (m σ H Q q)⟩
section
variable {S : Type} {X : Cx} {G : Kx} {Z : Zk S} {W : List Nat} {f g : Ev S} {F F' : Sv S} {a b c e tg : Expr} {es : List Expr} {st : Stmt} {rest : List Stmt} {pos p : Pos} {x : Str}
theorem es_for {iter : Expr} {body : List Stmt} {fi : Ea S} {t : Tg} {vs : List Nat} (hp : PassesOwn (model X.prog X.w) X.A X.env X.xe) (hc : X.calm = true) (hi : PI X tg iter (tIt G Z W fi)) (hg : PG X tg (tTg G Z W vs t)) (hb : PSs X body (tSt G Z W F))
    (hs : ∀ x, foldedSetIterable iter X.env x = pure x := by intro _; rfl) : PS X (.For tg iter body [] pos) (tSt G Z W (sFor fi t F)) :=
  imp_ps (ps_for hp hc hi hg hb hs) fun E σ H ⟨B, H0, O, ρ, s, r, s', sr, hf, q⟩ => by
    unfold sFor at hf
    obtain ⟨ds, s1, h1, hf⟩ := bnd_some hf
    refine ⟨B, O, ρ, s, ds, s1, sr.eo, sr.r, h1, fun J H1 f1 wk R1 => ?_⟩
    obtain ⟨Gd, Y, w, k⟩ := wk
    have sr1 := sr.step f1 R1
    have stay : ∀ {O2 : Bar} {H2 : Hp}, Ch Z O O2 H1 H2 → ∀ a o, H1 a = some o → ¬ (B a ∨ O a) → H2 a = some o ∧ ¬ (B a ∨ O2 a) := fun ch a o e n =>
      ⟨ch.fr.at e fun z => n (z.elim (fun z => .inl (sr.mb a z)) .inr), fun z => n (z.elim .inl fun z => (ch.nw a z).elim .inr fun z => by rw [e] at z; cases z)⟩
    have dom : ∀ {O2 : Bar} {H2 : Hp} {σ2 : L2.St} {ρ2 : Rho} {s2 : S}, Sr G Z W B H0 O2 H2 σ2 ρ2 s2 → ∀ a, (B a ∨ O2 a) → H2 a ≠ none := fun r a z => z.elim (r.eo.bd a) (r.eo.od a)
    refine for_it w (fun i σ2 H2 => ∃ O2 ρ2 s2, Sr G Z W B H0 O2 H2 σ2 ρ2 s2 ∧ Ch Z O O2 H1 H2 ∧ loopF t F (ds.drop i) ρ2 s2 = some (r, s')) ⟨O, ρ, s1, sr1, Ch.refl, hf⟩ ?_ ?_ ?_
    · rintro i σ2 H2 hi ⟨O2, ρ2, s2, sr2, ch, _⟩
      exact (k _ H2 (stay ch) (dom sr2)).1
    · rintro i x σ2 H2 H3 hi ⟨O2, ρ2, s2, sr2, ch, hl⟩ y
      have hd : ds[i]? = some ds[i] := by simp [hi]
      obtain ⟨sm, rp⟩ := (k _ H2 (stay ch) (dom sr2)).2 i ds[i] x H3 hd y
      rw [List.drop_eq_getElem_cons hi] at hl
      unfold loopF at hl
      split at hl
      · cases hl
      · rename_i ρ3 e1
        refine ⟨B, O2, ρ2, ds[i], ρ3, sr2.eo.fr (Lc.Fr.of sm), rp, e1, fun σ3 eo3 _ => ?_⟩
        have sr3 : Sr G Z W B H0 O2 H3 σ3 ρ3 s2 := ⟨eo3, sr2.fr.trans (Lc.Fr.of sm), sr2.b0, sr2.o0, Z.same sr2.r sm⟩
        have ch3 : Ch Z O O2 H1 H3 := ch.trans (Ch.of (Lc.Fr.of sm))
        split at hl
        · rename_i ρ4 s4 e4
          exact ⟨B, H0, O2, ρ3, s2, .nx ρ4, s4, sr3, e4, fun O5 σ5 H5 sr5 ch5 => ⟨O5, ρ4, s4, sr5, ch3.trans ch5, hl⟩⟩
        · rename_i ρ4 s4 e4
          exact ⟨B, H0, O2, ρ3, s2, .ct ρ4, s4, sr3, e4, fun O5 σ5 H5 sr5 ch5 => ⟨O5, ρ4, s4, sr5, ch3.trans ch5, hl⟩⟩
        · rename_i ρ4 s4 e4
          cases hl
          exact ⟨B, H0, O2, ρ3, s2, .bk ρ4, _, sr3, e4, fun O5 σ5 H5 sr5 ch5 => q O5 σ5 H5 sr5 ((Ch.of f1).trans (ch3.trans ch5))⟩
        · rename_i n1 n2 n3
          cases r with
          | rt d => exact ⟨B, H0, O2, ρ3, s2, .rt d, s', sr3, hl, q⟩
          | nx ρ4 => exact absurd hl (n1 ρ4 s')
          | ct ρ4 => exact absurd hl (n2 ρ4 s')
          | bk ρ4 => exact absurd hl (n3 ρ4 s')
    · rintro σ2 H2 ⟨O2, ρ2, s2, sr2, ch, hl⟩
      rw [List.drop_length] at hl
      cases hl
      exact q O2 σ2 H2 sr2 ((Ch.of f1).trans ch)
/-! what can be walked -/
def asL : D → Option (List D)
  | .list ds => some ds
  | _ => none
def asT : D → Option (List D)
  | .tuple ds => some ds
  | _ => none
/-- an iterable of an expression's value -/
def iOf (p : D → Option (List D)) (f : Ev S) : Ea S := fun ρ s => bnd (f ρ s) fun d s => put (p d) s
def asS : D → Option (List D)
  | .str z => some (z.cps.toList.map fun c => .str ⟨#[c]⟩)
  | _ => none
def rngD (lo : Int) (n : Nat) : List D := (List.range n).map fun (i : Nat) => .int (lo + i)
theorem wk_range {B : Bar} {H : Hp} {lo : Int} {n : Nat} : Wk G B H (Itr lo n) (rngD lo n) := by
  refine ⟨fun _ => True, _, by simp only [rngD, List.length_map, List.length_range]; exact walk_range, fun B2 H2 st dm => ⟨trivial, fun i d x H3 hd y => ?_⟩⟩
  obtain ⟨rfl, rfl⟩ := y
  simp only [rngD, List.getElem?_map] at hd
  by_cases hi : i < n
  · rw [List.getElem?_range hi] at hd
    cases hd
    exact ⟨Same.refl _, by simp only [Rep]⟩
  · rw [List.getElem?_eq_none (by simpa using hi)] at hd
    cases hd
def pR1 : List D → Option (List D)
  | [.int j] => if -(2 ^ 62) ≤ j ∧ j < 2 ^ 62 then some (rngD 0 j.toNat) else none
  | _ => none
def pR2 : List D → Option (List D)
  | [.int i, .int j] => if -(2 ^ 62) ≤ i ∧ i < 2 ^ 62 ∧ -(2 ^ 62) ≤ j ∧ j < 2 ^ 62 then some (rngD i (j - i).toNat) else none
  | _ => none
def iOfA (p : List D → Option (List D)) (f : Ea S) : Ea S := fun ρ s => bnd (f ρ s) fun d s => put (p d) s
theorem ei_range1 {fa : Ea S} (h : PI X tg (.Call (.Name "range" p) [a] [] pos) (iRng1 (tEa G Z W fa))) : PI X tg (.Call (.Name "range" p) [a] [] pos) (tIt G Z W (iOfA pR1 fa)) :=
  imp_pi h fun σ H Q ⟨B, O, ρ, s, d, s', eo, hR, hf, q⟩ => by
    unfold iOfA at hf
    obtain ⟨y, s1, h1, hf⟩ := bnd_some hf
    obtain ⟨h3, rfl⟩ := put_some hf
    refine ⟨B, O, ρ, s, y, _, eo, hR, h1, fun v H1 f1 r1 R1 => ?_⟩
    unfold pR1 at h3
    split at h3
    · split at h3
      · rename_i j hj
        cases h3
        simp only [Reps, Rep] at r1
        obtain ⟨v, r, rfl, rfl, rfl⟩ := r1
        exact ⟨j, rfl, hj.1, hj.2, q _ H1 f1 wk_range R1⟩
      · cases h3
    · cases h3
/-! list comprehensions -/
def wipeR (ρ : Rho) : List Nat → Rho
  | [] => ρ
  | v :: vs => (wipeR ρ vs).set v none
def compF (t : Tg) (q : Et S) (f : Ev S) (ρ : Rho) : List D → S → Option (List D × S)
  | [], s => some ([], s)
  | d :: ds, s => match t d ρ with
    | none => none
    | some ρ1 => bnd (q ρ1 s) fun b s => if b = true then bnd (f ρ1 s) fun y s => bnd (compF t q f ρ ds s) fun ys s => some (y :: ys, s) else compF t q f ρ ds s
def lcF (fi : Ea S) (t : Tg) (q : Et S) (f : Ev S) (vs : List Nat) : Ea S := fun ρ s => bnd (fi ρ s) fun ds s => if ds.length ≤ sizeLine then compF t q f (wipeR ρ vs) ds s else none
def qYes : Et S := fun _ s => some (true, s)
theorem wipe_get {σ : L2.St} {i : Nat} : ∀ {vs : List Nat}, i ∉ vs → (wipe σ vs)[i]? = σ[i]?
  | [], _ => rfl
  | v :: vs, h => by
    unfold wipe
    rw [List.getElem?_set_ne fun z => h (by simp [z]), wipe_get fun z => h (List.mem_cons_of_mem _ z)]
theorem wipeR_get {ρ : Rho} {i : Nat} {d : D} : ∀ {vs : List Nat}, (wipeR ρ vs)[i]? = some (some d) → ρ[i]? = some (some d) ∧ i ∉ vs
  | [], h => ⟨h, by simp⟩
  | v :: vs, h => by
    unfold wipeR at h
    by_cases hi : v = i
    · subst hi
      rw [List.getElem?_set] at h
      simp only [if_true] at h
      split at h <;> cases h
    · rw [List.getElem?_set_ne hi] at h
      obtain ⟨h1, h2⟩ := wipeR_get h
      exact ⟨h1, fun z => (List.mem_cons.mp z).elim (fun z => hi z.symm) h2⟩
theorem wipeR_len {ρ : Rho} : ∀ {vs : List Nat}, (wipeR ρ vs).length = ρ.length
  | [] => rfl
  | v :: vs => by unfold wipeR; rw [List.length_set, wipeR_len]
theorem wipe_none {σ : L2.St} {i : Nat} : ∀ {vs : List Nat}, i ∈ vs → i < σ.length → (wipe σ vs)[i]? = some none
  | v :: vs, h, hl => by
    unfold wipe
    by_cases hi : v = i
    · subst hi
      rw [List.getElem?_set_self (by rw [wipe_length]; exact hl)]
    · rw [List.getElem?_set_ne hi]
      exact wipe_none ((List.mem_cons.mp h).elim (fun z => absurd z.symm hi) id) hl
theorem Eo.wipe {B O : Bar} {H : Hp} {σ : L2.St} {ρ : Rho} (e : Eo G Z W B O H σ ρ) (vs : List Nat) : Eo G Z W B O H (L2.wipe σ vs) (wipeR ρ vs) where
  er := by
    refine ⟨by rw [wipe_length, wipeR_len]; exact e.er.len, fun i d hi hd => ?_, ?_⟩
    · obtain ⟨h1, h2⟩ := wipeR_get hd
      rw [wipe_get h2]
      exact e.er.pl i d hi h1
    · obtain ⟨om, h1, h2⟩ := e.er.ow
      refine ⟨om, fun i j d d' hi hj hd hd' => h1 i j d d' hi hj (wipeR_get hd).1 (wipeR_get hd').1, fun i d hi hd => ?_⟩
      obtain ⟨h3, h4⟩ := wipeR_get hd
      rw [wipe_get h4]
      exact h2 i d hi h3
  bd := e.bd
  ol := e.ol
  mb := e.mb
  ob := e.ob
theorem wipe_ext {σ σ2 : L2.St} {us vs : List Nat} (hv : ∀ i ∈ us, i ∈ vs) (hl : σ2.length = σ.length) (k : ∀ i, i ∉ us → σ2[i]? = (wipe σ vs)[i]?) : wipe σ2 vs = wipe σ vs := by
  apply List.ext_getElem?
  intro i
  by_cases hi : i ∈ vs
  · by_cases hl2 : i < σ.length
    · rw [wipe_none hi (by omega), wipe_none hi hl2]
    · rw [List.getElem?_eq_none (by rw [wipe_length]; omega), List.getElem?_eq_none (by rw [wipe_length]; omega)]
  · rw [wipe_get hi, k i fun z => hi (hv i z)]
theorem Eo.bar {B O : Bar} {H : Hp} {σ : L2.St} {ρ : Rho} (e : Eo G Z W B O H σ ρ) {L : Addr} (h : H L = none) (o : HO) : Eo G Z W (fun a => B a ∨ a = L) O (upd H L o) σ ρ := by
  have k : ∀ a u, H a = some u → ¬ (B a ∨ O a) → upd H L o a = some u ∧ ¬ ((B a ∨ a = L) ∨ O a) := fun a u q n => by
    have ne : a ≠ L := ne_of_none q h
    exact ⟨by rw [upd_ne ne]; exact q, fun z => n (z.elim (fun z => z.elim .inl fun z => absurd z ne) .inr)⟩
  refine ⟨⟨e.er.len, fun i d hi hd => ?_, ?_⟩, fun a z => ?_, fun a z => ?_, fun a z => .inl (e.mb a z), fun a z y => ?_⟩
  · obtain ⟨v, h1, h2⟩ := e.er.pl i d hi hd
    exact ⟨v, h1, h2.mv k⟩
  · obtain ⟨om, h1, h2⟩ := e.er.ow
    refine ⟨om, h1, fun i d hi hd => ?_⟩
    obtain ⟨a2, a3, a5⟩ := h2 i d hi hd
    exact ⟨a2, a3, a5.mv k fun o q => by rw [upd_ne (ne_of_none q h)]; exact q⟩
  · rcases z with z | rfl
    · by_cases hq : a = L
      · subst hq; rw [upd_same]; simp
      · rw [upd_ne hq]; exact e.bd a z
    · rw [upd_same]; simp
  · exact (e.ol a z).k fun o q => by rw [upd_ne (ne_of_none q h)]; exact q
  · rcases y with y | rfl
    · exact e.ob a z y
    · exact e.od a z h
theorem Eo.upd {B O : Bar} {H : Hp} {σ : L2.St} {ρ : Rho} (e : Eo G Z W B O H σ ρ) {L : Addr} (h : B L) (o : HO) : Eo G Z W B O (upd H L o) σ ρ := by
  have k : ∀ a u, H a = some u → ¬ (B a ∨ O a) → L2.upd H L o a = some u ∧ ¬ (B a ∨ O a) := fun a u q n => ⟨by rw [upd_ne fun z => n (.inl (by rw [z]; exact h))]; exact q, n⟩
  have nO : ∀ a, O a → a ≠ L := fun a z y => e.ob a z (by rw [y]; exact h)
  refine ⟨⟨e.er.len, fun i d hi hd => ?_, ?_⟩, fun a z => ?_, fun a z => ?_, e.mb, e.ob⟩
  · obtain ⟨v, h1, h2⟩ := e.er.pl i d hi hd
    exact ⟨v, h1, h2.mv k⟩
  · obtain ⟨om, h1, h2⟩ := e.er.ow
    refine ⟨om, h1, fun i d hi hd => ?_⟩
    obtain ⟨a2, a3, a5⟩ := h2 i d hi hd
    exact ⟨a2, a3, a5.mv k fun o q => by rw [upd_ne (nO _ a3)]; exact q⟩
  · by_cases hq : a = L
    · subst hq; rw [upd_same]; simp
    · rw [upd_ne hq]; exact e.bd a z
  · exact (e.ol a z).k fun o q => by rw [upd_ne (nO a z)]; exact q
/-- the core: a comprehension makes a new list -/
theorem lc_new {fi : Ea S} {t : Tg} {us vs : List Nat} {q : Et S} {tt : TT} {B O : Bar} {ρ : Rho} {s s' : S} {ds : List D} {σ : L2.St} {H : Hp} {Q : VK} (hu : ∀ i ∈ us, i ∈ vs) (hq : ∀ σ H Q, tEt G Z W q σ H Q → tt σ H Q) (eo : Eo G Z W B O H σ ρ) (hR : Z.R H s) (hf : lcF fi t q f vs ρ s = some (ds, s'))
    (h : ∀ p vs H', H p = none → Lc.Fr Z.M H H' → H' p = some (.lst vs) → Reps G (fun a => (B a ∨ a = p) ∨ O a) H' ds vs → Z.R H' s' → Q (.ref p) H') :
    tLc (tIt G Z W fi) (tTg G Z W us t) tt (tEx G Z W f) vs σ H Q := by
  unfold lcF at hf
  obtain ⟨xs, s1, h1, hf⟩ := bnd_some hf
  split at hf
  · rename_i hsz
    refine ⟨B, O, ρ, s, xs, s1, eo, hR, h1, fun J H1 f1 wk R1 => fun L hL => ?_⟩
    obtain ⟨Gd, Y, w, k⟩ := wk
    have eo1 := eo.fr f1
    have nL : ¬ (B L ∨ O L) := eo1.new hL
    have nM : ¬ Z.M L := fun z => nL (.inl (eo.mb L z))
    have hL0 : H L = none := f1.free hL
    have dm : ∀ {H2 : Hp}, Eo G Z W (fun a => B a ∨ a = L) O H2 σ ρ → ∀ a, ((B a ∨ a = L) ∨ O a) → H2 a ≠ none := fun e2 a z => z.elim (e2.bd a) (e2.od a)
    have st : ∀ {H2 : Hp}, Lc.Fr Z.M H1 H2 → ∀ a o, H1 a = some o → ¬ (B a ∨ O a) → H2 a = some o ∧ ¬ ((B a ∨ a = L) ∨ O a) := fun f2 a o e n =>
      ⟨f2.at e fun z => n (.inl (eo.mb a z)), fun z => n (z.elim (fun z => z.elim .inl fun z => absurd z (ne_of_none e hL)) .inr)⟩
    refine lc_it w (fun i H2 => ∃ acc as rest s2, Eo G Z W (fun a => B a ∨ a = L) O H2 σ ρ ∧ Lc.Fr Z.M H1 H2 ∧ H2 L = some (.lst as) ∧ Reps G (fun a => (B a ∨ a = L) ∨ O a) H2 acc as ∧ acc.length ≤ i ∧ Z.R H2 s2 ∧ compF t q f (wipeR ρ vs) (xs.drop i) s2 = some (rest, s') ∧ acc ++ rest = ds) ?_ ?_ ?_ ?_
    · exact ⟨[], [], ds, s1, eo1.bar hL _, Lc.Fr.new hL, upd_same, Reps.nil, Nat.le_refl _, Z.same R1 (Lc.same_new hL), hf, rfl⟩
    · rintro i H2 hi ⟨acc, as, rest, s2, eo2, f2, _⟩
      exact (k _ H2 (st f2) (dm eo2)).1
    · rintro i x H2 H3 hi ⟨acc, as, rest, s2, eo2, f2, hLs, ra, hn, R2, hc, hds⟩ y
      have hd : xs[i]? = some xs[i] := by simp [hi]
      obtain ⟨sm, rp⟩ := (k _ H2 (st f2) (dm eo2)).2 i xs[i] x H3 hd y
      rw [List.drop_eq_getElem_cons hi] at hc
      unfold compF at hc
      split at hc
      · cases hc
      · rename_i ρ3 e1
        have eo3 := (eo2.fr (Lc.Fr.of sm)).wipe vs
        refine ⟨_, O, wipeR ρ vs, xs[i], ρ3, eo3, rp, e1, fun σ3 eo4 kk => ⟨wipe_ext hu (by rw [kk.1, wipe_length]) kk.2, ?_⟩⟩
        obtain ⟨b, s3, h3, hc⟩ := bnd_some hc
        refine hq _ _ _ ⟨_, O, ρ3, s2, b, s3, eo4, Z.same R2 sm, h3, fun H4 f4 R4 => ?_⟩
        have f24 : Lc.Fr Z.M H2 H4 := (Lc.Fr.of sm).trans f4
        have mb : ∀ a, Z.M a → (B a ∨ a = L) ∨ O a := fun a z => .inl (.inl (eo.mb a z))
        have hL4 : H4 L = some (.lst as) := f24.at hLs nM
        cases b with
        | false =>
          rw [if_neg (by simp)] at hc
          refine iteF ?_
          exact ⟨acc, as, rest, s3, eo2.fr f24, f2.trans f24, hL4, ra.fr f24 mb, by omega, R4, hc, hds⟩
        | true =>
          rw [if_pos rfl] at hc
          refine iteT ?_
          obtain ⟨y1, s4, h4, hc⟩ := bnd_some hc
          obtain ⟨ys, s5, h5, hc⟩ := bnd_some hc
          cases hc
          refine ⟨_, O, ρ3, s3, y1, s4, eo4.fr f4, R4, h4, fun u H5 f5 r5 R5 => ?_⟩
          have f25 := f24.trans f5
          have hL5 : H5 L = some (.lst as) := f25.at hLs nM
          have ra5 := ra.fr f25 mb
          refine ⟨as, hL5, by have := ra.len; omega, ?_⟩
          have up : ∀ a o, H5 a = some o → ¬ ((B a ∨ a = L) ∨ O a) → L2.upd H5 L (.lst (as ++ [u])) a = some o ∧ ¬ ((B a ∨ a = L) ∨ O a) := fun a o e n => ⟨by rw [upd_ne fun z => n (.inl (.inr z))]; exact e, n⟩
          refine ⟨acc ++ [y1], as ++ [u], ys, s4, (eo2.fr f25).upd (.inr rfl) _, Lc.Fr.own (f2.trans f25) hL, upd_same, (ra5.append (Reps.cons r5 Reps.nil)).mv up, by simp; omega, Z.loc H5 _ s4 R5 fun a z => upd_ne fun e => nM (by rw [← e]; exact z), h5, by simpa using hds⟩
    · rintro H2 ⟨acc, as, rest, s2, eo2, f2, hLs, ra, hn, R2, hc, hds⟩
      rw [List.drop_length] at hc
      cases hc
      rw [List.append_nil] at hds
      subst hds
      exact h L as H2 hL0 (f1.trans f2) hLs ra R2
  · cases hf
end
end Dl
set_option Elab.async false
set_option linter.all false
set_option maxRecDepth 100000
set_option maxHeartbeats 4000000
namespace Dl
open PySem PySem.Spec PyProof.Rows L2
/-! ### new lists, and slots that own them -/
/-- a reading whose value is a new list -/
def tNl {S : Type} (G : Kx) (Z : Zk S) (W : List Nat) (f : Ea S) : TE := fun σ H Q =>
  ∃ (B O : Bar) (ρ : Rho) (s : S) (d : List D) (s' : S), Eo G Z W B O H σ ρ ∧ Z.R H s ∧ f ρ s = some (d, s') ∧
    ∀ p vs H', H p = none → Lc.Fr Z.M H H' → H' p = some (.lst vs) → Reps G (fun a => (B a ∨ a = p) ∨ O a) H' d vs → Z.R H' s' → Q (.ref p) H'
def cNl {S : Type} (f : Ea S) : Ev S := fun ρ s => bnd (f ρ s) fun ds s => some (.list ds, s)
section
variable {S : Type} {X : Cx} {G : Kx} {Z : Zk S} {W : List Nat} {f g : Ev S} {fa : Ea S} {F F' : Sv S} {a b c e tg : Expr} {es : List Expr} {st : Stmt} {rest : List Stmt} {pos p : Pos} {x : Str}
theorem ex_nl (h : PE X e (tNl G Z W fa)) : PE X e (tEx G Z W (cNl fa)) :=
  imp_pe h fun σ H Q ⟨B, O, ρ, s, d, s', eo, hR, hf, q⟩ => by
    unfold cNl at hf
    obtain ⟨y, s1, h1, hf⟩ := bnd_some hf
    cases hf
    refine ⟨B, O, ρ, s, y, _, eo, hR, h1, fun p vs H' hp f1 h2 h3 R1 => q _ H' f1 ?_ R1⟩
    simp only [Rep]
    exact ⟨p, vs, rfl, h2, eo.new hp, h3.sub fun a z _ => z.elim (fun z => .inl (.inl z)) .inr⟩
theorem nl_lc {iter : Expr} {ifs : List Expr} {scope : Scope} {own : List (Str × Nat)} {fi : Ea S} {t : Tg} {us : List Nat} {q : Et S} {tt : TT} (hc : X.calm = true) (hN : X.N.Nodup) (hi : PI X tg iter (tIt G Z W fi)) (ok : BlkOk X.N X.env.scope scope own)
    (hg : ∀ (s : Shared) (H : Hp) (C : Addr) (cl : List (Str × Addr)) (fp : List Addr), PG (X.blk s H scope (compEnvC scope cl C X.env) fp) tg (tTg G Z W us t)) (ht : ∀ (s : Shared) (H : Hp) (C : Addr) (cl : List (Str × Addr)) (fp : List Addr), PTs (X.blk s H scope (compEnvC scope cl C X.env) fp) ifs tt)
    (hq : ∀ σ H Q, tEt G Z W q σ H Q → tt σ H Q)
    (he : ∀ (s : Shared) (H : Hp) (C : Addr) (cl : List (Str × Addr)) (fp : List Addr), PE (X.blk s H scope (compEnvC scope cl C X.env) fp) e (tEx G Z W f)) (hu : ∀ i ∈ us, i ∈ own.map (·.2) := by decide) (hs : ∀ x, foldedSetIterable iter X.env x = pure x := by intro _; rfl) :
    PE X (.ListComp e [⟨tg, iter, ifs, 0⟩] scope pos) (tNl G Z W (lcF fi t q f (own.map (·.2)))) :=
  imp_pe (pe_lc hc hN hi ok hg ht he hs) fun σ H Q ⟨B, O, ρ, s, d, s', eo, hR, hf, k⟩ => lc_new hu hq eo hR hf k
theorem yes_of {σ : L2.St} {H : Hp} {Q : Bool → Hp → Prop} (h : tEt G Z W qYes σ H Q) : tYes σ H Q := by
  obtain ⟨B, O, ρ, s, d, s', eo, hR, hf, q⟩ := h
  cases hf
  exact q H (Lc.Fr.refl H) hR
/-- an own slot is set to a new thing -/
theorem Sr.ownG {B O : Bar} {H0 H H' : Hp} {σ : L2.St} {ρ : Rho} {s s' : S} {P : Addr} {d0 : D} {i : Nat} (sr : Sr G Z W B H0 O H σ ρ s) (hi : i ∈ W) (hp : H P = none) (f1 : Lc.Fr Z.M H H') (h1 : LoD H' P)
    (h2 : OwnAt G (fun a => (B a ∨ a = P) ∨ O a) H' P d0) (R1 : Z.R H' s') : Sr G Z W B H0 (fun a => O a ∨ a = P) H' (σ.set i (some (.ref P))) (ρ.set i (some d0)) s' ∧ Ch Z O (fun a => O a ∨ a = P) H H' := by
  have eo1 := sr.eo.fr f1
  have nB : ¬ B P := fun z => sr.eo.bd P z hp
  have k : ∀ a o, H a = some o → ¬ (B a ∨ O a) → H' a = some o ∧ ¬ (B a ∨ (O a ∨ a = P)) := fun a o e n =>
    ⟨f1.at e fun z => n (.inl (sr.mb a z)), fun z => n (z.elim .inl fun z => z.elim .inr fun z => absurd z (ne_of_none e hp))⟩
  obtain ⟨om, o1, o2⟩ := sr.eo.er.ow
  refine ⟨⟨⟨?_, eo1.bd, fun a z => ?_, sr.mb, fun a z => ?_⟩, sr.fr.trans f1, sr.b0, fun a z => ?_, R1⟩, ⟨fun b o e => ?_, fun _ z => .inl z, fun a z => ?_⟩⟩
  · have e' : Er G W B O H' σ ρ := eo1.er
    refine ⟨by simp [e'.len], fun j d hj hd => ?_, ?_⟩
    · have ne : i ≠ j := fun z => hj (z ▸ hi)
      rw [List.getElem?_set_ne ne] at hd
      obtain ⟨v, h3, h4⟩ := sr.eo.er.pl j d hj hd
      exact ⟨v, by rw [List.getElem?_set_ne ne]; exact h3, h4.mv k⟩
    · have at_ : ∀ j d, (ρ.set i (some d0))[j]? = some (some d) → (j = i ∧ i < ρ.length ∧ d = d0) ∨ (j ≠ i ∧ ρ[j]? = some (some d)) := fun j d hd => by
        by_cases hij : i = j
        · subst hij
          rw [List.getElem?_set] at hd
          simp only [if_true] at hd
          split at hd
          · cases hd
            exact .inl ⟨rfl, by assumption, rfl⟩
          · cases hd
        · rw [List.getElem?_set_ne hij] at hd
          exact .inr ⟨Ne.symm hij, hd⟩
      have old : ∀ j d, j ∈ W → ρ[j]? = some (some d) → om j ≠ P := fun j d hj hd z => by
        obtain ⟨a2, a3, a4⟩ := o2 j d hj hd
        exact a4.ne (by rw [z]; exact hp)
      refine ⟨fun j => if j = i then P else om j, fun j m d d' hj hm hd hd' hh => ?_, fun j d hj hd => ?_⟩
      · rcases at_ j d hd with ⟨z1, z2, z3⟩ | ⟨z1, z2⟩
        · rcases at_ m d' hd' with ⟨y1, y2, y3⟩ | ⟨y1, y2⟩
          · rw [z1, y1]
          · simp only [if_pos z1, if_neg y1] at hh
            exact absurd hh.symm (old m d' hm y2)
        · rcases at_ m d' hd' with ⟨y1, y2, y3⟩ | ⟨y1, y2⟩
          · simp only [if_neg z1, if_pos y1] at hh
            exact absurd hh (old j d hj z2)
          · simp only [if_neg z1, if_neg y1] at hh
            exact o1 j m d d' hj hm z2 y2 hh
      · rcases at_ j d hd with ⟨rfl, z2, rfl⟩ | ⟨z1, z2⟩
        · simp only [if_true]
          refine ⟨?_, (by first | exact .inr rfl | exact .inr trivial), h2.mv (fun a o e n => ⟨e, fun z => n (z.elim (fun z => .inl (.inl z)) fun z => z.elim .inr fun z => .inl (.inr z))⟩) fun o e => e⟩
          rw [List.getElem?_set_self (by rw [e'.len]; exact z2)]
        · simp only [if_neg z1]
          obtain ⟨a2, a3, a5⟩ := o2 j d hj z2
          exact ⟨by rw [List.getElem?_set_ne (Ne.symm z1)]; exact a2, .inl a3, a5.mv k fun o e => f1.at e fun z => sr.eo.ob _ a3 (sr.mb _ z)⟩
  · rcases z with z | rfl
    · exact eo1.ol a z
    · exact h1
  · rcases z with z | rfl
    · exact sr.eo.ob a z
    · exact nB
  · rcases z with z | rfl
    · exact sr.o0 a z
    · exact sr.fr.free hp
  · obtain ⟨o', q1, q2⟩ := f1 b o e
    exact ⟨o', q1, fun n => q2 fun z => n (.inl z)⟩
  · rcases z with z | rfl
    · exact .inl z
    · exact .inr hp
theorem Sr.own {B O : Bar} {H0 H H' : Hp} {σ : L2.St} {ρ : Rho} {s s' : S} {P : Addr} {vs : List V} {ds : List D} {i : Nat} (sr : Sr G Z W B H0 O H σ ρ s) (hi : i ∈ W) (hp : H P = none) (f1 : Lc.Fr Z.M H H') (h1 : H' P = some (.lst vs))
    (h2 : Reps G (fun a => (B a ∨ a = P) ∨ O a) H' ds vs) (R1 : Z.R H' s') : Sr G Z W B H0 (fun a => O a ∨ a = P) H' (σ.set i (some (.ref P))) (ρ.set i (some (.list ds))) s' ∧ Ch Z O (fun a => O a ∨ a = P) H H' :=
  sr.ownG hi hp f1 (.inl ⟨vs, h1⟩) ⟨vs, h1, h2⟩ R1
def sOwn (i : Nat) (f : Ea S) : Sv S := fun ρ s => bnd (f ρ s) fun ds s => some (.nx (ρ.set i (some (.list ds))), s)
/-- the own thing of slot i becomes another one -/
theorem Sr.mutG {B O : Bar} {H0 H : Hp} {σ : L2.St} {ρ : Rho} {s : S} {i : Nat} {d : D} (sr : Sr G Z W B H0 O H σ ρ s) (hi : i ∈ W) (hd : ρ[i]? = some (some d)) : ∃ P, σ[i]? = some (some (.ref P)) ∧ OwnAt G (fun a => B a ∨ O a) H P d ∧ O P ∧
    ∀ e u, LoD (upd H P u) P → OwnAt G (fun a => B a ∨ O a) (upd H P u) P e → Sr G Z W B H0 O (upd H P u) σ (ρ.set i (some e)) s ∧ Ch Z O O H (upd H P u) := by
  obtain ⟨om, o1, o2⟩ := sr.eo.er.ow
  obtain ⟨a2, a3, a5⟩ := o2 i d hi hd
  refine ⟨om i, a2, a5, a3, fun es us hL hr => ?_⟩
  have k : ∀ a o, H a = some o → ¬ (B a ∨ O a) → upd H (om i) us a = some o ∧ ¬ (B a ∨ O a) := fun a o e n => ⟨by rw [upd_ne fun z => n (.inr (by rw [z]; exact a3))]; exact e, n⟩
  have nM : ∀ a, Z.M a → a ≠ om i := fun a z y => sr.eo.ob _ a3 (sr.mb _ (by rw [← y]; exact z))
  have hl : i < ρ.length := by
    rcases Nat.lt_or_ge i ρ.length with h | h
    · exact h
    · rw [List.getElem?_eq_none h] at hd; cases hd
  refine ⟨⟨⟨⟨by simp [sr.eo.er.len], fun j d' hj hd' => ?_, om, ?_, ?_⟩, fun a z => ?_, fun a z => ?_, sr.mb, sr.eo.ob⟩, ?_, sr.b0, sr.o0, Z.loc H _ s sr.r fun a z => upd_ne (nM a z)⟩, ⟨Lc.Fr.mut (.inr a3), fun _ z => z, fun _ z => .inl z⟩⟩
  · have ne : i ≠ j := fun z => hj (z ▸ hi)
    rw [List.getElem?_set_ne ne] at hd'
    obtain ⟨v, h3, h4⟩ := sr.eo.er.pl j d' hj hd'
    exact ⟨v, h3, h4.mv k⟩
  · intro j m e1 e2 hj hm h1 h2 hh
    have g : ∀ j e, (ρ.set i (some es))[j]? = some (some e) → ∃ e', ρ[j]? = some (some e') := fun j e h => by
      by_cases hij : i = j
      · subst hij; exact ⟨d, hd⟩
      · rw [List.getElem?_set_ne hij] at h; exact ⟨e, h⟩
    obtain ⟨e1', h1⟩ := g j e1 h1
    obtain ⟨e2', h2⟩ := g m e2 h2
    exact o1 j m e1' e2' hj hm h1 h2 hh
  · intro j e hj h
    by_cases hij : i = j
    · subst hij
      rw [List.getElem?_set_self hl] at h
      cases h
      exact ⟨a2, a3, hr⟩
    · rw [List.getElem?_set_ne hij] at h
      obtain ⟨b2, b3, b5⟩ := o2 j e hj h
      have ne : om j ≠ om i := fun z => hij (o1 j i e d hj hi h hd z).symm
      exact ⟨b2, b3, b5.mv k fun o q => by rw [upd_ne ne]; exact q⟩
  · by_cases hq : a = om i
    · subst hq; rw [upd_same]; simp
    · rw [upd_ne hq]; exact sr.eo.bd a z
  · by_cases hq : a = om i
    · subst hq; exact hL
    · exact (sr.eo.ol a z).k fun o q => by rw [upd_ne hq]; exact q
  · exact Lc.Fr.own sr.fr (sr.o0 _ a3)
/-- the own list of slot i becomes another one -/
theorem Sr.mut {B O : Bar} {H0 H : Hp} {σ : L2.St} {ρ : Rho} {s : S} {i : Nat} {d : List D} (sr : Sr G Z W B H0 O H σ ρ s) (hi : i ∈ W) (hd : ρ[i]? = some (some (.list d))) : ∃ P ds vs, PyData.list d = .list ds ∧ σ[i]? = some (some (.ref P)) ∧ H P = some (.lst vs) ∧ Reps G (fun a => B a ∨ O a) H ds vs ∧ O P ∧
    ∀ es us, Reps G (fun a => B a ∨ O a) H es us → Sr G Z W B H0 O (upd H P (.lst us)) σ (ρ.set i (some (.list es))) s ∧ Ch Z O O H (upd H P (.lst us)) := by
  obtain ⟨P, a2, ⟨vs, a4, a5⟩, a3, mu⟩ := sr.mutG hi hd
  refine ⟨P, d, vs, rfl, a2, a4, a5, a3, fun es us hr => mu _ _ (.inl ⟨us, upd_same⟩) ⟨us, upd_same, hr.mv fun a o e n => ⟨?_, n⟩⟩⟩
  rw [upd_ne fun z => n (.inr (by rw [z]; exact a3))]
  exact e
def sApp (i : Nat) (f : Ev S) : Sv S := fun ρ s => match ρ[i]? with
  | some (some (.list ds)) => bnd (f ρ s) fun d s => if ds.length < sizeLine then some (.nx (ρ.set i (some (.list (ds ++ [d])))), s) else none
  | _ => none
def sExt (i : Nat) (f : Ev S) : Sv S := fun ρ s => match ρ[i]? with
  | some (some (.list ds)) => bnd (f ρ s) fun d s => match d with
    | .list es => if ds.length + es.length ≤ sizeLine then some (.nx (ρ.set i (some (.list (ds ++ es)))), s) else none
    | _ => none
  | _ => none
/-! ### a def -/
def startR (n : Nat) (ds : List D) : Rho := ds.map some ++ List.replicate (n - ds.length) none
/-- what a def computes: its body over n slots -/
def fnD (n : Nat) (F : Sv S) : Fn S := fun ds s => match F (startR n ds) s with
  | some (.rt d, s') => some (d, s')
  | some (.nx _, s') => some (.none, s')
  | _ => none
theorem eo_start {B : Bar} {H : Hp} {N : List Str} {vs : List V} {ds : List D} {n : Nat} (hn : N.length = n) (bd : ∀ a, B a → H a ≠ none) (mb : ∀ a, Z.M a → B a) (hr : Reps G B H ds vs) (hl : ds.length ≤ n) (hW : ∀ i ∈ W, ds.length ≤ i) : Eo G Z W B (fun _ => False) H (L2.start N vs) (startR n ds) where
  er := by
    have len := hr.len
    refine ⟨by unfold L2.start startR; simp [len, hn], fun i d hi hd => ?_, fun _ => 0, ?_, ?_⟩
    · unfold startR at hd
      by_cases h : i < ds.length
      · rw [List.getElem?_append_left (by simpa using h), List.getElem?_map] at hd
        cases hd' : ds[i]? with
        | none => rw [hd'] at hd; cases hd
        | some d' =>
          rw [hd'] at hd
          cases hd
          obtain ⟨v, h1, h2⟩ := hr.get hd'
          refine ⟨v, ?_, h2.sub fun a z _ => z.elim id False.elim⟩
          unfold L2.start
          rw [List.getElem?_append_left (by simpa [len] using h), List.getElem?_map, h1]
          rfl
      · rw [List.getElem?_append_right (by simpa using h), List.getElem?_replicate] at hd
        split at hd <;> cases hd
    · intro i j d e hi hj hd
      exfalso
      have := hW i hi
      unfold startR at hd
      rw [List.getElem?_append_right (by simpa using this), List.getElem?_replicate] at hd
      split at hd <;> cases hd
    · intro i d hi hd
      exfalso
      have := hW i hi
      unfold startR at hd
      rw [List.getElem?_append_right (by simpa using this), List.getElem?_replicate] at hd
      split at hd <;> cases hd
  bd := bd
  ol := fun _ z => z.elim
  mb := mb
  ob := fun _ z => z.elim
variable {P : Program} {w : World} {K : PySem.W.Frag} {mg : Str → Option Value} {base : Heap}
/-- THE RULE: a def whose body reads as F computes fnD F -/
theorem fn_ok {nm qual : Str} {st : Stmt} {fad : Addr} {fd : FuncData} {N ps : List Str} {k n m : Nat} (U : Fun K nm qual st fad fd) (sc : FnScope N ps (defScope st)) (hn : N.length = n) (hm : ps.length = m) (hmn : m ≤ n) (hW : ∀ i ∈ W, m ≤ i)
    (hb : ∀ (cdv : Value) (A : Around) (outer : List Env) (s : Shared) (H : Hp) (E : XK), Room k (A.deeper (envOfC qual (defScope st) s.heap.objs.size fad cdv)) → PSs (cxOf CX0 P w K mg base N qual (defScope st) fad cdv A outer s H E).nox (defBody st) (tSt G Z W F)) :
    FnOk P w K mg base CX0 (k + 1) fad fd ps (spD G Z m (fnD n F)) := by
  refine U.ok sc (fun vs H Q E h => ?_) (fun cdv A outer s H vs Q E hr h => ⟨_, hb cdv A outer s H E hr, ?_⟩)
  · obtain ⟨B, ds, s, d, s', h1, _, _, h2, _⟩ := h
    rw [h2.len, h1, hm]
  · obtain ⟨B, ds, s0, d, s', h1, bd, mb, h2, R0, hF, q⟩ := h
    have eo := eo_start (W := W) (Z := Z) (N := N) hn bd mb h2 (by omega) (by rw [h1]; exact hW)
    unfold fnD at hF
    have sr : Sr G Z W B H (fun _ => False) H (L2.start N vs) (startR n ds) s0 := ⟨eo, Lc.Fr.refl H, bd, fun _ z => z.elim, R0⟩
    split at hF
    · rename_i d' s1 e1
      cases hF
      exact ⟨B, H, fun _ => False, startR n ds, s0, .rt d, _, sr, e1, q⟩
    · rename_i ρ' s1 e1
      cases hF
      exact ⟨B, H, fun _ => False, startR n ds, s0, .nx ρ', _, sr, e1, fun O' σ' H' sr' _ => q .non H' sr'.fr (by simp only [Rep]) sr'.r⟩
    · cases hF
end
end Dl
set_option Elab.async false
set_option linter.all false
set_option maxRecDepth 100000
set_option maxHeartbeats 4000000
namespace Lc
open PySem PySem.Spec PyProof.Rows L2
/-! ### x == [], x != [], t == (), t != (), whatever the items are -/
section
variable {X : Cx}
theorem size_ne {xs : List V} {its : List Value} (r : Vals xs its) (h : xs ≠ []) : (its.toArray.size != (#[] : Array Value).size) = true := by
  have e := r.length
  have : xs.length ≠ 0 := fun z => h (List.length_eq_zero_iff.mp z)
  simp
  intro z
  rw [z] at e
  simp at e
  exact h e
def rEqNil (K : PySem.W.Frag) (neg : Bool) : R2 := fun x y H Q => ∃ a b xs, x = .ref a ∧ y = .ref b ∧ SqL K H a xs ∧ SqL K H b [] ∧ Q (.bl (xs.isEmpty != neg)) H
def rEqNilT (K : PySem.W.Frag) (neg : Bool) : R2 := fun x y H Q => ∃ a b xs, x = .ref a ∧ y = .ref b ∧ SqT K H a xs ∧ SqT K H b [] ∧ Q (.bl (xs.isEmpty != neg)) H
theorem op_eqNil (hu : X.A.units < cLine) : OpR X (compareOp .Eq) (rEqNil X.K false) := by
  intro pins s σ H x y v u Q I rx ry h
  obtain ⟨a, b, xs, rfl, rfl, ha, hb, q⟩ := h
  cases rx
  cases ry
  obtain ⟨its, r1, p1, _⟩ := I.list ha
  obtain ⟨its2, r2, p2, _⟩ := I.list hb
  cases r2
  by_cases hx : xs = []
  · subst hx
    cases r1
    exact SeqAt.eq_listAt (e := fun _ => true) p1.isList p2.isList rfl hu (fun j h1 _ => absurd h1 (by simp)) ⟨.bl true, H, I, rfl, q⟩
  · refine SeqAt.eq_list_lengthsAt p1.isList p2.isList (size_ne r1 hx) hu ⟨.bl false, H, I, rfl, ?_⟩
    cases xs with
    | nil => exact absurd rfl hx
    | cons _ _ => exact q
theorem op_neNil (hu : X.A.units < cLine) : OpR X (compareOp .NotEq) (rEqNil X.K true) := by
  intro pins s σ H x y v u Q I rx ry h
  obtain ⟨a, b, xs, rfl, rfl, ha, hb, q⟩ := h
  cases rx
  cases ry
  obtain ⟨its, r1, p1, _⟩ := I.list ha
  obtain ⟨its2, r2, p2, _⟩ := I.list hb
  cases r2
  by_cases hx : xs = []
  · subst hx
    cases r1
    exact SeqAt.RcNeAt.lists (e := fun _ => true) p1.isList p2.isList rfl hu (fun j h1 _ => absurd h1 (by simp)) _ _ _ _ ⟨.bl false, H, I, rfl, q⟩
  · refine SeqAt.RcNeAt.lists_lengths p1.isList p2.isList (size_ne r1 hx) hu _ _ _ _ ⟨.bl true, H, I, rfl, ?_⟩
    cases xs with
    | nil => exact absurd rfl hx
    | cons _ _ => exact q
theorem tup_empty {xs : List V} {its : List Value} (r : Vals xs its) : ((List.range (min its.toArray.size (#[] : Array Value).size)).all (fun _ => true) && its.toArray.size == (#[] : Array Value).size) = xs.isEmpty := by
  have e := r.length
  cases xs with
  | nil =>
    cases r
    rfl
  | cons a l =>
    cases r
    simp
theorem op_eqNilT (hu : X.A.units < cLine) : OpR X (compareOp .Eq) (rEqNilT X.K false) := by
  intro pins s σ H x y v u Q I rx ry h
  obtain ⟨a, b, xs, rfl, rfl, ha, hb, q⟩ := h
  cases rx
  cases ry
  obtain ⟨its, r1, p1, _⟩ := I.tuple ha
  obtain ⟨its2, r2, p2, _⟩ := I.tuple hb
  cases r2
  refine SeqAt.eq_tupleAt (e := fun _ => true) p1 p2 hu (fun j _ h2 => absurd h2 (by simp)) ?_
  rw [tup_empty r1]
  refine ⟨.bl xs.isEmpty, H, I, rfl, ?_⟩
  cases xs <;> exact q
theorem op_neNilT (hu : X.A.units < cLine) : OpR X (compareOp .NotEq) (rEqNilT X.K true) := by
  intro pins s σ H x y v u Q I rx ry h
  obtain ⟨a, b, xs, rfl, rfl, ha, hb, q⟩ := h
  cases rx
  cases ry
  obtain ⟨its, r1, p1, _⟩ := I.tuple ha
  obtain ⟨its2, r2, p2, _⟩ := I.tuple hb
  cases r2
  refine SeqAt.RcNeAt.tuples (e := fun _ => true) p1 p2 hu (fun j _ h2 => absurd h2 (by simp)) _ _ _ _ ?_
  rw [tup_empty r1]
  refine ⟨.bl (!xs.isEmpty), H, I, rfl, ?_⟩
  cases xs <;> exact q
end
end Lc
set_option Elab.async false
set_option linter.all false
set_option maxRecDepth 100000
set_option maxHeartbeats 4000000
namespace Dl
open PySem PySem.Spec PyProof.Rows L2
/-! ### operators on data -/
def orR (r1 r2 : R2) : R2 := fun x y H Q => r1 x y H Q ∨ r2 x y H Q
theorem or_op {X : Cx} {f : Value → Value → Sem Value} {r1 r2 : R2} (h1 : OpR X f r1) (h2 : OpR X f r2) : OpR X f (orR r1 r2) := fun pins s σ H x y v u Q I rx ry h => h.elim (h1 pins s σ H x y v u Q I rx ry) (h2 pins s σ H x y v u Q I rx ry)
def pAdd : D → D → Option D
  | .int i, .int j => some (.int (i + j))
  | .str a, .str b => if a.length + b.length ≤ sizeLine then some (.str (a ++ b)) else none
  | .list a, .list b => if a.length + b.length ≤ sizeLine then some (.list (a ++ b)) else none
  | .tuple a, .tuple b => if a.length + b.length ≤ sizeLine then some (.tuple (a ++ b)) else none
  | _, _ => none
abbrev rAddD (K : PySem.W.Frag) : R2 := orR (rI0 fun i j => .int (i + j)) (orR (fun x y H Q => ∃ i j, x = .str i ∧ y = .str j ∧ i.length + j.length ≤ sizeLine ∧ Q (.str (i ++ j)) H) (orR rCat (rCatF K)))
theorem od_add {X : Cx} : OpR X (binaryOp .Add) (rAddD X.K) := or_op op_add (or_op op_add_str (or_op op_cat op_catF))
theorem nb_of {B : Bar} {H : Hp} {p : Addr} (bd : ∀ a, B a → H a ≠ none) (hp : H p = none) : ¬ B p := fun z => bd p z hp
section
variable {G : Kx} {B : Bar} {H : Hp}
/-- a new list, a new tuple -/
theorem rep_lst {p : Addr} {vs : List V} {ds : List D} (bd : ∀ a, B a → H a ≠ none) (hp : H p = none) (h : Reps G B H ds vs) : Rep G B (upd H p (.lst vs)) (.list ds) (.ref p) := by
  simp only [Rep]
  exact ⟨p, vs, rfl, upd_same, nb_of bd hp, h.same (Lc.same_new hp)⟩
theorem rep_tup {p : Addr} {o : Obj} {vs : List V} {ds : List D} (bd : ∀ a, B a → H a ≠ none) (hp : H p = none) (ho : o.dict = none) (h : Reps G B H ds vs) : Rep G B (upd H p (.frz o (.tup vs))) (.tuple ds) (.ref p) := by
  simp only [Rep]
  exact ⟨p, vs, rfl, .inl ⟨.inr ⟨o, upd_same, ho⟩, nb_of bd hp⟩, h.same (Lc.same_new hp)⟩
theorem reps_nil_iff {vs : List V} (h : Reps G B H [] vs) : vs = [] := by simpa only [Reps] using h
theorem reps_ne {ds : List D} {vs : List V} (h : Reps G B H ds vs) : (vs = [] ↔ ds = []) := by
  have := h.len
  cases ds <;> cases vs <;> simp_all
end
theorem os_add {G : Kx} : OpS G (rAddD G.K) pAdd := by
  intro B H x y dx dy d Q bd hx hy hp q
  unfold pAdd at hp
  split at hp
  · cases hp
    simp only [Rep] at hx hy
    subst hx hy
    exact .inl ⟨_, _, rfl, rfl, q _ H (Same.refl H) (by simp only [Rep])⟩
  · split at hp
    · cases hp
      simp only [Rep] at hx hy
      subst hx hy
      exact .inr (.inl ⟨_, _, rfl, rfl, by assumption, q _ H (Same.refl H) (by simp only [Rep])⟩)
    · cases hp
  · split at hp
    · cases hp
      obtain ⟨a, us, rfl, h1, _, h2⟩ := hx.sqL
      obtain ⟨b, vs, rfl, h3, _, h4⟩ := hy.sqL
      exact .inr (.inr (.inl ⟨a, b, us, vs, rfl, rfl, h1, h3, by rw [h2.len, h4.len]; assumption, fun p hp => q _ _ (Lc.same_new hp) (rep_lst bd hp (h2.append h4))⟩))
    · cases hp
  · split at hp
    · cases hp
      rename_i as bs hsz
      obtain ⟨a, us, rfl, h1, h2⟩ := hx.sqT
      obtain ⟨b, vs, rfl, h3, h4⟩ := hy.sqT
      refine .inr (.inr (.inr ⟨a, b, us, vs, rfl, rfl, h1, h3, by rw [h2.len, h4.len]; assumption, fun e => ?_, fun _ e => ?_, fun _ _ p o hp ho => q _ _ (Lc.same_new hp) (rep_tup bd hp ho (h2.append h4))⟩))
      · have : as = [] := (reps_ne h2).mp e
        subst this
        exact q _ H (Same.refl H) hy
      · have : bs = [] := (reps_ne h4).mp e
        subst this
        rw [List.append_nil] at q
        exact q _ H (Same.refl H) hx
    · cases hp
  · cases hp
/-- two dInts in -/
def pI (C : Int → Int → Bool) (g : Int → Int → D) : D → D → Option D
  | .int i, .int j => if C i j = true then some (g i j) else none
  | _, _ => none
theorem os_I {G : Kx} {C : Int → Int → Prop} {c : Int → Int → Bool} {g : Int → Int → V} {g' : Int → Int → D} (hc : ∀ i j, c i j = true → C i j) (hg : ∀ B H i j, Rep G B H (g' i j) (g i j)) : OpS G (rI C g) (pI c g') := by
  intro B H x y dx dy d Q bd hx hy hp q
  unfold pI at hp
  split at hp
  · split at hp
    · cases hp
      simp only [Rep] at hx hy
      subst hx hy
      exact ⟨_, _, rfl, rfl, hc _ _ (by assumption), q _ H (Same.refl H) (hg B H _ _)⟩
    · cases hp
  · cases hp
def pI0 (g : Int → Int → D) : D → D → Option D
  | .int i, .int j => some (g i j)
  | _, _ => none
def pSub : D → D → Option D := pI0 fun i j => .int (i - j)
def pMul : D → D → Option D := pI (fun i j => decide (i.natAbs.log2 + j.natAbs.log2 < 1000000)) fun i j => .int (i * j)
theorem os_mul {G : Kx} : OpS G (rI CMulW fun i j => .int (i * j)) pMul := os_I (fun i j h => show i.natAbs.log2 + j.natAbs.log2 < 1000000 from of_decide_eq_true h) fun B H i j => by simp only [Rep]
def pMod : D → D → Option D := pI (fun _ j => decide (0 < j)) fun i j => .int (i % j)
def pFdiv : D → D → Option D := pI (fun i j => decide (0 < j ∧ j.natAbs.log2 < 9000)) fun i j => .int (i / j)
def pPow : D → D → Option D := pI (fun i j => decide (0 ≤ j ∧ j ≤ 1000000 ∧ i.natAbs < 2 ^ 64)) fun i j => .int (i ^ j.toNat)
theorem os_pow {G : Kx} : OpS G (rI CPow fun i j => .int (i ^ j.toNat)) pPow := os_I (fun i j h => show 0 ≤ j ∧ j ≤ 1000000 ∧ i.natAbs < 2 ^ 64 from of_decide_eq_true h) fun B H i j => by simp only [Rep]
/-! ### comparisons -/
def pEq : D → D → Option D
  | .int i, .int j => some (.bool (decide (i = j)))
  | .str i, .str j => some (.bool (decide (i = j)))
  | .bool i, .bool j => some (.bool (decide (i = j)))
  | .list a, .list [] => some (.bool a.isEmpty)
  | .tuple a, .tuple [] => some (.bool a.isEmpty)
  | x, y => if SeqAt.shaped x = true ∧ SeqAt.shaped y = true then some (.bool (PyData.eqv x y)) else none
def pNe (x y : D) : Option D := match pEq x y with
  | some (.bool b) => some (.bool (!b))
  | _ => none
abbrev rEqA (K : PySem.W.Frag) : R2 := orR rEq (orR (Lc.rEqNil K false) (orR (Lc.rEqNilT K false) (rEqD K)))
abbrev rNeA (K : PySem.W.Frag) : R2 := orR rNe (orR (Lc.rEqNil K true) (orR (Lc.rEqNilT K true) (rNeD K)))
theorem od_eq {X : Cx} (hu : X.A.units + 64 < cLine) : OpR X (compareOp .Eq) (rEqA X.K) := or_op op_eq (or_op (Lc.op_eqNil (by omega)) (or_op (Lc.op_eqNilT (by omega)) (op_eqD hu)))
theorem od_ne {X : Cx} (hu : X.A.units + 64 < cLine) : OpR X (compareOp .NotEq) (rNeA X.K) := or_op op_ne (or_op (Lc.op_neNil (by omega)) (or_op (Lc.op_neNilT (by omega)) (op_neD hu)))
theorem isEmpty_reps {G : Kx} {B : Bar} {H : Hp} {ds : List D} {vs : List V} (h : Reps G B H ds vs) : vs.isEmpty = ds.isEmpty := by
  have := h.len
  cases ds <;> cases vs <;> simp_all
theorem eq_core {G : Kx} {B : Bar} {H : Hp} {x y : V} {dx dy : D} {b : Bool} (hx : Rep G B H dx x) (hy : Rep G B H dy y) (hp : pEq dx dy = some (.bool b)) :
    (scal x y = true ∧ decide (x = y) = b) ∨ (∃ p q xs, x = .ref p ∧ y = .ref q ∧ SqL G.K H p xs ∧ SqL G.K H q [] ∧ xs.isEmpty = b) ∨ (∃ p q xs, x = .ref p ∧ y = .ref q ∧ SqT G.K H p xs ∧ SqT G.K H q [] ∧ xs.isEmpty = b) ∨
      (∃ d e, Dp G.K H x d ∧ Dp G.K H y e ∧ SeqAt.shaped d = true ∧ SeqAt.shaped e = true ∧ PyData.eqv d e = b) := by
  unfold pEq at hp
  split at hp
  · cases hp
    simp only [Rep] at hx hy
    subst hx hy
    exact .inl ⟨rfl, by simp only [V.int.injEq]⟩
  · cases hp
    simp only [Rep] at hx hy
    subst hx hy
    exact .inl ⟨rfl, by simp only [V.str.injEq]⟩
  · cases hp
    simp only [Rep] at hx hy
    subst hx hy
    exact .inl ⟨rfl, by simp only [V.bl.injEq]⟩
  · cases hp
    obtain ⟨p, xs, rfl, _, h1, h2⟩ := hx.sqL
    obtain ⟨q, ys, rfl, _, h3, h4⟩ := hy.sqL
    rw [reps_nil_iff h4] at h3
    exact .inr (.inl ⟨p, q, xs, rfl, rfl, h1, h3, isEmpty_reps h2⟩)
  · cases hp
    obtain ⟨p, xs, rfl, h1, h2⟩ := hx.sqT
    obtain ⟨q, ys, rfl, h3, h4⟩ := hy.sqT
    rw [reps_nil_iff h4] at h3
    exact .inr (.inr (.inl ⟨p, q, xs, rfl, rfl, h1, h3, isEmpty_reps h2⟩))
  · split at hp
    · rename_i h
      cases hp
      exact .inr (.inr (.inr ⟨_, _, hx.dp _ _ (SeqAt.canLay_of_shaped h.1), hy.dp _ _ (SeqAt.canLay_of_shaped h.2), h.1, h.2, rfl⟩))
    · cases hp
theorem pEq_bool {x y z : D} (h : pEq x y = some z) : ∃ k, z = .bool k := by
  unfold pEq at h
  split at h
  · cases h; exact ⟨_, rfl⟩
  · cases h; exact ⟨_, rfl⟩
  · cases h; exact ⟨_, rfl⟩
  · cases h; exact ⟨_, rfl⟩
  · cases h; exact ⟨_, rfl⟩
  · split at h
    · cases h; exact ⟨_, rfl⟩
    · cases h
theorem pNe_bool {x y z : D} (h : pNe x y = some z) : ∃ k, z = .bool k := by
  unfold pNe at h
  split at h
  · cases h; exact ⟨_, rfl⟩
  · cases h
theorem os_eq {G : Kx} : OpS G (rEqA G.K) pEq := by
  intro B H x y dx dy d Q bd hx hy hp q
  obtain ⟨b, rfl⟩ := pEq_bool hp
  have q := q (.bl b) H (Same.refl H) (by simp only [Rep])
  rcases eq_core hx hy hp with ⟨h1, rfl⟩ | ⟨p, r, xs, h1, h2, h3, h4, rfl⟩ | ⟨p, r, xs, h1, h2, h3, h4, rfl⟩ | ⟨d, e, h1, h2, h3, h4, rfl⟩
  · exact .inl ⟨h1, q⟩
  · exact .inr (.inl ⟨p, r, xs, h1, h2, h3, h4, by simpa using q⟩)
  · exact .inr (.inr (.inl ⟨p, r, xs, h1, h2, h3, h4, by simpa using q⟩))
  · exact .inr (.inr (.inr ⟨d, e, h1, h2, h3, h4, q⟩))
theorem os_ne {G : Kx} : OpS G (rNeA G.K) pNe := by
  intro B H x y dx dy d Q bd hx hy hp q
  unfold pNe at hp
  split at hp
  · rename_i b hb
    cases hp
    have q := q (.bl (!b)) H (Same.refl H) (by simp only [Rep])
    rcases eq_core hx hy hb with ⟨h1, rfl⟩ | ⟨p, r, xs, h1, h2, h3, h4, rfl⟩ | ⟨p, r, xs, h1, h2, h3, h4, rfl⟩ | ⟨d, e, h1, h2, h3, h4, rfl⟩
    · exact .inl ⟨h1, q⟩
    · exact .inr (.inl ⟨p, r, xs, h1, h2, h3, h4, by simpa using q⟩)
    · exact .inr (.inr (.inl ⟨p, r, xs, h1, h2, h3, h4, by simpa using q⟩))
    · exact .inr (.inr (.inr ⟨d, e, h1, h2, h3, h4, q⟩))
  · cases hp
def dInts : List D → Option (List Int)
  | [] => some []
  | .int i :: ds => (dInts ds).map (i :: ·)
  | _ => none
def dStrs : List D → Option (List Str)
  | [] => some []
  | .str i :: ds => (dStrs ds).map (i :: ·)
  | _ => none
@[simp] theorem ints_map (ns : List Int) : dInts (ns.map .int) = some ns := by
  induction ns with
  | nil => rfl
  | cons n ns ih => simp [dInts, ih]
@[simp] theorem strs_map (ns : List Str) : dStrs (ns.map .str) = some ns := by
  induction ns with
  | nil => rfl
  | cons n ns ih => simp [dStrs, ih]
def pLt : D → D → Option D
  | .int i, .int j => some (.bool (decide (i < j)))
  | .str i, .str j => some (.bool (decide (i.cps.toList < j.cps.toList)))
  | .tuple a, .tuple b => match dInts a, dInts b with
    | some ns, some ms => some (.bool (HT.lexLt ns ms))
    | _, _ => none
  | _, _ => none
def pIB (g : Int → Int → Bool) : D → D → Option D
  | .int i, .int j => some (.bool (g i j))
  | _, _ => none
def pLe : D → D → Option D := pIB fun i j => decide (i ≤ j)
def pGt : D → D → Option D := pIB fun i j => decide (j < i)
def pGe : D → D → Option D := pIB fun i j => decide (j ≤ i)
/-- x is None -/
def nonD : D → Bool
  | .none => true
  | _ => false
def pIs (x y : D) : Option D := match y with
  | .none => some (.bool (nonD x))
  | _ => none
def pIsNot (x y : D) : Option D := match y with
  | .none => some (.bool (!nonD x))
  | _ => none
end Dl
set_option Elab.async false
set_option linter.all false
set_option maxRecDepth 100000
set_option maxHeartbeats 4000000
namespace Dl
open PySem PySem.Spec PyProof.Rows L2
/-! ### in -/
def scalD : D → Bool
  | .none => true
  | .bool _ => true
  | .int _ => true
  | .str _ => true
  | _ => false
/-- == of plain things -/
def eqS : D → D → Bool
  | .none, .none => true
  | .bool a, .bool b => a == b
  | .bool a, .int b => (if a then 1 else 0) == b
  | .int a, .bool b => a == (if b then 1 else 0)
  | .int a, .int b => a == b
  | .str a, .str b => a == b
  | _, _ => false
def sign1 (x : Str) : Option Nat := match x.cps.toList with
  | [c] => some c
  | _ => none
def memD (x : D) (ds : List D) : Option Bool :=
  if scalD x = true ∧ ds.all scalD = true then some (ds.any fun e => eqS e x) else none
def deepIn (x : D) (ds : List D) : Option Bool :=
  if SeqAt.shaped x = true ∧ SeqAt.shaped (.list ds) = true then some (ds.any fun z => PyData.eqv z x) else none
def inD (x y : D) : Option Bool := match y with
  | .str z => match x with
    | .str c => (sign1 c).map fun c => decide (c ∈ z.cps.toList)
    | _ => none
  | .tuple ds => memD x ds
  | .list ds => match memD x ds with
    | some b => some b
    | none => deepIn x ds
  | _ => none
def pIn (x y : D) : Option D := (inD x y).map .bool
def pNotIn (x y : D) : Option D := (inD x y).map fun b => .bool (!b)
/-! ### subscripts, slices -/
def pIx : D → D → Option D
  | .list ds, .int i => atI ds i
  | .tuple ds, .int i => atI ds i
  | .str z, .int i => if z.length ≤ sizeLine then (atI z.cps.toList i).map fun c => .str ⟨#[c]⟩ else none
  | _, _ => none
theorem Reps.atI {G : Kx} {B : Bar} {H : Hp} {ds : List D} {vs : List V} {i : Int} {d : D} (h : Reps G B H ds vs) (e : L2.atI ds i = some d) : ∃ v, L2.atI vs i = some v ∧ Rep G B H d v := by
  unfold L2.atI at e ⊢
  rw [h.len]
  rw [Option.bind_eq_some_iff] at e
  obtain ⟨j, h1, h2⟩ := e
  obtain ⟨v, h3, h4⟩ := h.get h2
  exact ⟨v, by rw [h1]; exact h3, h4⟩
theorem os_ix {G : Kx} : OpS G (rIx G.K) pIx := by
  intro B H x y dx dy d Q bd hx hy hp q
  unfold pIx at hp
  split at hp
  · simp only [Rep] at hy
    obtain ⟨a, vs, rfl, _, h1, h2⟩ := hx.sqL
    obtain ⟨v, h3, h4⟩ := h2.atI hp
    exact .inl ⟨a, vs, _, v, rfl, hy, h1, h3, q _ H (Same.refl H) h4⟩
  · simp only [Rep] at hy
    obtain ⟨a, vs, rfl, h1, h2⟩ := hx.sqT
    obtain ⟨v, h3, h4⟩ := h2.atI hp
    exact .inr (.inl ⟨a, vs, _, v, rfl, hy, h1, h3, q _ H (Same.refl H) h4⟩)
  · split at hp
    · rw [Option.map_eq_some_iff] at hp
      obtain ⟨c, hc, rfl⟩ := hp
      simp only [Rep] at hx hy
      exact .inr (.inr ⟨_, _, c, hx, hy, by assumption, hc, q _ H (Same.refl H) (by simp only [Rep])⟩)
    · cases hp
  · cases hp
def cutD (ds : List D) (lo hi : Option Int) : List D := (ds.drop (HT.sIx ds.length 0 lo)).take (HT.sIx ds.length ds.length hi - HT.sIx ds.length 0 lo)
theorem Reps.cut {G : Kx} {B : Bar} {H : Hp} {ds : List D} {vs : List V} (h : Reps G B H ds vs) (lo hi : Option Int) : Reps G B H (cutD ds lo hi) (cutV vs lo hi) := by
  unfold cutD cutV
  rw [h.len]
  exact (h.drop _).take _
def pSl (x : D) (lo hi : Option Int) : Option D := match x with
  | .list ds => some (.list (cutD ds lo hi))
  | .tuple ds => some (.tuple (cutD ds lo hi))
  | .str z => if z.length ≤ sizeLine then some (.str (cutS z lo hi)) else none
  | _ => none
/-- a slice's end: left out, or an int -/
abbrev Eo' (S : Type) := Rho → S → Option (Option Int × S)
def oNo {S : Type} : Eo' S := fun _ s => some (none, s)
def asI : D → Option Int
  | .int i => some i
  | _ => none
def oOf {S : Type} (f : Ev S) : Eo' S := fun ρ s => bnd (f ρ s) fun d s => put ((asI d).map some) s
def cSl {S : Type} (p : D → Option Int → Option Int → Option D) (f : Ev S) (l h : Eo' S) : Ev S := fun ρ s => bnd (f ρ s) fun x s => bnd (l ρ s) fun lo s => bnd (h ρ s) fun hi s => put (p x lo hi) s
section
variable {S : Type} {X : Cx} {G : Kx} {Z : Zk S} {W : List Nat} {f g : Ev S} {fa : Ea S} {a b c e tg : Expr} {es : List Expr} {pos p p2 : Pos} {x : Str} {lo hi : Option Expr}
/-! ### new lists -/
def aN (p : List D → Option (List D)) (f : Ea S) : Ea S := fun ρ s => bnd (f ρ s) fun xs s => put (p xs) s
def lenOk (ds : List D) : Option (List D) := if ds.length ≤ sizeLine then some ds else none
def aCat (f g : Ev S) : Ea S := fun ρ s => bnd (f ρ s) fun x s => bnd (g ρ s) fun y s => match x, y with
  | .list a, .list b => if a.length + b.length ≤ sizeLine then some (a ++ b, s) else none
  | _, _ => none
/-! ### what is built in -/
def pLen : List D → Option D
  | [.list ds] => some (.int ds.length)
  | [.tuple ds] => some (.int ds.length)
  | [.str z] => if z.length ≤ sizeLine then some (.int z.length) else none
  | _ => none
def pList : List D → Option (List D)
  | [.list ds] => some ds
  | [.tuple ds] => some ds
  | _ => none
def pTuple : List D → Option D
  | [.list ds] => some (.tuple ds)
  | [.tuple ds] => some (.tuple ds)
  | _ => none
def pInt : List D → Option D
  | [.int i] => some (.int i)
  | [.bool k] => some (.int (if k then 1 else 0))
  | _ => none
def pStr : List D → Option D
  | [.int i] => if i.natAbs.log2 < 1920 then some (.str (toString i)) else none
  | _ => none
def pSum : List D → Option D
  | [.list ds] => (dInts ds).map fun ns => .int ns.sum
  | _ => none
def dBools : List D → Option (List Bool)
  | [] => some []
  | .bool i :: ds => (dBools ds).map (i :: ·)
  | _ => none
@[simp] theorem dBools_map (ns : List Bool) : dBools (ns.map .bool) = some ns := by
  induction ns with
  | nil => rfl
  | cons n ns ih => simp [dBools, ih]
/-! isinstance of a class that is built in -/
def tyN : D → Option String
  | .none => some "NoneType"
  | .bool _ => some "bool"
  | .int _ => some "int"
  | .str _ => some "str"
  | .list _ => some "list"
  | .tuple _ => some "tuple"
  | .dict kvs => if isHn kvs = true then none else some "dict"
def pIsi (T : String) (d : D) : Option D := (tyN d).bind fun t => (L2.kitB t T).map .bool
/-! methods of texts -/
def pJoin : D → D → Option D
  | .str a, .list ds => match dStrs ds with
    | some ys => if (ys.map (·.length)).sum + ys.length * a.length ≤ 16777216 then some (.str (Txt.join a ys)) else none
    | none => none
  | .str a, .tuple ds => match dStrs ds with
    | some ys => if (ys.map (·.length)).sum + ys.length * a.length ≤ 16777216 then some (.str (Txt.join a ys)) else none
    | none => none
  | _, _ => none
def aSplit (f g : Ev S) : Ea S := fun ρ s => bnd (f ρ s) fun x s => bnd (g ρ s) fun y s => match x, y with
  | .str a, .str b => if (b.length == 0) = false ∧ a.length + 2 ≤ sizeLine then some ((Txt.split a b).map .str, s) else none
  | _, _ => none
def pUpper : D → Option D
  | .str a => if a.length ≤ 5592405 then some (.str (Txt.upper a)) else none
  | _ => none
end
end Dl
set_option Elab.async false
set_option linter.all false
set_option maxRecDepth 100000
set_option maxHeartbeats 4000000
/-! enumerate(t), t a tuple -/
namespace Lc
open PySem PySem.Spec PyProof.Rows L2
open AutoSeq1 (wpAny_loadPart')
section
variable {prog : Program} {w : World} {A : Around} {E : Value → Shared → Prop} {s : Shared}
end
/-! ### the rule -/
end Lc
set_option Elab.async false
set_option linter.all false
set_option maxRecDepth 100000
set_option maxHeartbeats 4000000
/-! list(s), s a text: its signs -/
namespace Lc
open PySem PySem.Spec PyProof.Rows L2
end Lc
set_option Elab.async false
set_option linter.all false
set_option maxRecDepth 100000
set_option maxHeartbeats 4000000
namespace Dl
open PySem PySem.Spec PyProof.Rows L2
section
variable {S : Type} {X : Cx} {G : Kx} {Z : Zk S} {W : List Nat} {f g : Ev S} {fa : Ea S} {F F' : Sv S} {a b c e tg : Expr} {es : List Expr} {st : Stmt} {rest : List Stmt} {pos p : Pos} {x : Str}
/-! ### own lists read -/
def aFl (f : Ea S) : Ea S := fun ρ s => bnd (f ρ s) fun ds s => if flatDs ds = true then some (ds, s) else none
/-! a name set to a new list, however it is made -/
theorem es_setNl {i : Nat} {t : TE} (h : PS X st (tAsg t (gName i))) (hn : ∀ σ H Q, tNl G Z W fa σ H Q → t σ H Q) (hw : W.contains i = false := by rfl) : PS X st (tSt G Z W (sSet i (cNl fa))) :=
  imp_ps h fun E σ H ⟨B, H0, O, ρ, s, r, s', sr, hf, k⟩ => by
    unfold sSet cNl at hf
    obtain ⟨d, s1, h1, hf⟩ := bnd_some hf
    obtain ⟨y, s2, h2, h1⟩ := bnd_some h1
    cases h1
    cases hf
    refine hn σ H _ ⟨B, O, ρ, s, y, _, sr.eo, sr.r, h2, fun p vs H' hp f1 h2 h3 R1 => ?_⟩
    have sr1 := sr.step f1 R1
    refine k O _ H' ⟨sr1.eo.set (by simpa using hw) ?_, sr1.fr, sr1.b0, sr1.o0, R1⟩ (Ch.of f1)
    simp only [Rep]
    exact ⟨p, vs, rfl, h2, sr.eo.new hp, h3.sub fun a z _ => z.elim (fun z => .inl (.inl z)) .inr⟩
/-! x op= e -/
def sAug (i : Nat) (p : D → D → Option D) (f : Ev S) : Sv S := fun ρ s => match ρ[i]? with
  | some (some x) => bnd (f ρ s) fun y s => match p x y with
    | some z => some (.nx (ρ.set i (some z)), s)
    | none => none
  | _ => none
/-! told.extend(..) -/
/-! ### pairs: enumerate, zip -/
def pairD (x y : D) : D := .tuple [x, y]
def enumD (ds : List D) : List D := (List.range ds.length).zipWith (fun (i : Nat) d => pairD (.int i) d) ds
def pEnumL : List D → Option (List D)
  | [.list ds] => some (enumD ds)
  | _ => none
/-! ### max, min of a list of ints; sorted -/
/-- texts in order -/
def leS (a b : Str) : Bool := !decide (b.cps.toList < a.cps.toList)
def sortS (xs : List Str) : List Str := xs.mergeSort leS
end
end Dl
set_option Elab.async false
set_option linter.all false
set_option maxRecDepth 100000
set_option maxHeartbeats 4000000
namespace Dl
open PySem PySem.Spec PyProof.Rows L2
section
variable {S : Type} {X : Cx} {G : Kx} {Z : Zk S} {W : List Nat} {f g h : Ev S} {fa : Ea S} {F F' : Sv S} {a b c e tg : Expr} {es : List Expr} {st : Stmt} {rest : List Stmt} {pos p : Pos} {x : Str}
theorem nl_lcT {fi : Ea S} {t : Tg} {us vs : List Nat} {q : Et S} {tt : TT} {σ : L2.St} {H : Hp} {Q : VK} (hu : ∀ i ∈ us, i ∈ vs) (hq : ∀ σ H Q, tEt G Z W q σ H Q → tt σ H Q) (h : tNl G Z W (lcF fi t q f vs) σ H Q) : tLc (tIt G Z W fi) (tTg G Z W us t) tt (tEx G Z W f) vs σ H Q := by
  obtain ⟨B, O, ρ, s, d, s', eo, hR, hf, k⟩ := h
  exact lc_new hu hq eo hR hf k
def pNeg : D → Option D
  | .int i => some (.int (-i))
  | _ => none
theorem us_neg : UnS G (rU fun i => .int (-i)) pNeg := by
  intro B H x dx d Q bd hx hp q
  unfold pNeg at hp
  split at hp
  · cases hp
    simp only [Rep] at hx
    subst hx
    exact ⟨_, rfl, q _ H (Same.refl H) (by simp only [Rep])⟩
  · cases hp
/-! list of a text -/
/-! sorted of texts -/
theorem ltCps_lt (a b : List Nat) : ltCps a b = decide (a < b) := by
  induction a generalizing b with
  | nil => cases b <;> simp [ltCps]
  | cons x a ih =>
    cases b with
    | nil => simp [ltCps]
    | cons y b =>
      simp only [ltCps, ih]
      by_cases h1 : x < y
      · simp [h1, List.cons_lt_cons_iff]
      · by_cases h2 : x = y
        · subst h2; simp [List.cons_lt_cons_iff]
        · simp [h1, h2, List.cons_lt_cons_iff]
theorem leS_tr {a b c : Str} (h : leS a b = true) (g : leS b c = true) : leS a c = true := by
  simp only [leS, Bool.not_eq_true', decide_eq_false_iff_not, List.not_lt] at *
  exact List.le_trans h g
theorem leS_tot (a b : Str) : (leS a b || leS b a) = true := by
  simp only [leS, Bool.or_eq_true, Bool.not_eq_true', decide_eq_false_iff_not, List.not_lt]
  exact List.le_total _ _
theorem leS_anti {a b : Str} (h : leS a b = true) (g : leS b a = true) : a = b := by
  simp only [leS, Bool.not_eq_true', decide_eq_false_iff_not, List.not_lt] at *
  have := List.le_antisymm h g
  obtain ⟨a⟩ := a
  obtain ⟨b⟩ := b
  have e : a = b := Array.toList_inj.mp this
  rw [e]
theorem rising_pw : ∀ {p : Str} {r : List Str}, risingS p r = true → (p :: r).Pairwise (fun a b => leS a b = true)
  | p, [], _ => by simp
  | p, x :: r, h => by
    unfold risingS at h
    rw [Bool.and_eq_true] at h
    have ih := rising_pw h.2
    have hpx : leS p x = true := by
      unfold leS
      rw [← ltCps_lt]
      exact h.1
    refine List.pairwise_cons.mpr ⟨fun y hy => ?_, ih⟩
    rcases List.mem_cons.mp hy with rfl | hy
    · exact hpx
    · exact leS_tr hpx ((List.pairwise_cons.mp ih).1 y hy)
theorem sorted_pw {xs : List Str} (h : sortedS xs = true) : xs.Pairwise (fun a b => leS a b = true) := by
  cases xs with
  | nil => simp
  | cons x r => exact rising_pw h
theorem pw_unique {le : Str → Str → Bool} (anti : ∀ a b, le a b = true → le b a = true → a = b) : ∀ {xs ys : List Str}, xs.Perm ys → xs.Pairwise (fun a b => le a b = true) → ys.Pairwise (fun a b => le a b = true) → xs = ys
  | [], ys, h, _, _ => (List.nil_perm.mp h).symm
  | x :: xs, [], h, _, _ => absurd h.length_eq (by simp)
  | x :: xs, y :: ys, h, h1, h2 => by
    have h1' := List.pairwise_cons.mp h1
    have h2' := List.pairwise_cons.mp h2
    have e : x = y := by
      have hx : x ∈ y :: ys := h.mem_iff.mp List.mem_cons_self
      have hy : y ∈ x :: xs := h.mem_iff.mpr List.mem_cons_self
      rcases List.mem_cons.mp hx with hx | hx
      · exact hx
      · rcases List.mem_cons.mp hy with hy | hy
        · exact hy.symm
        · exact anti x y (h1'.1 y hy) (h2'.1 x hx)
    subst e
    rw [pw_unique anti ((List.perm_cons x).mp h) h1'.2 h2'.2]
theorem sortS_eq {xs ys : List Str} (h : ys.Perm xs) (hs : sortedS ys = true) : ys = sortS xs := by
  refine pw_unique (le := leS) (fun a b => leS_anti) (h.trans (List.mergeSort_perm xs leS).symm) (sorted_pw hs) ?_
  exact List.pairwise_mergeSort (le := leS) (fun a b c h g => leS_tr h g) (fun a b => leS_tot a b) xs
theorem sortS_perm (xs : List Str) : (sortS xs).Perm xs := List.mergeSort_perm xs leS
theorem sortS_pw (xs : List Str) : (sortS xs).Pairwise (fun a b => leS a b = true) := List.pairwise_mergeSort (le := leS) (fun a b c h g => leS_tr h g) (fun a b => leS_tot a b) xs
def pSorted : List D → Option (List D)
  | [.list ds] => match dStrs ds with
    | some xs => if xs.length < 64 then some ((sortS xs).map .str) else none
    | none => none
  | _ => none
def pListS1 : List D → Option (List D)
  | [.str z] => if z.length ≤ sizeLine then some (z.cps.toList.map fun c => .str ⟨#[c]⟩) else none
  | _ => none
end
end Dl
set_option Elab.async false
set_option linter.all false
set_option maxRecDepth 100000
set_option maxHeartbeats 4000000
/-! all(x in y for x in e): e a text, y a captured name that holds a text -/
namespace Lc
open PySem PySem.Spec PyProof.Rows L2 GxR
section
variable {X : Cx} {pins : List (Addr × Obj)} {σ : L2.St} {H : Hp} {s : Shared}
end
end Lc
set_option Elab.async false
set_option linter.all false
set_option maxRecDepth 100000
set_option maxHeartbeats 4000000
/-! all / any (elt for tg in it if ..), anything in elt -/
namespace Dl
open PySem PySem.Spec PyProof.Rows L2 GxR
section
variable {X : Cx} {pins : List (Addr × Obj)} {σ : L2.St} {H : Hp} {s : Shared}
end
end Dl
set_option Elab.async false
set_option linter.all false
set_option maxRecDepth 100000
set_option maxHeartbeats 4000000
namespace Dl
open PySem PySem.Spec PyProof.Rows L2 GxR
section
variable {Y : Cx} {elt tg iter : Expr} {ifs : List Expr} {scope : Scope} {pos : Pos} {it : Addr} {fp : List Addr} {tn : Nat → Heap → Prop} {J : It} {g : TG} {tt : TT} {te : TE} {σw : L2.St} {vs : List Nat} {st : Bool} {Q : VK} {W : Nat → Nat → Hp → Prop} {g0 : Nat} {A' : Around}
end
end Dl
set_option Elab.async false
set_option linter.all false
set_option maxRecDepth 100000
set_option maxHeartbeats 4000000
namespace Dl
open PySem PySem.Spec PyProof.Rows L2 GxR
section
variable {Y : Cx} {σw : L2.St} {Q : VK} {g0 : Nat} {A : Around} {a : Addr} {go : Obj} {R : Result → Shared → Prop}
end
section
variable {X : Cx} {pins : List (Addr × Obj)} {σ : L2.St} {H : Hp} {s : Shared} {Q : VK} {c P : Addr} {elt tg iter : Expr} {ifs : List Expr} {scope : Scope} {gp : Pos} {own : List (Str × Nat)} {wi : TI} {g : TG} {tt : TT} {te : TE} {st : Bool}
end
end Dl
set_option Elab.async false
set_option linter.all false
set_option maxRecDepth 100000
set_option maxHeartbeats 4000000
namespace Dl
open PySem PySem.Spec PyProof.Rows L2 GxR
section
variable {X : Cx} {c P : Addr} {elt tg iter : Expr} {ifs : List Expr} {scope : Scope} {p gp pos : Pos} {own : List (Str × Nat)} {wi : TI} {g : TG} {tt : TT} {te : TE} {k : Nat}
end
/-! ### on data -/
/-- the table of code objects at P is among what is shared -/
structure ZTab {S : Type} (Z : Zk S) (P : Addr) : Prop where
  m : Z.M P
  tab : ∀ H s, Z.R H s → TabG H P
  put : ∀ H H' s, Z.R H s → Tabbed P H H' → Z.R H' s
section
variable {S : Type}
/-- all (st = false), any (st = true) -/
def quF (st : Bool) (t : Tg) (q : Et S) (f : Ev S) (ρ : Rho) : List D → S → Option (Bool × S)
  | [], s => some (!st, s)
  | d :: ds, s => match t d ρ with
    | none => none
    | some ρ1 => bnd (q ρ1 s) fun b s => if b = true then bnd (f ρ1 s) fun y s => bnd (put (asB y) s) fun k s => if k = st then some (st, s) else quF st t q f ρ ds s else quF st t q f ρ ds s
def cQu (st : Bool) (fi : Ea S) (t : Tg) (q : Et S) (f : Ev S) (vs : List Nat) : Ev S := fun ρ s => bnd (fi ρ s) fun ds s => bnd (quF st t q f (wipeR ρ vs) ds s) fun b s => some (.bool b, s)
variable {X : Cx} {G : Kx} {Z : Zk S} {W : List Nat} {f : Ev S}
end
end Dl
set_option Elab.async false
set_option linter.all false
set_option maxRecDepth 100000
set_option maxHeartbeats 4000000
/-! the deck that a law draws from -/
namespace Dl
open PySem PySem.Spec PyProof.Rows L2
/-- cells, seed, how many were drawn -/
abbrev DS := List Int × Int × Int
def DkS (d c : Addr) (H : Hp) (s : DS) : Prop := H d = some (.lst [.ref c, .int s.2.1, .int s.2.2]) ∧ H c = some (.lst (s.1.map V.int)) ∧ s.1.length ≤ 63
abbrev MD (d c : Addr) : Addr → Prop := fun b => b = d ∨ b = c
theorem lst_ne {c : Addr} {n s : Int} (cells : List Int) : HO.lst [.ref c, .int n, .int s] ≠ HO.lst (cells.map V.int) := by
  intro z
  have z := HO.lst.inj z
  cases cells with
  | nil => cases z
  | cons x r => cases z
def drawF (s : DS) (m : Int) : Int × DS := match s with
  | ([], n, k) => (((n + 7919 * (k + 1)) * 48271 % 2147483647 * ((n + 7919 * (k + 1)) * 48271 % 2147483647) + 69621 * (k + 1)) % 2147483629 * 16807 % 2147483647 % m, ([], n, k + 1))
  | (x :: r, n, k) => if 10 ^ 18 ≤ x then (x % m, (x / m :: r, n, k + 1)) else
      (((x % 2147483647 + 7919 * (k + 1)) * 48271 % 2147483647 * ((x % 2147483647 + 7919 * (k + 1)) * 48271 % 2147483647) + 69621 * ((x % 2147483647 + 7919 * (k + 1)) * 48271 % 2147483647)) % 2147483629 * 16807 % 2147483647 % m, (r, n, k + 1))
theorem drawF_range (s : DS) {m : Int} (hm : 0 < m) : 0 ≤ (drawF s m).1 ∧ (drawF s m).1 < m := by
  have fin : ∀ r : Int, 0 ≤ r % m ∧ r % m < m := fun r => ⟨Int.emod_nonneg _ (by omega), Int.emod_lt_of_pos _ hm⟩
  obtain ⟨cells, n, k⟩ := s
  unfold drawF
  split
  · exact fin _
  · split
    · exact fin _
    · exact fin _
def Zd (d c : Addr) : Zk DS where
  M := MD d c
  R := DkS d c
  dom := fun H s a h m => by
    obtain ⟨h1, h2, _⟩ := h
    rcases m with rfl | rfl
    · rw [h1]; simp
    · rw [h2]; simp
  loc := fun H H' s h k => ⟨(k d (.inl rfl)).trans h.1, (k c (.inr rfl)).trans h.2.1, h.2.2⟩
/-- a draw below m -/
def Fdraw : Fn DS := fun ds s => match ds with
  | [.dict [(.int 0, .none)], .int m] => if 0 < m ∧ m < 1073741824 then some (.int (drawF s m).1, (drawF s m).2) else none
  | _ => none
theorem fdraw {s : DS} {m : Int} (h : 0 < m) (h2 : m < 1073741824) : Fdraw [hnd 0, .int m] s = some (.int (drawF s m).1, (drawF s m).2) := by
  show (if 0 < m ∧ m < 1073741824 then some (PyData.int (drawF s m).1, (drawF s m).2) else none) = _
  rw [if_pos ⟨h, h2⟩]
end Dl
set_option Elab.async false
set_option linter.all false
set_option maxRecDepth 100000
set_option maxHeartbeats 4000000
/-! functions on data: what they come to -/
namespace Dl
open PySem PySem.Spec PyProof.Rows L2
def Ok {α S : Type} (o : Option (α × S)) (Q : α → S → Prop) : Prop := ∃ a s, o = some (a, s) ∧ Q a s
section
variable {α β S : Type}
theorem Ok.imp {o : Option (α × S)} {Q R : α → S → Prop} (h : Ok o Q) (k : ∀ a s, Q a s → R a s) : Ok o R := let ⟨a, s, e, q⟩ := h; ⟨a, s, e, k a s q⟩
theorem Ok.of {o : Option (α × S)} {Q : α → S → Prop} {a : α} {s : S} (e : o = some (a, s)) (q : Q a s) : Ok o Q := ⟨a, s, e, q⟩
theorem ok_bnd {f : Option (α × S)} {k : α → S → Option (β × S)} {Q : β → S → Prop} : Ok (bnd f k) Q ↔ Ok f fun a s => Ok (k a s) Q := by
  constructor
  · rintro ⟨b, s, e, q⟩
    obtain ⟨a, s1, h1, h2⟩ := bnd_some e
    exact ⟨a, s1, h1, b, s, h2, q⟩
  · rintro ⟨a, s1, rfl, b, s, h2, q⟩
    exact ⟨b, s, h2, q⟩
@[simp] theorem ok_some {a : α} {s : S} {Q : α → S → Prop} : Ok (some (a, s)) Q ↔ Q a s := by
  constructor
  · rintro ⟨b, s', e, q⟩
    cases e
    exact q
  · intro q
    exact ⟨a, s, rfl, q⟩
@[simp] theorem ok_none {Q : α → S → Prop} : Ok (none : Option (α × S)) Q ↔ False := by
  constructor
  · rintro ⟨b, s', e, q⟩
    cases e
  · exact False.elim
theorem ok_put {o : Option α} {s : S} {Q : α → S → Prop} : Ok (put o s) Q ↔ ∃ a, o = some a ∧ Q a s := by
  constructor
  · rintro ⟨b, s', e, q⟩
    obtain ⟨h1, rfl⟩ := put_some e
    exact ⟨b, h1, q⟩
  · rintro ⟨a, rfl, q⟩
    exact ⟨a, s, rfl, q⟩
/-! how combinators come to something -/
variable {ρ : Rho} {s : S} {f g : Ev S} {fa : Ea S}
theorem k_qAnd {q r : Et S} {Q : Bool → S → Prop} (h : Ok (q ρ s) fun b s => if b = true then Ok (r ρ s) Q else Q false s) : Ok (qAnd q r ρ s) Q := by
  unfold qAnd
  rw [ok_bnd]
  refine h.imp fun b s h => ?_
  cases b <;> simpa using h
/-! statements -/
variable {F F' : Sv S} {Q : Rs → S → Prop}
theorem k_seq (h : Ok (F ρ s) fun r s => match r with | .nx ρ' => Ok (F' ρ' s) Q | r => Q r s) : Ok (sSeq F F' ρ s) Q := by
  obtain ⟨r, s', e, h⟩ := h
  unfold sSeq
  rw [e]
  cases r with
  | nx ρ' => exact h
  | rt d => exact ⟨_, _, rfl, h⟩
  | bk d => exact ⟨_, _, rfl, h⟩
  | ct d => exact ⟨_, _, rfl, h⟩
theorem k_set {i : Nat} (h : Ok (f ρ s) fun d s => Q (.nx (ρ.set i (some d))) s) : Ok (sSet i f ρ s) Q := by
  unfold sSet
  rw [ok_bnd]
  exact h.imp fun x s h => ok_some.mpr h
theorem k_own {i : Nat} (h : Ok (fa ρ s) fun d s => Q (.nx (ρ.set i (some (.list d)))) s) : Ok (sOwn i fa ρ s) Q := by
  unfold sOwn
  rw [ok_bnd]
  exact h.imp fun x s h => ok_some.mpr h
theorem k_ret (h : Ok (f ρ s) fun d s => Q (.rt d) s) : Ok (sRet f ρ s) Q := by
  unfold sRet
  rw [ok_bnd]
  exact h.imp fun x s h => ok_some.mpr h
theorem k_sIf {q : Et S} (h : Ok (q ρ s) fun b s => if b = true then Ok (F ρ s) Q else Ok (F' ρ s) Q) : Ok (sIf q F F' ρ s) Q := by
  unfold sIf
  rw [ok_bnd]
  refine h.imp fun b s h => ?_
  cases b <;> simpa using h
theorem k_nx (h : Q (.nx ρ) s) : Ok (sNx ρ s) Q := ⟨_, _, rfl, h⟩
theorem k_asg {t : Tg} (h : Ok (f ρ s) fun d s => ∃ ρ', t d ρ = some ρ' ∧ Q (.nx ρ') s) : Ok (sAsg f t ρ s) Q := by
  unfold sAsg
  rw [ok_bnd]
  refine h.imp fun x s ⟨ρ', e, h⟩ => ?_
  rw [e]
  exact ok_some.mpr h
theorem k_app {i : Nat} {ds : List D} (hd : ρ[i]? = some (some (.list ds))) (hl : ds.length < sizeLine) (h : Ok (f ρ s) fun d s => Q (.nx (ρ.set i (some (.list (ds ++ [d]))))) s) : Ok (sApp i f ρ s) Q := by
  unfold sApp
  rw [hd]
  simp only
  rw [ok_bnd]
  refine h.imp fun x s h => ?_
  rw [if_pos hl]
  exact ok_some.mpr h
theorem k_loop {t : Tg} {body : Sv S} (Iv : Nat → Rho → S → Prop) : ∀ (ds : List D) (i : Nat) (ρ : Rho) (s : S), Iv i ρ s →
    (∀ j d ρ s, ds[j]? = some d → Iv (i + j) ρ s → ∃ ρ1, t d ρ = some ρ1 ∧ Ok (body ρ1 s) fun r s => match r with | .nx ρ => Iv (i + j + 1) ρ s | .ct ρ => Iv (i + j + 1) ρ s | .bk ρ => Q (.nx ρ) s | .rt d => Q (.rt d) s) →
    (∀ ρ s, Iv (i + ds.length) ρ s → Q (.nx ρ) s) → Ok (loopF t body ds ρ s) Q
  | [], i, ρ, s, h, _, e => ⟨_, _, rfl, e ρ s h⟩
  | d :: ds, i, ρ, s, h, k, e => by
    obtain ⟨ρ1, h1, r, s1, h2, h3⟩ := k 0 d ρ s rfl h
    unfold loopF
    rw [h1]
    simp only
    rw [h2]
    have go : ∀ ρ s, Iv (i + 1) ρ s → Ok (loopF t body ds ρ s) Q := fun ρ s h => k_loop Iv ds (i + 1) ρ s h (fun j d' ρ s hd hI => by
      have := k (j + 1) d' ρ s (by simpa using hd) (by rw [show i + (j + 1) = i + 1 + j by omega]; exact hI)
      rw [show i + (j + 1) + 1 = i + 1 + j + 1 by omega] at this
      exact this) (fun ρ s hI => e ρ s (by rw [List.length_cons, show i + (ds.length + 1) = i + 1 + ds.length by omega]; exact hI))
    cases r with
    | nx ρ' => exact go ρ' s1 h3
    | ct ρ' => exact go ρ' s1 h3
    | bk ρ' => exact ⟨_, _, rfl, h3⟩
    | rt d => exact ⟨_, _, rfl, h3⟩
theorem k_for {fi : Ea S} {t : Tg} {body : Sv S} (h : Ok (fi ρ s) fun ds s => ∃ Iv : Nat → Rho → S → Prop, Iv 0 ρ s ∧
    (∀ j d ρ s, ds[j]? = some d → Iv j ρ s → ∃ ρ1, t d ρ = some ρ1 ∧ Ok (body ρ1 s) fun r s => match r with | .nx ρ => Iv (j + 1) ρ s | .ct ρ => Iv (j + 1) ρ s | .bk ρ => Q (.nx ρ) s | .rt d => Q (.rt d) s) ∧
    (∀ ρ s, Iv ds.length ρ s → Q (.nx ρ) s)) : Ok (sFor fi t body ρ s) Q := by
  unfold sFor
  rw [ok_bnd]
  refine h.imp fun ds s ⟨Iv, h0, h1, h2⟩ => ?_
  exact k_loop Iv ds 0 ρ s h0 (fun j d ρ s hd hI => by rw [Nat.zero_add] at *; exact h1 j d ρ s hd hI) (fun ρ s hI => h2 ρ s (by rw [Nat.zero_add] at hI; exact hI))
theorem k_fn {n : Nat} {ds : List D} {Q : D → S → Prop} (h : Ok (F (startR n ds) s) fun r s => match r with | .rt d => Q d s | .nx _ => Q .none s | _ => False) : Ok (fnD n F ds s) Q := by
  obtain ⟨r, s', e, h⟩ := h
  unfold fnD
  rw [e]
  cases r with
  | rt d => exact ⟨_, _, rfl, h⟩
  | nx ρ => exact ⟨_, _, rfl, h⟩
  | bk _ => exact h.elim
  | ct _ => exact h.elim
/-- a comprehension by an invariant of what is made so far -/
theorem k_comp {t : Tg} {q : Et S} (P : Nat → List D → S → Prop) {Q : List D → S → Prop} : ∀ (ds : List D) (i : Nat) (acc : List D) (s : S), P i acc s →
    (∀ j d acc s, ds[j]? = some d → P (i + j) acc s → ∃ ρ1, t d ρ = some ρ1 ∧ Ok (q ρ1 s) fun b s => if b = true then Ok (f ρ1 s) fun y s => P (i + j + 1) (acc ++ [y]) s else P (i + j + 1) acc s) →
    (∀ acc s, P (i + ds.length) acc s → Q acc s) → Ok (compF t q f ρ ds s) fun ys s => Q (acc ++ ys) s
  | [], i, acc, s, h, _, e => ⟨_, _, rfl, by show Q (acc ++ []) s; rw [List.append_nil]; exact e acc s h⟩
  | d :: ds, i, acc, s, h, k, e => by
    obtain ⟨ρ1, h1, b, s1, h2, h3⟩ := k 0 d acc s rfl h
    unfold compF
    rw [h1]
    simp only
    rw [h2, bnd_of]
    have go : ∀ acc s, P (i + 1) acc s → Ok (compF t q f ρ ds s) fun ys s => Q (acc ++ ys) s := fun acc s h => k_comp P ds (i + 1) acc s h (fun j d' acc s hd hI => by
      have := k (j + 1) d' acc s (by simpa using hd) (by rw [show i + (j + 1) = i + 1 + j by omega]; exact hI)
      rw [show i + (j + 1) + 1 = i + 1 + j + 1 by omega] at this
      exact this) (fun acc s hI => e acc s (by rw [List.length_cons, show i + (ds.length + 1) = i + 1 + ds.length by omega]; exact hI))
    cases b with
    | false => exact go acc s1 (by simpa using h3)
    | true =>
      simp only [if_true] at h3 ⊢
      obtain ⟨y, s2, h4, h5⟩ := h3
      rw [h4, bnd_of, ok_bnd]
      refine (go (acc ++ [y]) s2 h5).imp fun ys s hq => ok_some.mpr ?_
      rw [List.append_assoc] at hq
      exact hq
theorem k_lc {fi : Ea S} {t : Tg} {q : Et S} {vs : List Nat} {Q : List D → S → Prop} (h : Ok (fi ρ s) fun ds s => ds.length ≤ sizeLine ∧ ∃ P : Nat → List D → S → Prop, P 0 [] s ∧
    (∀ j d acc s, ds[j]? = some d → P j acc s → ∃ ρ1, t d (wipeR ρ vs) = some ρ1 ∧ Ok (q ρ1 s) fun b s => if b = true then Ok (f ρ1 s) fun y s => P (j + 1) (acc ++ [y]) s else P (j + 1) acc s) ∧
    (∀ acc s, P ds.length acc s → Q acc s)) : Ok (lcF fi t q f vs ρ s) Q := by
  unfold lcF
  rw [ok_bnd]
  refine h.imp fun ds s ⟨hl, P, h0, h1, h2⟩ => ?_
  rw [if_pos hl]
  have := k_comp (ρ := wipeR ρ vs) (t := t) (q := q) (f := f) P (Q := Q) ds 0 [] s h0 (fun j d acc s hd hI => by rw [Nat.zero_add] at *; exact h1 j d acc s hd hI) (fun acc s hI => h2 acc s (by rw [Nat.zero_add] at hI; exact hI))
  simpa using this
end
/-! the same as equations, for simp -/
section
variable {α β S : Type} {ρ : Rho} {s : S} {f g : Ev S} {fa : Ea S} {F F' : Sv S} {Q : Rs → S → Prop}
theorem e_seq : Ok (sSeq F F' ρ s) Q ↔ Ok (F ρ s) fun r s => match r with | .nx ρ' => Ok (F' ρ' s) Q | r => Q r s := by
  refine ⟨fun h => ?_, k_seq⟩
  obtain ⟨r, s', e, h⟩ := h
  unfold sSeq at e
  split at e
  · rename_i ρ1 s1 e1
    exact ⟨_, _, e1, _, _, e, h⟩
  · rename_i hn
    refine ⟨r, s', e, ?_⟩
    cases r with
    | nx ρ' => exact absurd e (hn ρ' s')
    | rt d => exact h
    | bk d => exact h
    | ct d => exact h
theorem e_fn {n : Nat} {ds : List D} {Q : D → S → Prop} : Ok (fnD n F ds s) Q ↔ Ok (F (startR n ds) s) fun r s => match r with | .rt d => Q d s | .nx _ => Q .none s | _ => False := by
  refine ⟨fun h => ?_, k_fn⟩
  obtain ⟨r, s', e, h⟩ := h
  unfold fnD at e
  split at e
  · rename_i d s1 e1
    cases e
    exact ⟨_, _, e1, h⟩
  · rename_i d s1 e1
    cases e
    exact ⟨_, _, e1, h⟩
  · cases e
theorem e_asg {t : Tg} : Ok (sAsg f t ρ s) Q ↔ Ok (f ρ s) fun d s => ∃ ρ', t d ρ = some ρ' ∧ Q (.nx ρ') s := by
  refine ⟨fun h => ?_, k_asg⟩
  unfold sAsg at h
  rw [ok_bnd] at h
  refine h.imp fun x s h => ?_
  split at h
  · exact (ok_none.mp h).elim
  · rename_i ρ' e
    exact ⟨ρ', e, ok_some.mp h⟩
end
section
variable {S : Type} {ρ : Rho} {s : S} {f : Ev S} {Q : Rs → S → Prop}
/-- a for: what is walked is told by P -/
theorem k_forP {fi : Ea S} {t : Tg} {body : Sv S} (P : List D → S → Prop) (h : Ok (fi ρ s) P) (k : ∀ ds s, P ds s → ∃ Iv : Nat → Rho → S → Prop, Iv 0 ρ s ∧
    (∀ j d ρ s, ds[j]? = some d → Iv j ρ s → ∃ ρ1, t d ρ = some ρ1 ∧ Ok (body ρ1 s) fun r s => match r with | .nx ρ => Iv (j + 1) ρ s | .ct ρ => Iv (j + 1) ρ s | .bk ρ => Q (.nx ρ) s | .rt d => Q (.rt d) s) ∧
    (∀ ρ s, Iv ds.length ρ s → Q (.nx ρ) s)) : Ok (sFor fi t body ρ s) Q := k_for (h.imp k)
theorem k_lcP {fi : Ea S} {t : Tg} {q : Et S} {vs : List Nat} {Q : List D → S → Prop} (P : List D → S → Prop) (h : Ok (fi ρ s) P) (k : ∀ ds s, P ds s → ds.length ≤ sizeLine ∧ ∃ P : Nat → List D → S → Prop, P 0 [] s ∧
    (∀ j d acc s, ds[j]? = some d → P j acc s → ∃ ρ1, t d (wipeR ρ vs) = some ρ1 ∧ Ok (q ρ1 s) fun b s => if b = true then Ok (f ρ1 s) fun y s => P (j + 1) (acc ++ [y]) s else P (j + 1) acc s) ∧
    (∀ acc s, P ds.length acc s → Q acc s)) : Ok (lcF fi t q f vs ρ s) Q := k_lc (h.imp k)
end
/-! draws -/
theorem k_draw {s : DS} {m : Int} {Q : D → DS → Prop} (h : 0 < m) (h2 : m < 1073741824) (q : ∀ (r : Int) s', 0 ≤ r → r < m → Q (.int r) s') : Ok (Fdraw [hnd 0, .int m] s) Q :=
  ⟨_, _, fdraw h h2, q _ _ (drawF_range s h).1 (drawF_range s h).2⟩
/-- the n-th of a list, told by an int in its bounds -/
theorem atI_lt {α : Type} {xs : List α} {r : Int} (h0 : 0 ≤ r) (h : r < xs.length) : ∃ v, v ∈ xs ∧ xs[r.toNat]? = some v ∧ atI xs r = some v := by
  have hn : r.toNat < xs.length := by omega
  refine ⟨xs[r.toNat], List.getElem_mem hn, List.getElem?_eq_getElem hn, ?_⟩
  have := atI_nat (xs := xs) (j := r.toNat) (List.getElem?_eq_getElem hn)
  rw [show ((r.toNat : Nat) : Int) = r by omega] at this
  exact this
end Dl
set_option Elab.async false
set_option linter.all false
set_option maxRecDepth 100000
set_option maxHeartbeats 4000000
/-! the end of a law one of whose defs has a generator expression -/
namespace Lc
open PySem PySem.Spec PyProof.Rows L2
theorem walk_tab {l : PySem.W.OpenLaw} {n k : Nat} {q : Program} {loose : List Str} {XP : (Str → Option Value) → Heap → Prop} {YP : World → Heap → Prop} {d : DefRec} {K : Params → PySem.W.Frag} {CX : World → CXT} {x : Str}
    (hn : l.most = some n) (hn2 : n ≤ sizeLine) (hdf : d.params.defaults = []) (hr : Room k callerA) (hY : ∀ (w : World) (h : Heap), YP w h → (K w.params).In h)
    (F : ∀ (w : World) (mean : ExcName → Option Value) (mg mb : Str → Option Value) (fa : Addr) (h : Heap), Top q (PySem.W.looseW q loose) mean mg mb h → (K w.params).In h → mg d.name = some (.ref fa) → LamX.LawAtS l w (K w.params) (CX w) k n x mg fa h)
    (hCX : ∀ (w : World) (H : Hp) (s : Shared) (e : Value) (s' : Shared), CX w [] H s (fun _ _ _ => False) e s' → False) : PySem.W.WalkO q loose XP YP l.row.toRowW d [] (fun f vs => PySem.call f vs) := by
  refine Att.attach_callB hn hdf fun w sa sb mg mb fa o pm cd doc a vs ns G Y ho hd hcd hmg hobj hints hlen hbits hg => ?_
  obtain ⟨fd, cs, sp, hT, nT, C, hb, hsp, hF⟩ := F w _ mg mb fa _ G.T (hY w _ Y) hmg
  exact LamX.law_callTs (hY w _ Y) G.T.g G.T.b G.T.builtins G.T.nolimit hg hT nT C G.T.bmain hobj hints (Nat.le_trans hlen hn2) hr hF hb (fun H hH hS => hsp H a ns hlen hbits hH hS) fun H e s' => hCX w H sb e s'
end Lc
set_option Elab.async false
set_option linter.all false
set_option maxRecDepth 100000
set_option maxHeartbeats 4000000
namespace Dl
open PySem PySem.Spec PyProof.Rows L2
section
variable {P : Program} {w : World} {K : PySem.W.Frag} {mg : Str → Option Value} {base : Heap} {f : Addr} {fd : FuncData}
/-- slot 0 the script, slot 1 the deck -/
def lawR (n : Nat) : Rho := none :: some (hnd 0) :: List.replicate n none
end
end Dl
set_option Elab.async false
set_option linter.all false
set_option maxRecDepth 100000
set_option maxHeartbeats 4000000
namespace Dl
open PySem PySem.Spec PyProof.Rows L2 GxR
section
variable {S : Type} {X : Cx} {G : Kx} {Z : Zk S} {W : List Nat} {f : Ev S} {c T : Addr} {elt tg iter : Expr} {ifs : List Expr} {scope : Scope} {p gp pos : Pos} {own : List (Str × Nat)} {fi : Ea S} {t : Tg} {us : List Nat} {q : Et S} {tt : TT} {k : Nat}
end
/-- a def whose code object is known -/
structure FunC (K : PySem.W.Frag) (x qual : Str) (st : Stmt) (f : Addr) (fd : FuncData) (c : Addr) : Prop where
  ex : ∃ (oc : Value) (od : Option Addr) (kV doc pm : Value) (an : Option Addr) (ct : Value) (osl : Array (Option Value)),
    fd = PySem.W.fnOf x qual (defArgs st) (defBody st) (defScope st) .none kV doc pm an (.ref c) ct ∧ K.lookup f = some ⟨oc, od, .func fd, osl⟩ ∧ PySem.W.codeIn K (.ref c) qual = true
section
variable {S : Type} {P : Program} {w : World} {K : PySem.W.Frag} {mg : Str → Option Value} {base : Heap} {G : Kx} {Z : Zk S} {W : List Nat} {F : Sv S}
end
/-! ### the deck and the tables -/
/-- the tables at Ts are shared, too -/
def Zk.tb {S : Type} (Z : Zk S) (Ts : List Addr) (hne : ∀ H s a, Z.R H s → Z.M a → ∀ ps, H a ≠ some (.tbl ps)) : Zk S where
  M := fun a => Z.M a ∨ a ∈ Ts
  R := fun H s => Z.R H s ∧ ∀ T ∈ Ts, TabG H T
  dom := fun H s a h m => m.elim (Z.dom H s a h.1) fun m => by
    obtain ⟨ps, e, _⟩ := h.2 a m
    rw [e]
    simp
  loc := fun H H' s h k => ⟨Z.loc H H' s h.1 fun a m => k a (.inl m), fun T m => by
    obtain ⟨ps, e, t⟩ := h.2 T m
    exact ⟨ps, (k T (.inr m)).trans e, t⟩⟩
theorem zd_ne {d c : Addr} (H : Hp) (s : DS) (a : Addr) (h : (Zd d c).R H s) (m : (Zd d c).M a) (ps : Array Value) : H a ≠ some (.tbl ps) := by
  obtain ⟨h1, h2, _⟩ := h
  rcases m with rfl | rfl
  · rw [h1]; intro z; cases z
  · rw [h2]; intro z; cases z
def Zt (d c : Addr) (Ts : List Addr) : Zk DS := (Zd d c).tb Ts zd_ne
section
variable {P : Program} {w : World} {K : PySem.W.Frag} {mg : Str → Option Value} {base : Heap} {f : Addr} {fd : FuncData}
/-- what keeps the tables, by what keeps the deck -/
theorem fn_zt {d c : Addr} {Ts : List Addr} {k n : Nat} {ps : List Str} {F : Fn DS} {hd : Nat → Addr → Prop} (h : FnOk P w K mg base CX0 k f fd ps (spD ⟨K, hd⟩ (Zd d c) n F)) : FnOk P w K mg base CX0 k f fd ps (spD ⟨K, hd⟩ (Zt d c Ts) n F) := by
  have key : ∀ vs H Q E, spD ⟨K, hd⟩ (Zt d c Ts) n F vs H Q E → spD ⟨K, hd⟩ (Zd d c) n F vs H Q E := fun vs H Q E ⟨B, ds, s, x, s', h1, bd, mb, h2, R, hF, q⟩ =>
    ⟨B, ds, s, x, s', h1, bd, fun a m => mb a (.inl m), h2, R.1, hF, fun v H' f1 r1 R1 => q v H' (fun b o e => by
      obtain ⟨o', e1, e2⟩ := f1 b o e
      exact ⟨o', e1, fun n9 => e2 fun m => n9 (.inl m)⟩) r1 ⟨R1, fun T m => by
        obtain ⟨ps, e, t⟩ := R.2 T m
        exact ⟨ps, f1.at e fun m2 => zd_ne H s T R.1 m2 ps e, t⟩⟩⟩
  exact ⟨fun vs H Q E z => h.len vs H Q E (key _ _ _ _ z), fun A outer s H args us vs Q E hr he hb hv hsp => h.run A outer s H args us vs Q E hr he hb hv (key _ _ _ _ hsp)⟩
def spLawT (K : PySem.W.Frag) (Ts : List Addr) : Sp := fun vs H Q _ => ∃ (a : Addr) (ns : List Int), vs = [.ref a] ∧ SqL K H a (ns.map V.int) ∧ (∀ T ∈ Ts, TabG H T) ∧ ∀ H', Q (.bl true) H'
end
end Dl
set_option Elab.async false
set_option linter.all false
set_option maxRecDepth 100000
set_option maxHeartbeats 4000000
namespace Dl
open PySem PySem.Spec PyProof.Rows L2
def pMax2 : List D → Option D
  | [.int i, .int j] => some (.int (if j > i then j else i))
  | _ => none
section
variable {S : Type} {X : Cx} {G : Kx} {Z : Zk S} {W : List Nat} {f g : Ev S} {a b : Expr} {p p' pos pos' : Pos}
end
end Dl
set_option Elab.async false
set_option linter.all false
set_option maxRecDepth 100000
set_option maxHeartbeats 4000000
/-! zip of two lists, of two tuples -/
namespace Dl
open PySem PySem.Spec PyProof.Rows L2
def zipD : List D → List D → List D
  | x :: xs, y :: ys => pairD x y :: zipD xs ys
  | _, _ => []
def pZip : List D → Option (List D)
  | [.list a, .list b] => some (zipD a b)
  | [.tuple a, .tuple b] => some (zipD a b)
  | _ => none
section
variable {S : Type} {X : Cx} {G : Kx} {Z : Zk S} {W : List Nat} {fa : Ea S} {e e2 : Expr} {p pos : Pos}
end
end Dl
set_option Elab.async false
set_option linter.all false
set_option maxRecDepth 100000
set_option maxHeartbeats 4000000
/-! sets of texts on data -/
namespace Dl
open PySem PySem.Spec PyProof.Rows L2 Ds
theorem perm_nd : ∀ (l ks : List Str), l.Nodup → ks.Nodup → (∀ x, x ∈ l ↔ x ∈ ks) → l.Perm ks
  | [], ks, _, _, h => by
    cases ks with
    | nil => exact List.Perm.refl _
    | cons k ks => exact absurd ((h k).mpr List.mem_cons_self) (by simp)
  | a :: l, ks, n1, n2, h => by
    obtain ⟨m1, m2⟩ := List.nodup_cons.mp n1
    have hp := List.perm_cons_erase ((h a).mp List.mem_cons_self)
    have n3 := List.nodup_cons.mp (hp.nodup_iff.mp n2)
    refine List.Perm.trans (List.Perm.cons a (perm_nd l (ks.erase a) m2 n3.2 fun x => ?_)) hp.symm
    constructor
    · intro hx
      have hxa : x ≠ a := fun z => m1 (z ▸ hx)
      exact (List.mem_erase_of_ne hxa).mpr ((h x).mp (List.mem_cons_of_mem _ hx))
    · intro hx
      have hxa : x ≠ a := fun z => n3.1 (z ▸ hx)
      rcases List.mem_cons.mp ((h x).mpr ((List.mem_erase_of_ne hxa).mp hx)) with z | z
      · exact absurd z hxa
      · exact z
/-- a reading whose value is a new set of texts -/
abbrev Es (S : Type) := Rho → S → Option (List Str × S)
def asStrs : D → Option (List Str)
  | .list ds => match dStrs ds with
    | some xs => if xs.length ≤ 1000 then some xs else none
    | none => none
  | .tuple ds => match dStrs ds with
    | some xs => if xs.length ≤ 1000 then some xs else none
    | none => none
  | _ => none
/-- set(e) -/
def xSet {S : Type} (f : Ev S) : Es S := fun ρ s => bnd (f ρ s) fun d s => put ((asStrs d).map gath) s
/-- x & y -/
def xAnd {S : Type} (f g : Es S) : Es S := fun ρ s => bnd (f ρ s) fun a s => bnd (g ρ s) fun b s => some (a.filter (fun k => decide (k ∈ b)), s)
/-- sorted(x) -/
def aSortX {S : Type} (f : Es S) : Ea S := fun ρ s => bnd (f ρ s) fun l s => some ((sortS l).map .str, s)
/-- len(x) -/
def cLenX {S : Type} (f : Es S) : Ev S := fun ρ s => bnd (f ρ s) fun l s => some (.int l.length, s)
section
variable {S : Type} {X : Cx} {G : Kx} {Z : Zk S} {W : List Nat} {f g : Ev S} {F1 F2 : Es S} {a b c e tg : Expr} {es : List Expr} {pos p : Pos} {x : Str}
end
theorem plus_nd {l : List Str} (h : l.Nodup) (k : Str) : (plus l k).Nodup := by
  unfold plus
  split
  · exact h
  · exact List.nodup_cons.mpr ⟨by assumption, h⟩
theorem plus_mem {l : List Str} {k x : Str} : x ∈ plus l k ↔ x = k ∨ x ∈ l := by
  unfold plus
  split
  · constructor
    · exact .inr
    · rintro (rfl | h)
      · assumption
      · exact h
  · exact List.mem_cons
theorem gath_go : ∀ (xs l : List Str), l.Nodup → (xs.foldl plus l).Nodup ∧ ∀ x, x ∈ xs.foldl plus l ↔ x ∈ xs ∨ x ∈ l
  | [], l, h => ⟨h, fun x => by simp⟩
  | k :: xs, l, h => by
    obtain ⟨h1, h2⟩ := gath_go xs (plus l k) (plus_nd h k)
    refine ⟨h1, fun x => ?_⟩
    rw [List.foldl_cons, h2 x, plus_mem, List.mem_cons]
    constructor
    · rintro (h | h | h)
      · exact .inl (.inr h)
      · exact .inl (.inl h)
      · exact .inr h
    · rintro ((h | h) | h)
      · exact .inr (.inl h)
      · exact .inl h
      · exact .inr (.inr h)
theorem gath_nd (xs : List Str) : (gath xs).Nodup := (gath_go xs [] List.nodup_nil).1
theorem gath_mem {xs : List Str} {x : Str} : x ∈ gath xs ↔ x ∈ xs := by
  rw [show gath xs = xs.foldl plus [] from rfl, (gath_go xs [] List.nodup_nil).2 x]
  simp
end Dl
set_option Elab.async false
set_option linter.all false
set_option maxRecDepth 100000
set_option maxHeartbeats 4000000
/-! t[::-1] of a tuple, of a list, on data -/
namespace Ds
open PySem PySem.Spec PyProof.Rows L2
section
variable {prog : Program} {w : World} {A : Around} {E : Value → Shared → Prop} {s : Shared}
end
end Ds
namespace Dl
open PySem PySem.Spec PyProof.Rows L2 Ds
end Dl
set_option Elab.async false
set_option linter.all false
set_option maxRecDepth 100000
set_option maxHeartbeats 4000000
namespace Dl
open PySem PySem.Spec PyProof.Rows L2 Ds
section
variable {S : Type} {X : Cx} {G : Kx} {Z : Zk S} {W : List Nat} {f g : Ev S} {a b c e tg : Expr} {es : List Expr} {pos p : Pos} {x : Str}
def pNotB : D → D → Option D
  | .bool a, .bool b => some (.bool (!decide (a = b)))
  | _, _ => none
end
end Dl
set_option Elab.async false
set_option linter.all false
set_option maxRecDepth 100000
set_option maxHeartbeats 4000000
/-! zip of a text and a tuple -/
namespace Dl
open PySem PySem.Spec PyProof.Rows L2
/-- the signs of a text -/
def signsD (x : Str) : List D := x.cps.toList.map fun c => .str ⟨#[c]⟩
def pZipS : List D → Option (List D)
  | [.str x, .tuple b] => some (zipD (signsD x) b)
  | _ => none
section
variable {S : Type} {X : Cx} {G : Kx} {Z : Zk S} {W : List Nat} {fa : Ea S} {e e2 : Expr} {p pos : Pos}
end
end Dl
set_option Elab.async false
set_option linter.all false
set_option maxRecDepth 100000
set_option maxHeartbeats 4000000
namespace Lc
open PySem PySem.W PySem.Calls PyProof.Rows PyProof.V PySem.Spec L2 RT
/-! ### list(reversed(x)), x a list: a new list -/
section
variable {prog : Program} {w : World} {A : Around} {E : Value → Shared → Prop} {s : Shared}
/-- the items of the reversed list -/
abbrev RevItems (items : Array Value) : Nat → Value → Prop := fun i v => items[items.size - 1 - i]? = some v
theorem ext_rev {S it l : Addr} {items : Array Value} {res : Value} {k : Nat} {R : Result → Shared → Prop} (hh : A.handled = none) (hit : s.heap.IsRevIter it l ((items.size : Int) - 1))
    (hl : s.heap.IsList l items) (hne : l ≠ it) (hn : items.size ≤ sizeLine) (hSi : S ≠ it) (hSl : S ≠ l) (hS : s.heap.get? S = some { cls := .type "list", data := .seq #[] k })
    (hR : ∀ (h' : Heap) (tk : Nat) (acc : Array Value) (c : Nat), (∀ b o, b ≠ S → b ≠ it → s.heap.get? b = some o → h'.get? b = some o) →
      h'.get? S = some { cls := .type "list", dict := none, data := .seq acc c, slots := #[] } → ItemsOf (RevItems items) acc items.size → R (.ok (.ret res)) { s with heap := h', toks := tk }) :
    wpAny (model prog w) A.in1 (Builtin.List.listExtendWith (.ref S) (.ref it) res)
      (fun fin s' => match fin with
        | .done f => R (.ok f) s'
        | .again c' => c'.quiet = true ∧ codeAny (model prog w) A c' R s')
      (fun e s' => R (.error e) s') s := by
  have W := (Walks.listRev (prog := prog) (w := w) (A := A.in1) hh it l hne items).toS
  have hSf : S ∉ [it, l] := by
    intro h
    rcases List.mem_cons.mp h with e | h
    · exact hSi e
    · exact hSl (List.mem_singleton.mp h)
  have hT : s.TypeIs (.ref it) "list_reverseiterator" := Heap.IsRevIter.typeIs hit
  have same : Builtin.List.listSameRef (.ref S) (.ref it) = false := by
    unfold Builtin.List.listSameRef
    simp [hSi]
  unfold Builtin.List.listExtendWith
  refine wpAny_bind (wpAny_typeOf hT ?_)
  rw [if_neg (by rw [same]; decide)]
  refine wpAny_bind (wpAny_pyIter_revIter hit ?_)
  refine wpAny_bind (wpAny_holding ?_)
  unfold Builtin.List.listLengthHint
  refine wpAny_bind (wpAny_specialOf hT nolen_lri ?_)
  show wpAny _ _ (specialOf (Value.ref it) (Str.ofString "__length_hint__") >>= _) _ _ _
  refine wpAny_bind (wpAny_specialOf hT hint_lri ?_)
  generalize hq : ("list_reverseiterator.__length_hint__" : String) = q0
  wp_delta
  rw [show splitId q0 = some ("list_reverseiterator", "__length_hint__") by subst hq; decide +kernel]
  subst hq
  refine wpAny_bind (wpAny_isInstance (b := true) hT (by rw [isSubtype_type]; kernel_rfl) ?_)
  refine wpAny_pure ?_
  rw [if_neg (by decide)]
  refine wpAny_pure ⟨plainId_quiet F.plain_extend_loop _, ?_⟩
  have start : s.heap.IsRevIter it l (((items.size : Nat) : Int) - 1 - ((0 : Nat) : Int)) := by
    rw [show ((items.size : Nat) : Int) - 1 - ((0 : Nat) : Int) = (items.size : Int) - 1 by omega]
    exact hit
  refine codeAny_extend_loopS W hn _ hSf _ items.size 0 _ _ _ rfl (Nat.zero_le _) ⟨Nat.zero_le _, start, hl⟩ hS (ItemsOf.nil _) fun s' acc' c' hm hS' hacc => ?_
  rw [Moved.eq_with hm]
  refine hR s'.heap s'.toks acc' c' (fun b o b1 b2 e => hm.heap b o (fun z => ?_) e) hS' hacc
  rcases List.mem_cons.mp z with z | z
  · exact b1 z
  · exact b2 (List.mem_singleton.mp z)
theorem call_list_rev {it l : Addr} {items : Array Value} {Q : Value → Shared → Prop} (hh : A.handled = none) (hit : s.heap.IsRevIter it l ((items.size : Int) - 1)) (hl : s.heap.IsList l items)
    (hne : l ≠ it) (hn : items.size ≤ sizeLine)
    (hQ : ∀ (h' : Heap) (tk : Nat) (acc : Array Value) (c : Nat), (∀ b o, b ≠ it → s.heap.get? b = some o → h'.get? b = some o) →
      h'.get? s.heap.objs.size = some { cls := .type "list", dict := none, data := .seq acc c, slots := #[] } → ItemsOf (RevItems items) acc items.size → Q (.ref s.heap.objs.size) { s with heap := h', toks := tk }) :
    wpAny (model prog w) A (call (.type "list") [.ref it]) Q E s := by
  obtain ⟨oi, hoi, _⟩ := id hit
  obtain ⟨ol, hol, _⟩ := id hl
  have gi : s.heap.objs.size ≠ it := Nat.ne_of_gt (Heap.lt_size hoi)
  have gl : s.heap.objs.size ≠ l := Nat.ne_of_gt (Heap.lt_size hol)
  refine callType_codes (Q₁ := fun obj s₁ => obj = .ref s.heap.objs.size ∧ s₁ = { s with heap := s.heap.push { cls := .type "list", data := .seq #[] } })
    PySem.F.called_list (PySem.F.typeCall_list_1 _) PySem.F.entry_list_init (code_list_new _ ⟨rfl, rfl⟩) fun obj s₁ h₁ => ?_
  obtain ⟨rfl, rfl⟩ := h₁
  have hS : (s.heap.push { cls := .type "list", data := .seq #[] }).get? s.heap.objs.size = some { cls := .type "list", data := .seq #[] } := Heap.get?_push_size _ rfl
  refine ⟨⟨_, hS, rfl⟩, PySem.F.args_list_init_2 _ _, ?_⟩
  show wpAny _ _ (do
    let old ← Builtin.List.listItems (.ref s.heap.objs.size)
    Builtin.List.listUpdate (.ref s.heap.objs.size) (fun _ => #[])
    letGo old.toList.reverse
    Builtin.List.listExtendWith (.ref s.heap.objs.size) (.ref it) .none) _ _ _
  refine wpAny_bind ?_
  unfold Builtin.List.listItems
  refine wpAny_bind (wpAny_seqItems hS rfl (wpAny_pure ?_))
  show wpAny _ _ (updateSeq s.heap.objs.size (fun _ => #[]) >>= fun _ => letGo (#[] : Array Value).toList.reverse >>= fun _ =>
    Builtin.List.listExtendWith (.ref s.heap.objs.size) (.ref it) .none) _ _ _
  refine wpAny_bind (wpAny_updateSeq hS rfl ?_)
  have hS₂ := Heap.get?_update_self (Obj.mapSeq (fun _ => (#[] : Array Value))) hS rfl
  have oth : ∀ b o, b ≠ s.heap.objs.size → s.heap.get? b = some o →
      ((s.heap.push { cls := .type "list", data := .seq #[] }).update s.heap.objs.size (Obj.mapSeq (fun _ => (#[] : Array Value)))).get? b = some o := fun b o hb e => by
    rw [Heap.get?_update_other _ _ (Ne.symm hb)]
    exact Heap.get?_push_of_some _ e
  refine wpAny_bind (wpAny_letGo ?_)
  refine ext_rev (l := l) (items := items) hh ?_ ?_ hne hn gi gl hS₂ (fun h' tk acc c hk hS' hacc => ?_)
  · exact hit.at fun o e => oth it o gi.symm e
  · obtain ⟨o, ho, hr⟩ := hl
    exact ⟨o, oth l o gl.symm ho, hr⟩
  · refine ⟨rfl, hQ h' tk acc c (fun b o hb e => ?_) hS' hacc⟩
    have bs : b ≠ s.heap.objs.size := Nat.ne_of_lt (Heap.lt_size e)
    exact hk b o bs hb (oth b o bs e)
end
section
variable {X : Cx}
/-- a new list of the items, the last one first -/
def tListRev (K : PySem.W.Frag) (te : TE) : TE := fun σ H Q => te σ H fun v H1 => ∃ (a : Addr) (xs : List V), v = .ref a ∧ SqL K H1 a xs ∧ ∀ q, H1 q = none → Q (.ref q) (upd H1 q (.lst xs.reverse))
theorem pe_listRev {e : Expr} {te : TE} {p p2 pos pos2 : Pos} (hc : X.calm = true) (hg : Gl X "list") (hm : X.mg "list" = none) (hg2 : Gl X "reversed") (hm2 : X.mg "reversed" = none) (he : PE X e te)
    (hs : starEach [e] X.env = (false, eval e X.env) :: starEach [] X.env := by rfl)
    (hs2 : starEach [.Call (.Name "reversed" p2) [e] [] pos2] X.env = (false, eval (.Call (.Name "reversed" p2) [e] [] pos2) X.env) :: starEach [] X.env := by rfl) :
    PE X (.Call (.Name "list" p) [.Call (.Name "reversed" p2) [e] [] pos2] [] pos) (tListRev X.K te) := by
  refine ⟨fun pins s σ H Q I h => ?_⟩
  refine Call_ (ld_blt I hg hm (u := .type "list") (by decide +kernel) (PyProof.Rows.callWith_type1 (args_cons (Call_ (ld_blt I hg2 hm2 PyProof.Rows.boot_reversed
    (PyProof.Rows.callWith_type1 (args_cons (thn (he.run pins s σ H _ I h) fun u s1 ⟨v, H1, I1, r1, q1⟩ => args_nil ?_) hs) hs rfl))) hs2) hs2 rfl))
  obtain ⟨a, xs, ev, hq, q⟩ := q1
  subst ev
  obtain rfl : u = Value.ref a := r1
  obtain ⟨its, rv, p', hz⟩ := I1.list hq
  refine call_reversed_list p'.isList (args_nil ?_)
  have hl := p'.isList
  obtain ⟨ol, hol, _⟩ := id hl
  have hn : its.toArray.size ≤ sizeLine := by
    rw [List.size_toArray, ← rv.length]
    exact hz
  refine call_list_rev (s := { s1 with heap := s1.heap.push (revObj a ((its.toArray.size : Int) - 1)) }) (I1.ok.hd hc) ⟨_, Heap.get?_push_size _ rfl, rfl, rfl⟩ (hl.push _)
    (Nat.ne_of_lt (Heap.lt_size hol)) hn fun h' tk acc c hk hS hi => ?_
  have big : s1.heap.objs.size ≤ (s1.heap.push (revObj a ((its.toArray.size : Int) - 1))).objs.size := by
    rw [Heap.size_push]
    omega
  refine ⟨.ref _, upd H1 _ (.lst xs.reverse), I1.laid (h' := h') (t' := tk) (fun b o e => hk b o (Nat.ne_of_lt (Heap.lt_size e)) (Heap.get?_push_of_some _ e)) big ?_, rfl, q _ (I1.hok.fresh big)⟩
  refine ⟨by rw [List.length_reverse]; exact hz, acc.toList, c, vals_rev rv hi, ?_⟩
  rw [Array.toArray_toList]
  exact hS
end
end Lc
set_option Elab.async false
set_option linter.all false
set_option maxRecDepth 100000
set_option maxHeartbeats 4000000
/-! the deck of the laws of words and forms: cells taken from the end -/
namespace Dl
open PySem PySem.Spec PyProof.Rows L2
def mixZ (a b : Int) : Int := ((a % 2147483629 + 7919 * b + 1) * 48271) % 2147483647
def mixY (a b : Int) : Int := (mixZ a b * mixZ a b + 69621 * b + 7) % 2147483587
def mixF (a b : Int) : Int := mixY a b * 2147483563 + (mixY a b * mixY a b + 16807 * mixY a b + b) % 2147483563
def takeF (s : DS) (m : Int) : Int × DS := match s.1.getLast? with
  | none => (mixF s.2.1 (s.2.2 + 1) % m, ([], s.2.1, s.2.2 + 1))
  | some x => if x < 10 ^ 18 then (mixF x (s.2.2 + 1) % m, (s.1.dropLast, s.2.1, s.2.2 + 1)) else
      if 0 < x / m then (x % m, (s.1.dropLast ++ [x / m], s.2.1, s.2.2 + 1)) else (x % m, (s.1.dropLast, s.2.1, s.2.2 + 1))
theorem takeF_range (s : DS) {m : Int} (hm : 0 < m) : 0 ≤ (takeF s m).1 ∧ (takeF s m).1 < m := by
  have fin : ∀ r : Int, 0 ≤ r % m ∧ r % m < m := fun r => ⟨Int.emod_nonneg _ (by omega), Int.emod_lt_of_pos _ hm⟩
  unfold takeF
  split
  · exact fin _
  · split
    · exact fin _
    · split
      · exact fin _
      · exact fin _
/-- a number below m -/
def Ftake : Fn DS := fun ds s => match ds with
  | [.dict [(.int 0, .none)], .int m] => if 0 < m ∧ m < 1073741824 then some (.int (takeF s m).1, (takeF s m).2) else none
  | _ => none
theorem ftake {s : DS} {m : Int} (h : 0 < m) (h2 : m < 1073741824) : Ftake [hnd 0, .int m] s = some (.int (takeF s m).1, (takeF s m).2) := by
  show (if 0 < m ∧ m < 1073741824 then some (PyData.int (takeF s m).1, (takeF s m).2) else none) = _
  rw [if_pos ⟨h, h2⟩]
end Dl
set_option Elab.async false
set_option linter.all false
set_option maxRecDepth 100000
set_option maxHeartbeats 4000000
namespace Lw01
open PySem PySem.Spec PyProof.Rows L2 Dl
def barW : List Str := ["absurd", "all", "an", "and", "any", "are", "as", "at", "be", "by", "false", "if", "is", "least", "many", "more", "no", "not", "only", "or", "same", "some", "than", "the", "then", "there", "every", "either", "unless"]
def d_BARRED : D := .tuple (barW.map .str)
-- rises: slots row 0, one 1, other 2
def B_rises {S : Type}  : Sv S :=
    (sRet (cQu false (iOfA pZip (aCons (cVar 0) (aCons (cSl pSl (cVar 0) (oOf (cK (.int 1))) oNo) aNil))) (gTp (gC (gNm 1) (gC (gNm 2) gN0))) qYes (cB pLt (cVar 1) (cVar 2)) [1, 2]))
def K_rises {S : Type}  : Fn S := fnD 3 (B_rises )

-- is_all_of: slots text 0, signs 1, sign 2; cells signs
def B_is_all_of {S : Type}  : Sv S :=
    (sRet (cQu false (iOf asS (cVar 0)) (gNm 2) qYes (cB pIn (cVar 2) (cVar 1)) [2]))
def K_is_all_of {S : Type}  : Fn S := fnD 3 (B_is_all_of )

-- is_small: slots thing 0, least 1, most 2
def B_is_small {S : Type} (F_is_all_of : Fn S) : Sv S :=
    (sRet (cAnd (cU (pIsi "str") (cVar 0)) (cAnd (cCh pLe pLe (cVar 1) (cN pLen (aCons (cVar 0) aNil)) (cVar 2)) (cCall 2 F_is_all_of (aCons (cVar 0) (aCons (cK (.str "abcdefghijklmnopqrstuvwxyz")) aNil))))))
def K_is_small {S : Type} (F_is_all_of : Fn S) : Fn S := fnD 3 (B_is_small F_is_all_of)

-- is_name: slots thing 0
def B_is_name {S : Type} (F_is_small : Fn S) : Sv S :=
    (sSeq (sIf (qOr (qNot (qT (cU (pIsi "str") (cVar 0)))) (qNot (qT (cVar 0))))
    (sRet (cK (.bool false)))
    sNx)
    (sRet (cAnd (cB pIn (cB pIx (cVar 0) (cK (.int 0))) (cK (.str "ABCDEFGHIJKLMNOPQRSTUVWXYZ"))) (cCall 3 F_is_small (aCons (cSl pSl (cVar 0) (oOf (cK (.int 1))) oNo) (aCons (cK (.int 0)) (aCons (cK (.int 7)) aNil)))))))
def K_is_name {S : Type} (F_is_small : Fn S) : Fn S := fnD 1 (B_is_name F_is_small)

-- is_kind: slots thing 0
def B_is_kind {S : Type} (F_is_small : Fn S) : Sv S :=
    (sRet (cAnd (cCall 3 F_is_small (aCons (cVar 0) (aCons (cK (.int 2)) (aCons (cK (.int 8)) aNil)))) (cB pNotIn (cVar 0) (cK d_BARRED))))
def K_is_kind {S : Type} (F_is_small : Fn S) : Fn S := fnD 1 (B_is_kind F_is_small)

-- is_row_of_names: slots thing 0, word 1
def B_is_row_of_names {S : Type} (F_rises : Fn S) (F_is_name : Fn S) : Sv S :=
    (sRet (cAnd (cU (pIsi "tuple") (cVar 0)) (cAnd (cQu false (iOf asT (cVar 0)) (gNm 1) qYes (cCall 1 F_is_name (aCons (cVar 1) aNil)) [1]) (cCall 1 F_rises (aCons (cVar 0) aNil)))))
def K_is_row_of_names {S : Type} (F_rises : Fn S) (F_is_name : Fn S) : Fn S := fnD 2 (B_is_row_of_names F_rises F_is_name)

-- is_row_of_kinds: slots thing 0, word 1
def B_is_row_of_kinds {S : Type} (F_rises : Fn S) (F_is_kind : Fn S) : Sv S :=
    (sRet (cAnd (cU (pIsi "tuple") (cVar 0)) (cAnd (cQu false (iOf asT (cVar 0)) (gNm 1) qYes (cCall 1 F_is_kind (aCons (cVar 1) aNil)) [1]) (cCall 1 F_rises (aCons (cVar 0) aNil)))))
def K_is_row_of_kinds {S : Type} (F_rises : Fn S) (F_is_kind : Fn S) : Fn S := fnD 2 (B_is_row_of_kinds F_rises F_is_kind)

-- is_vocabulary: slots thing 0, names 1, kinds 2, doings 3
def B_is_vocabulary {S : Type} (F_is_row_of_kinds : Fn S) (F_is_row_of_names : Fn S) : Sv S :=
    (sSeq (sIf (qOr (qNot (qT (cU (pIsi "tuple") (cVar 0)))) (qT (cB pNe (cN pLen (aCons (cVar 0) aNil)) (cK (.int 3)))))
    (sRet (cK (.bool false)))
    sNx)
    (sSeq (sAsg (cVar 0) (gTp (gC (gNm 1) (gC (gNm 2) (gC (gNm 3) gN0)))))
    (sSeq (sIf (qOr (qNot (qT (cCall 1 F_is_row_of_names (aCons (cVar 1) aNil)))) (qOr (qNot (qT (cCall 1 F_is_row_of_kinds (aCons (cVar 2) aNil)))) (qNot (qT (cCall 1 F_is_row_of_kinds (aCons (cVar 3) aNil))))))
    (sRet (cK (.bool false)))
    sNx)
    (sRet (cB pEq (cLenX (xAnd (xSet (cVar 2)) (xSet (cVar 3)))) (cK (.int 0)))))))
def K_is_vocabulary {S : Type} (F_is_row_of_kinds : Fn S) (F_is_row_of_names : Fn S) : Fn S := fnD 4 (B_is_vocabulary F_is_row_of_kinds F_is_row_of_names)

-- _law_tail: slots _law_deck_here 0, _law_size 1, _law_k 2; cells _law_deck_here
def B_w_tail {S : Type} (F_w_take : Fn S) : Sv S :=
    (sRet (cB pJoin (cK (.str "")) (cNl (lcF (iOfA pR1 (aCons (cVar 1) aNil)) (gNm 2) qYes (cB pIx (cK (.str "abcdefghijklmnopqrstuvwxyz")) (cCall 2 F_w_take (aCons (cVar 0) (aCons (cK (.int 26)) aNil)))) [2]))))
def K_w_tail {S : Type} (F_w_take : Fn S) : Fn S := fnD 3 (B_w_tail F_w_take)

-- _law_names: slots _law_deck_here 0, _law_many 1, _law_great 2, _law_first 3, _law_word 4, _law_k 5; cells _law_deck_here, _law_first, _law_great, _law_word
def B_w_names {S : Type} (F_w_take : Fn S) (F_w_tail : Fn S) : Sv S :=
    (sSeq (sSet 2 (cK (.str "ABCDEFGHIJKLMNOPQRSTUVWXYZ")))
    (sSeq (sSet 3 (cCall 2 F_w_take (aCons (cVar 0) (aCons (cK (.int 26)) aNil))))
    (sSeq (sIf (qT (cB pEq (cCall 2 F_w_take (aCons (cVar 0) (aCons (cK (.int 3)) aNil))) (cK (.int 0))))
    (sSeq (sSet 4 (cB pAdd (cB pIx (cVar 2) (cVar 3)) (cCall 2 F_w_tail (aCons (cVar 0) (aCons (cK (.int 7)) aNil)))))
      (sRet (cNl (lcF (iOfA pR1 (aCons (cVar 1) aNil)) (gNm 5) qYes (cSl pSl (cVar 4) oNo (oOf (cB pAdd (cK (.int 1)) (cVar 5)))) [5]))))
    sNx)
    (sRet (cNl (lcF (iOfA pR1 (aCons (cVar 1) aNil)) (gNm 5) qYes (cB pAdd (cB pIx (cVar 2) (cB pMod (cB pAdd (cVar 3) (cVar 5)) (cK (.int 26)))) (cCall 2 F_w_tail (aCons (cVar 0) (aCons (cCall 2 F_w_take (aCons (cVar 0) (aCons (cK (.int 8)) aNil))) aNil)))) [5]))))))
def K_w_names {S : Type} (F_w_take : Fn S) (F_w_tail : Fn S) : Fn S := fnD 6 (B_w_names F_w_take F_w_tail)

-- _law_words: slots _law_deck_here 0, _law_many 1, _law_small 2, _law_first 3, _law_word 4, _law_found 5, _law_k 6; cells _law_word; own [5]
def B_w_words {S : Type} (F_w_take : Fn S) (F_w_tail : Fn S) : Sv S :=
    (sSeq (sSet 2 (cK (.str "abcdefghijklmnopqrstuvwxyz")))
    (sSeq (sSet 3 (cCall 2 F_w_take (aCons (cVar 0) (aCons (cK (.int 26)) aNil))))
    (sSeq (sIf (qAnd (qT (cB pEq (cCall 2 F_w_take (aCons (cVar 0) (aCons (cK (.int 3)) aNil))) (cK (.int 0)))) (qT (cB pLt (cVar 1) (cK (.int 7)))))
    (sSeq (sSet 4 (cB pAdd (cB pAdd (cB pIx (cVar 2) (cVar 3)) (cB pIx (cK (.str "qzkj")) (cCall 2 F_w_take (aCons (cVar 0) (aCons (cK (.int 4)) aNil))))) (cCall 2 F_w_tail (aCons (cVar 0) (aCons (cK (.int 6)) aNil)))))
      (sRet (cNl (lcF (iOfA pR1 (aCons (cVar 1) aNil)) (gNm 6) qYes (cSl pSl (cVar 4) oNo (oOf (cB pAdd (cK (.int 2)) (cVar 6)))) [6]))))
    sNx)
    (sSeq (sOwn 5 (aN lenOk aNil))
    (sSeq (sFor (iOfA pR1 (aCons (cVar 1) aNil)) (gNm 6)
    (sApp 5 (cB pAdd (cB pAdd (cB pIx (cVar 2) (cB pMod (cB pAdd (cVar 3) (cVar 6)) (cK (.int 26)))) (cB pIx (cK (.str "qzkj")) (cCall 2 F_w_take (aCons (cVar 0) (aCons (cK (.int 4)) aNil))))) (cCall 2 F_w_tail (aCons (cVar 0) (aCons (cCall 2 F_w_take (aCons (cVar 0) (aCons (cK (.int 7)) aNil))) aNil))))))
    (sRet (cVar 5)))))))
def K_w_words {S : Type} (F_w_take : Fn S) (F_w_tail : Fn S) : Fn S := fnD 7 (B_w_words F_w_take F_w_tail)

-- _law_vocabulary: slots _law_deck_here 0, _law_most 1, _law_names_here 2, _law_lots 3, _law_words_here 4, _law_turn 5
def B_w_vocabulary {S : Type} (F_w_take : Fn S) (F_w_names : Fn S) (F_w_words : Fn S) : Sv S :=
    (sSeq (sSet 1 (cB pIx (cN pLst (aCons (cN pLst (aCons (cK (.int 3)) (aCons (cK (.int 4)) (aCons (cK (.int 2)) aNil)))) (aCons (cN pLst (aCons (cK (.int 6)) (aCons (cK (.int 6)) (aCons (cK (.int 3)) aNil)))) aNil))) (cN pInt (aCons (cB pEq (cCall 2 F_w_take (aCons (cVar 0) (aCons (cK (.int 8)) aNil))) (cK (.int 7))) aNil))))
    (sSeq (sSet 2 (cNl (aN pSorted (aCons (cCall 2 F_w_names (aCons (cVar 0) (aCons (cCall 2 F_w_take (aCons (cVar 0) (aCons (cB pAdd (cB pIx (cVar 1) (cK (.int 0))) (cK (.int 1))) aNil))) aNil))) aNil))))
    (sSeq (sSet 3 (cCall 2 F_w_take (aCons (cVar 0) (aCons (cB pAdd (cB pIx (cVar 1) (cK (.int 1))) (cK (.int 1))) aNil))))
    (sSeq (sSet 4 (cCall 2 F_w_words (aCons (cVar 0) (aCons (cB pAdd (cVar 3) (cCall 2 F_w_take (aCons (cVar 0) (aCons (cB pAdd (cB pIx (cVar 1) (cK (.int 2))) (cK (.int 1))) aNil)))) aNil))))
    (sSeq (sSet 5 (cCall 2 F_w_take (aCons (cVar 0) (aCons (cB pAdd (cN pLen (aCons (cVar 4) aNil)) (cK (.int 1))) aNil))))
    (sSeq (sSet 4 (cB pAdd (cSl pSl (cVar 4) (oOf (cVar 5)) oNo) (cSl pSl (cVar 4) oNo (oOf (cVar 5)))))
    (sRet (cN pTup (aCons (cN pTuple (aCons (cVar 2) aNil)) (aCons (cN pTuple (aCons (cNl (aN pSorted (aCons (cSl pSl (cVar 4) oNo (oOf (cVar 3))) aNil))) aNil)) (aCons (cN pTuple (aCons (cNl (aN pSorted (aCons (cSl pSl (cVar 4) (oOf (cVar 3)) oNo) aNil))) aNil)) aNil)))))))))))
def K_w_vocabulary {S : Type} (F_w_take : Fn S) (F_w_names : Fn S) (F_w_words : Fn S) : Fn S := fnD 6 (B_w_vocabulary F_w_take F_w_names F_w_words)

-- _law_all_in: slots _law_text 0, _law_signs 1, _law_sign 2; cells _law_signs
end Lw01
set_option Elab.async false
set_option linter.all false
set_option maxRecDepth 100000
set_option maxHeartbeats 4000000
/-! dicts as data: keys texts and whole numbers, values any data -/
namespace Dl
open PySem PySem.Spec PyProof.Rows L2
def kdD : Key → D
  | .inl i => .int i
  | .inr x => .str x
def valD (kvs : List (D × D)) (q : Key) : Option D := (kvs.find? fun p => decide (keyD p.1 = some q)).map (·.2)
def putD (kvs : List (D × D)) (q : Key) (d : D) : List (D × D) := if (kvs.any fun p => decide (keyD p.1 = some q)) = true then kvs.map (fun p => if keyD p.1 = some q then (p.1, d) else p) else kvs ++ [(kdD q, d)]
def mergeD (kvs : List (D × D)) : List (D × D) → List (D × D)
  | [] => kvs
  | (k, d) :: r => match keyD k with
    | some q => mergeD (putD kvs q d) r
    | none => mergeD kvs r
/-- a dict that is none of the handles, and not too great -/
def okD (kvs : List (D × D)) : Bool := !isHn kvs && decide (kvs.length < 4096)
section
variable {G : Kx} {B : Bar} {H : Hp}
theorem Repk.len : ∀ {kvs : List (D × D)} {kv : List (Key × V)}, Repk G B H kvs kv → kv.length = kvs.length
  | [], _, h => by simp only [Repk] at h; subst h; rfl
  | (_, d) :: ds, vs, h => by
    simp only [Repk] at h
    obtain ⟨q, v, r, rfl, _, _, h2⟩ := h
    simp [Repk.len h2]
end
abbrev Ek (S : Type) := Rho → S → Option (List (D × D) × S)
def kOwn {S : Type} (i : Nat) : Ek S := fun ρ s => match ρ[i]? with
  | some (some (.dict kvs)) => some (kvs, s)
  | _ => none
def cNd {S : Type} (f : Ek S) : Ev S := fun ρ s => bnd (f ρ s) fun ds s => if okD ds = true then some (.dict ds, s) else none
def cDx {S : Type} (f : Ek S) (g : Ev S) : Ev S := fun ρ s => bnd (f ρ s) fun m s => bnd (g ρ s) fun k s => match keyD k with
  | some q => match valD m q with
    | some d => some (d, s)
    | none => none
  | none => none
section
variable {S : Type} {X : Cx} {G : Kx} {Z : Zk S} {W : List Nat} {f g : Ev S} {fk : Ek S} {a b c e tg : Expr} {es : List Expr} {st : Stmt} {pos p apos cpos : Pos} {x : Str}
/-! reading -/
/-! making -/
def kNew : Ek S := fun _ s => some ([], s)
/-- the pairs of a display -/
def Repp (G : Kx) (B : Bar) (H : Hp) : List (D × D) → List (V × V) → Prop
  | [], ps => ps = []
  | (k, d) :: r, ps => ∃ u v t, ps = (u, v) :: t ∧ Rep G B H k u ∧ Rep G B H d v ∧ Repp G B H r t
def tEk (G : Kx) (Z : Zk S) (W : List Nat) (f : Ek S) (σ : L2.St) (H : Hp) (Q : List (V × V) → Hp → Prop) : Prop :=
  ∃ (B O : Bar) (ρ : Rho) (s : S) (d : List (D × D)) (s' : S), Eo G Z W B O H σ ρ ∧ Z.R H s ∧ f ρ s = some (d, s') ∧
    ∀ v H', Lc.Fr Z.M H H' → Repp G (fun a => B a ∨ O a) H' d v → Z.R H' s' → Q v H'
structure EPs (X : Cx) (G : Kx) (Z : Zk S) (W : List Nat) (pos : Pos) (keys : List (Option Expr)) (values : List Expr) (f : Ek S) : Prop where
  ex : ∃ trs, PPs X pos keys values trs ∧ ∀ σ H Q, tEk G Z W f σ H Q → tPairs trs σ H Q
def kNil : Ek S := fun _ s => some ([], s)
def kCons (f g : Ev S) (r : Ek S) : Ek S := fun ρ s => bnd (f ρ s) fun k s => bnd (g ρ s) fun v s => bnd (r ρ s) fun m s => some ((k, v) :: m, s)
theorem Repp.fr {B : Bar} {H H' : Hp} {M : Bar} (f : Lc.Fr M H H') (m : ∀ a, M a → B a) : ∀ {ds : List (D × D)} {ps : List (V × V)}, Repp G B H ds ps → Repp G B H' ds ps
  | [], _, h => h
  | (k, d) :: r, _, ⟨u, v, t, e, h1, h2, h3⟩ => ⟨u, v, t, e, h1.fr f m, h2.fr f m, Repp.fr f m h3⟩
/-- keys that are some -/
def keysOk : List (D × D) → Bool
  | [] => true
  | (k, _) :: r => (keyD k).isSome && keysOk r
def kDisp (f : Ek S) : Ek S := fun ρ s => bnd (f ρ s) fun m s => if keysOk m = true ∧ m.length ≤ 15 then some (mergeD [] m, s) else none
/-! own dicts -/
def sOwnD (i : Nat) (f : Ek S) : Sv S := fun ρ s => bnd (f ρ s) fun ds s => if okD ds = true then some (.nx (ρ.set i (some (.dict ds))), s) else none
def sPutO (i : Nat) (f g : Ev S) : Sv S := fun ρ s => bnd (g ρ s) fun v s => bnd (f ρ s) fun k s => match ρ[i]?, keyD k with
  | some (some (.dict kvs)), some q => if okD (putD kvs q v) = true then some (.nx (ρ.set i (some (.dict (putD kvs q v)))), s) else none
  | _, _ => none
theorem LoD.dk {H : Hp} {P : Addr} {kv : List (Key × V)} : LoD (upd H P (.dK kv)) P := .inr (.inl ⟨kv, upd_same⟩)
end
end Dl
set_option Elab.async false
set_option linter.all false
set_option maxRecDepth 100000
set_option maxHeartbeats 4000000
/-! list comprehensions of any number of clauses: one clause's turn, and its start -/
namespace L2
open PySem PySem.Spec PyProof.Rows
end L2
namespace Gc
open PySem PySem.Spec PyProof.Rows L2
section
variable {prog : Program} {w : World} {A : Around} {s : Shared} {elt t i t1 i1 : Expr} {ifs ifs1 : List Expr} {gs : List Comprehension} {scope : Scope} {pos : Pos} {it acc : Value} {env : Env} {n : Nat} {E : Value → Shared → Prop}
/-- a clause that has another behind it -/
theorem turn_out {Q} (h0 : gs[n]? = some ⟨t, i, ifs, 0⟩) (h1 : gs[n + 1]? = some ⟨t1, i1, ifs1, 0⟩) (hs : ∀ x, foldedSetIterable i1 env x = pure x)
    (h : wpAny (model prog w) A (pyNext it) (fun r s1 => match r with
      | none => Q (.done .next) s1
      | some v => wpAny (model prog w) A (letOwnedTupleGo t it v) (fun _ s2 => wpAny (model prog w) A (assign t env v) (fun _ s3 =>
          wpAny (model prog w) A (forIn ifs true fun c r => if r = true then do let ok ← isTrue c env (eval c env); pure (ForInStep.yield ok) else pure (ForInStep.yield r)) (fun ok s4 =>
            if ok = true then wpAny (model prog w) A (eval i1 env) (fun x s5 => wpAny (model prog w) A (pyIter x) (fun it1 s6 =>
              codeAny (model prog w) A (.compStart (.ListComp elt gs scope pos) (n + 1) it1 acc env) (fun r s7 => match r with
                | .ok _ => Q (.again (.compLoop (.ListComp elt gs scope pos) n it acc env)) s7
                | .error _ => False) s6) E s5) E s4
            else Q (.again (.compLoop (.ListComp elt gs scope pos) n it acc env)) s4) E s3) E s2) E s1) E s) :
    wpAny (model prog w) A (compTurn (.ListComp elt gs scope pos) n it acc env) Q E s := by
  unfold compTurn
  simp only [h0, h1]
  refine wpAny_bind (wpAny_standAt (wpAny_bind (wpAny_mono h (fun r s1 k1 => ?_) fun _ _ k => k)))
  cases r with
  | none => exact wpAny_pure k1
  | some v =>
    refine wpAny_bind (wpAny_mono k1 (fun _ s2 k2 => ?_) fun _ _ k => k)
    refine wpAny_bind (wpAny_mono k2 (fun _ s3 k3 => wpAny_bind (wpAny_mono k3 (fun b s4 k4 => ?_) fun _ _ k => k)) fun _ _ k => k)
    cases b with
    | false => exact wpAny_pure k4
    | true =>
      refine wpAny_bind (wpAny_mono k4 (fun x s5 k5 => ?_) fun _ _ k => k)
      refine wpAny_bind (wpAny_standAt (wpAny_bind (wpAny_of_eq (hs x) (wpAny_bind (wpAny_holding (wpAny_mono k5 (fun it1 s6 k6 => ?_) fun _ _ k => k))))))
      refine wpAny_bind (wpAny_runOwn ?_)
      rw [Around.mark_none]
      refine codeAny_mono k6 fun r s7 k7 => ?_
      cases r with
      | error e => exact k7.elim
      | ok f =>
        first
          | exact wpAny_pure k7
          | exact wpAny_bind (wpAny_pure (wpAny_pure k7))
/-- the last clause -/
theorem turn_in {Q} (h0 : gs[n]? = some ⟨t, i, ifs, 0⟩) (h1 : gs[n + 1]? = none)
    (h : wpAny (model prog w) A (pyNext it) (fun r s1 => match r with
      | none => Q (.done .next) s1
      | some v => wpAny (model prog w) A (letOwnedTupleGo t it v) (fun _ s2 => wpAny (model prog w) A (assign t env v) (fun _ s3 =>
          wpAny (model prog w) A (forIn ifs true fun c r => if r = true then do let ok ← isTrue c env (eval c env); pure (ForInStep.yield ok) else pure (ForInStep.yield r)) (fun ok s4 =>
            if ok = true then wpAny (model prog w) A (eval elt env) (fun x s5 => wpAny (model prog w) A (call (.builtin "list.append") [acc, x]) (fun _ s6 => Q (.again (.compLoop (.ListComp elt gs scope pos) n it acc env)) s6) E s5) E s4
            else Q (.again (.compLoop (.ListComp elt gs scope pos) n it acc env)) s4) E s3) E s2) E s1) E s) :
    wpAny (model prog w) A (compTurn (.ListComp elt gs scope pos) n it acc env) Q E s := by
  unfold compTurn
  simp only [h0, h1]
  refine wpAny_bind (wpAny_standAt (wpAny_bind (wpAny_mono h (fun r s1 k1 => ?_) fun _ _ k => k)))
  cases r with
  | none => exact wpAny_pure k1
  | some v =>
    refine wpAny_bind (wpAny_mono k1 (fun _ s2 k2 => ?_) fun _ _ k => k)
    refine wpAny_bind (wpAny_mono k2 (fun _ s3 k3 => wpAny_bind (wpAny_mono k3 (fun b s4 k4 => ?_) fun _ _ k => k)) fun _ _ k => k)
    cases b with
    | false => exact wpAny_pure k4
    | true => exact wpAny_bind (wpAny_bind (wpAny_mono k4 (fun x s5 k5 => wpAny_bind (wpAny_mono k5 (fun _ s6 k6 => wpAny_pure (wpAny_pure k6)) fun _ _ k => k)) fun _ _ k => k))
end
end Gc
namespace Gc
open PySem PySem.Spec PyProof.Rows L2
section
variable {Y : Cx} {p : List (Addr × Obj)} {σ : L2.St} {J : It} {fp : List Addr} {it : Addr} {tn : Nat → Heap → Prop} {tg : Expr} {ifs : List Expr} {g : TG} {tt : TT} {us : List Nat} {W : Nat → Nat → Hp → Prop} {c : Expr} {n : Nat} {acc : Value} {R : Result → Shared → Prop}
end
end Gc
namespace Gc
open PySem PySem.Spec PyProof.Rows L2
/-- the element, put behind -/
def BIn (te : TE) (D : Addr) : L2.St → Hp → (Hp → Prop) → Prop := fun σ H Nx => te σ H fun y H1 => ∃ acc, H1 D = some (.lst acc) ∧ acc.length < sizeLine ∧ Nx (upd H1 D (.lst (acc ++ [y])))
def RestOk (Y : Cx) (us : List Nat) (rest : (Shared → Prop) → (Value → Shared → Prop) → Shared → Prop) (Body : L2.St → Hp → (Hp → Prop) → Prop) : Prop :=
  ∀ p σ H s Nx K E, Inv Y p σ H s → Body σ H Nx → (∀ vs H3 s3, (∀ v ∈ vs, v ∈ us) → Inv Y p (wipe σ vs) H3 s3 → Nx H3 → K s3) → rest K E s
section
variable {Y : Cx} {elt t i t1 i1 : Expr} {ifs ifs1 : List Expr} {gs : List Comprehension} {scope : Scope} {pos : Pos} {D : Addr} {n : Nat} {us us1 : List Nat}
def restIn (Y : Cx) (elt : Expr) (D : Addr) : (Shared → Prop) → (Value → Shared → Prop) → Shared → Prop := fun K E s =>
  wpAny (model Y.prog Y.w) Y.A (eval elt Y.env) (fun x s5 => wpAny (model Y.prog Y.w) Y.A (call (.builtin "list.append") [.ref D, x]) (fun _ s6 => K s6) E s5) E s
theorem in_ok {te : TE} (hx : Y.xe = fun _ _ => False) (pe : PE Y elt te) : RestOk Y us (restIn Y elt D) (BIn te D) := by
  intro p σ H s Nx K E I hb k
  have a := pe.run _ s σ H _ I hb
  rw [hx] at a
  exact thnF a fun z s1 ⟨y, H1, I1, r1, acc, hD, hz, nx⟩ => app_ok I1 hD hz r1 fun s2 I2 => k [] _ s2 (by simp) I2 nx
end
end Gc
namespace Gc
open PySem PySem.Spec PyProof.Rows L2
section
variable {X : Cx} {elt tg iter : Expr} {ifs : List Expr} {more : List Comprehension} {scope : Scope} {own : List (Str × Nat)} {pos : Pos} {wi : TI} {g : TG} {tt : TT} {rest : Cx → Addr → (Shared → Prop) → (Value → Shared → Prop) → Shared → Prop} {Body : Addr → L2.St → Hp → (Hp → Prop) → Prop}
end
end Gc
namespace Gc
open PySem PySem.Spec PyProof.Rows L2
section
variable {X : Cx} {elt tg iter : Expr} {ifs : List Expr} {more : List Comprehension} {scope : Scope} {own : List (Str × Nat)} {pos : Pos} {wi : TI} {g : TG} {tt : TT} {rest : Cx → Addr → (Shared → Prop) → (Value → Shared → Prop) → Shared → Prop} {Body : Addr → L2.St → Hp → (Hp → Prop) → Prop}
end
end Gc
set_option Elab.async false
set_option linter.all false
set_option maxRecDepth 100000
set_option maxHeartbeats 4000000
/-! {k: v for x in it if test} on data -/
namespace Dl
open PySem PySem.Spec PyProof.Rows L2
section
variable {S : Type} {X : Cx} {G : Kx} {Z : Zk S} {W : List Nat} {fk fv : Ev S} {kx vx tg : Expr} {pos : Pos}
end
end Dl
set_option Elab.async false
set_option linter.all false
set_option maxRecDepth 100000
set_option maxHeartbeats 4000000
/-! objects as data: made by their class, read by their fields -/
namespace Dl
open PySem PySem.Spec PyProof.Rows L2
def obG : List (D × D) → Str → Option D
  | [], _ => none
  | (.str x, d) :: r, f => if x = f then some d else obG r f
  | _ :: r, f => obG r f
section
variable {S : Type} {X : Cx} {G : Kx} {Z : Zk S} {W : List Nat} {B : Bar} {H : Hp} {f : Str} {g F : Ev S} {e value : Expr} {es : List Expr} {st : Stmt} {rest : List Stmt} {pos pos' p px : Pos} {x : Str}
theorem repo_get : ∀ {fs : List (D × D)} {fv : List (Str × V)} {d : D}, Repo G B H fs fv → obG fs f = some d → ∃ v, fv.lookup f = some v ∧ Rep G B H d v
  | [], _, _, _, e => by cases e
  | (k, d0) :: r, fv, d, h, e => by
    simp only [Repo] at h
    rcases h with ⟨rfl, h⟩ | ⟨y, v, t, rfl, rfl, h1, h2⟩
    · exact repo_get h e
    · simp only [obG] at e
      by_cases hy : y = f
      · subst hy
        rw [if_pos rfl] at e
        cases e
        exact ⟨v, by simp, h1⟩
      · rw [if_neg hy] at e
        obtain ⟨u, h3, h4⟩ := repo_get h2 e
        refine ⟨u, ?_, h4⟩
        have hb : (f == y) = false := beq_eq_false_iff_ne.mpr fun z => hy z.symm
        simp only [List.lookup, hb]
        exact h3
end
/-! ### __init__ -/
structure Ob {S : Type} (G : Kx) (Z : Zk S) (C : Addr) (B : Bar) (H1 H : Hp) (σ : L2.St) (ρ : Rho) (s : S) (x : Addr) (fs : List (D × D)) : Prop where
  eo : Eo G Z [] B (fun _ => False) H σ ρ
  r : Z.R H s
  sl : σ[0]? = some (some (.ref x))
  bx : B x
  nx : H1 x = none
  zx : ¬ Z.M x
  ins : ∃ dx fv, H x = some (.ins C dx fv) ∧ fv.length ≤ fs.length ∧ Repo G B H fs fv
  fr : Lc.Fr Z.M H1 H
abbrev Iv (S : Type) := Rho → List (D × D) → S → Option ((Rho × List (D × D)) × S)
section
variable {S : Type} {X : Cx} {G : Kx} {Z : Zk S} {W : List Nat} {C : Addr} {f : Str} {F : Ev S} {fa : Ea S} {I J : Iv S} {e value : Expr} {es : List Expr} {st : Stmt} {rest : List Stmt} {pos pos' p px : Pos} {x : Str}
end
section
variable {S : Type} {P : Program} {w : World} {K : PySem.W.Frag} {mg : Str → Option Value} {base : Heap} {G : Kx} {Z : Zk S} {I : Iv S}
end
end Dl
set_option Elab.async false
set_option linter.all false
set_option maxRecDepth 100000
set_option maxHeartbeats 2000000
/-! own exceptions as values: made, asked for their class, read -/
namespace Xe
open PySem PySem.Spec PyProof.Rows L2
/-- an exception's own dict, if it has one -/
def DxOk (H : Hp) (d : Option Addr) (fs : List (Str × V)) : Prop := (d = none ∧ fs = []) ∨ ∃ dx, d = some dx ∧ H dx = some (exd dx fs)
section
variable {X : Cx}
/-- X(e), a class without own __init__ -/
theorem pe_exN {C : Addr} {bmB : List Value} {B newId initId : String} {x : Str} {e : Expr} {ta : TE} {p pos : Pos} (F : ExcBaseFacts B newId initId bmB) (q : PySem.W.excIn X.K C bmB newId = true) (gC : X.mg x = some (.ref C)) (kC : PySem.W.keepIn X.K (.ref C) = true) (hg : Gl X x)
    (he : PE X e ta) (hs : starEach [e] X.env = (false, eval e X.env) :: starEach [] X.env := by rfl) (hdb : (x == ("__debug__" : Str)) = false := by decide) :
    PE X (.Call (.Name x p) [e] [] pos) (fun σ H Q => ta σ H fun _ H1 => ∀ a, H1 a = none → Q (.ref a) (upd H1 a (exo a C none))) := by
  refine ⟨fun pins s σ H Q I h => wpAny_Call_Name_kw (ld_glob I hg gC (PySem.W.callWith_K (h₀ := X.base) I.ok.mod.kin kC ?_ hs (by rfl)) hdb)⟩
  rw [hs]
  show wpAny _ _ (spliced ((false, eval e X.env) :: backTo pos (starEach [] X.env))) _ _ s
  refine Calls.spliced_cons (thn (he.run pins s σ H _ I h) fun u s1 ⟨v, H1, I1, r1, q1⟩ => Calls.spliced_nil ⟨I1.kIn, ?_⟩)
  show wpAny _ _ (call (.ref C) [u]) _ _ _
  obtain ⟨bm, N, nm, qn, bs, hdct, sn, sub, ab, col, dd, k0, k1, k2, k3, k5, mN, hC, hN, hni, T⟩ := exc_obj I1.kIn q
  refine wpAny_call_exc_subT F T hC hN hni (fun h' a hm => ?_) (by show 1 ≤ sizeLine; decide)
  have hn : H1 a = none := I1.hok.gone hm.new
  obtain ⟨t, ht, _, _⟩ := hm.there
  exact ⟨.ref a, upd H1 a (exo a C none), I1.laidN hm.keeps hm.new hn (exo_ok ht), rfl, q1 a hn⟩
/-- an exception that is tracked, as an instance -/
theorem xo_inst {pins : List (Addr × Obj)} {σ : L2.St} {H : Hp} {s : Shared} {a C : Addr} {d : Option Addr} {fs : List (Str × V)} (I : Inv X pins σ H s) (ha : H a = some (exo a C d)) (hd : DxOk H d fs) :
    ∃ ox od, PySem.W.InstAt s.heap a ox C od ∧ (∀ dx, d = some dx → ∃ oD mA, od = some oD ∧ s.heap.Ns1 dx mA ∧ (∀ f, RelO (fs.lookup f) (mA f)) ∧ s.heap.get? dx = some oD) := by
  obtain ⟨t1, h1⟩ := exo_at I.hok ha
  rcases hd with ⟨rfl, _⟩ | ⟨dx, rfl, hd⟩
  · exact ⟨_, none, ⟨h1, rfl, rfl, trivial⟩, fun _ z => nomatch z⟩
  · obtain ⟨mA, hns, hr⟩ := exd_at I.hok hd
    have hns2 := hns
    obtain ⟨oD, es, ep, e1, _⟩ := hns2
    refine ⟨_, some oD, ⟨h1, rfl, rfl, e1⟩, fun dx' z => ?_⟩
    cases z
    exact ⟨oD, mA, rfl, hns, hr, e1⟩
/-- isinstance(e, c) -/
def rIsX (K : PySem.W.Frag) : List V → Hp → VK → Prop := fun xs H Q => ∃ (a D : Addr) (d : Option Addr) (fs : List (Str × V)) (c : V) (cv : Value) (b : Bool), xs = [.ref a, c] ∧ H a = some (exo a D d) ∧ DxOk H d fs ∧ L2.ExcC K D ∧ (∀ u, RelV c u → u = cv) ∧ PySem.W.kitOne K (.ref D) cv = some b ∧ Q (.bl b) H
theorem call_isX : CallR X (.builtin "isinstance") (rIsX X.K) := by
  intro pins s σ H xs us Q I r h
  obtain ⟨a, D, d, fs, c, cv, b, rfl, ha, hd, C, hcv, e, q⟩ := h
  cases r with
  | cons rx rr =>
    cases rr with
    | cons rt rr =>
      cases rr
      cases rx
      have ec := hcv _ rt
      subst ec
      obtain ⟨ox, od, J, _⟩ := xo_inst I ha hd
      have hcl : (PySem.W.clsIn X.K D).isSome = true := by
        have z := C.hd
        unfold PySem.W.hasDictIn at z
        cases y : PySem.W.clsIn X.K D with
        | none => rw [y] at z; cases z
        | some c => rfl
      exact PySem.W.kia_one (PySem.W.kitx_exc hcl C.hg C.hk C.hs C.ha C.hn C.ht C.hm) I.kIn J e (fun z => nomatch z) fun tk => ⟨.bl b, H, I.kept (t' := tk) fun _ _ z => z, rfl, q⟩
/-- e.f -/
def tXa (K : PySem.W.Frag) (f : Str) (te : TE) : TE := fun σ H Q => te σ H fun x H1 => ∃ (a C dx : Addr) (fs : List (Str × V)) (v : V), x = .ref a ∧ H1 a = some (exo a C (some dx)) ∧ H1 dx = some (exd dx fs) ∧ XfC K C ∧ PySem.W.findIn K (.ref C) f = some none ∧ fs.lookup f = some v ∧ Q v H1
theorem pe_xa {e : Expr} {te : TE} {pos : Pos} {f : Str} (he : PE X e te) (hb : attributeBase e f X.env (eval e X.env) = eval e X.env := by rfl) : PE X (.Attribute e f pos) (tXa X.K f te) := by
  refine ⟨fun pins s σ H Q I h => attr_of hb (thn (he.run pins s σ H _ I h) fun u s1 hh => ?_)⟩
  obtain ⟨x, H1, I1, rx, a, C, dx, fs, v, rfl, ha, hd, T, hno, l, q⟩ := hh
  cases rx
  obtain ⟨ox, od, J, k⟩ := xo_inst I1 ha (.inr ⟨dx, rfl, hd⟩)
  obtain ⟨oD, mA, rfl, hns, hr, e1⟩ := k dx rfl
  obtain ⟨od2, ho, hl⟩ := lookIn_ns hns
  rw [e1] at ho
  cases ho
  obtain ⟨u, hu, ru⟩ := RelO.some_of (v := v) (o := mA f) (by rw [← l]; exact hr f)
  exact HandSPX.exc_get I1.kIn J T.ga T.gg T.exC (PySem.W.findObj_own T.hdC hno rfl (by rw [hl, hu])) (handed_of ru) ⟨v, H1, I1.tok _, ru, q⟩
end
end Xe
set_option Elab.async false
set_option linter.all false
set_option maxRecDepth 100000
set_option maxHeartbeats 2000000
/-! an __init__ that says super().__init__: its frame has one cell more, __class__ -/
namespace Xe
open PySem PySem.Spec PyProof.Rows L2
/-- the scope of such a def: all its names are its own, but __class__ -/
structure SupScope (N P : List Str) (sc : Scope) : Prop where
  kind : sc.kind = .function
  co : sc.isCoroutine = false
  gen : sc.isGenerator = false
  nd : N.Nodup
  pre : N.take P.length = P
  par : ∀ x ∈ P, sc.names.lookup x = some .local
  noc : ∀ y ∈ sc.names, y.2 ≠ .cell
  fre : ∀ y ∈ sc.names, y.2 = .free → y.1 = ("__class__" : Str)
def envS (qual : Str) (scope : Scope) (L f : Addr) (cd : Value) (cc : Addr) : Env := PySem.W.ksEnv qual scope L f cd cc
def cxS (CX : CXT) (P : Program) (w : World) (K : PySem.W.Frag) (mg : Str → Option Value) (base : Heap) (N : List Str) (qual : Str) (scope : Scope) (f : Addr) (cd : Value) (cc : Addr) (A : Around) (outer : List Env) (s : Shared) (H : Hp) (E : XK) : Cx :=
  { cxOf CX P w K mg base N qual scope f cd A outer s H E with
    A := A.deeper (envS qual scope s.heap.objs.size f cd cc)
    env := envS qual scope s.heap.objs.size f cd cc
    stack := envS qual scope s.heap.objs.size f cd cc :: outer
    fn := fun x => !(x == ("__class__" : Str))
    xe := fun e s' => wpAny (model P w) (A.deeper (envS qual scope s.heap.objs.size f cd cc)) (leaving (envS qual scope s.heap.objs.size f cd cc) e) (fun _ s'' => CX outer H s E e s'') (fun e' s'' => CX outer H s E e' s'') s' }
theorem one_cell {x : Str} {c cc : Addr} (h : ([(("__class__" : Str), cc)] : List (Str × Addr)).lookup x = some c) : x = ("__class__" : Str) ∧ c = cc := by
  simp only [List.lookup] at h
  split at h
  · rename_i e
    cases h
    exact ⟨by simpa using e, rfl⟩
  · cases h
theorem zip_rev {x : Str} {v : Value} : ∀ {P : List Str} {vs : List Value} {i : Nat}, P.Nodup → P[i]? = some x → vs[i]? = some v → (P.zip vs).reverse.lookup x = some v := by
  intro P vs i nd h1 h2
  have hm : (x, v) ∈ (P.zip vs).reverse := by
    rw [List.mem_reverse]
    refine List.mem_of_getElem? (i := i) ?_
    rw [List.getElem?_zip_eq_some]
    exact ⟨h1, h2⟩
  have uq : ∀ (l : List (Str × Value)), (x, v) ∈ l → (∀ u, (x, u) ∈ l → u = v) → l.lookup x = some v := by
    intro l
    induction l with
    | nil => intro h _; cases h
    | cons p l ih =>
      intro h hu
      obtain ⟨y, u⟩ := p
      by_cases e : x = y
      · subst e
        have := hu u List.mem_cons_self
        subst this
        simp
      · have hb : (x == y) = false := beq_eq_false_iff_ne.mpr e
        simp only [List.lookup, hb]
        refine ih ?_ fun u hu' => hu u (List.mem_cons_of_mem _ hu')
        rcases List.mem_cons.mp h with h | h
        · cases h
          exact absurd rfl e
        · exact h
  refine uq _ hm fun u hu => ?_
  rw [List.mem_reverse] at hu
  obtain ⟨j, hj⟩ := List.mem_iff_getElem?.mp hu
  rw [List.getElem?_zip_eq_some] at hj
  have hij : i = j := by
    have hi := (List.getElem?_eq_some_iff.mp h1).1
    exact (List.getElem?_inj hi nd).mp (by rw [h1, hj.1])
  subst hij
  rw [h2] at hj
  exact (Option.some.inj hj.2).symm
theorem inv_super {CX : CXT} {P : Program} {w : World} {K : PySem.W.Frag} {mg : Str → Option Value} {base : Heap} {N ps : List Str} {qual : Str} {scope : Scope} {f cc : Addr} {cd : Value} {A : Around} {outer : List Env} {s : Shared} {H : Hp} {E : XK} {us : List Value} {vs : List V} {h0 : Heap} {tk : Nat} {cl : Value} {cld : Option Addr} {v0 : Option Value} {csl : Array (Option Value)}
    (S : SupScope N ps scope) (hd : A.handled = none) (e0 : Env0 P w K mg base A outer s H) (hl : vs.length = ps.length) (r : Vals vs us) (hcell : K.lookup cc = some ⟨cl, cld, .cell v0, csl⟩)
    (hns : h0.Ns s.heap.objs.size (fun x => (ps.zip us).reverse.lookup x)) (hk : ∀ b o, s.heap.get? b = some o → h0.get? b = some o) :
    Inv (cxS CX P w K mg base N qual scope f cd cc A outer s H E) [] (start N vs) H { s with heap := h0, toks := tk } := by
  have hpl : ps.length ≤ N.length := by
    have := congrArg List.length S.pre
    rw [List.length_take] at this
    omega
  have kc : base.get? cc = some ⟨cl, cld, .cell v0, csl⟩ := e0.mod.kin _ _ hcell
  have kb := e0.bs _ _ kc
  refine ⟨⟨e0.mod, S.kind, rfl, rfl, Nat.le_refl _, fun x y c h1 h2 => ?_, fun y hy => ?_, fun y c hfn h => ?_, fun _ => hd, Around.frames_deeper e0.frames, .inr ⟨rfl, rfl⟩, fun b z => absurd (show b ∈ ([] : List Addr) from z) (by simp), e0.bs, e0.bsz, fun b o _ z => absurd (show b ∈ ([] : List Addr) from z) (by simp), fun b z => absurd (show b ∈ ([] : List Addr) from z) (by simp), e0.funs, e0.frf⟩,
    rfl, e0.bare, Un.kept hk, ⟨_, hns, fun i y v h1 h2 h3 => ?_⟩, fun y c h => ?_, e0.hok.fresh (Nat.le_refl _), fun y c h => ?_, fun p hp => absurd (show p ∈ ([] : List (Addr × Obj)) from hp) (by simp), e0.hok.kept hk, ?_⟩
  · rw [(one_cell h1).1, (one_cell h2).1]
  · have hy : scope.names.lookup y = some .cell ∨ scope.names.lookup y = some .free := hy
    rcases hy with hy | hy
    · exact absurd rfl (S.noc _ (PySem.mem_of_lookup hy))
    · have := S.fre _ (PySem.mem_of_lookup hy) rfl
      dsimp only at this
      subst this
      exact ⟨cc, by show ([(("__class__" : Str), cc)] : List (Str × Addr)).lookup _ = _; simp⟩
  · have h := (one_cell h).1
    subst h
    cases hfn
  · have hi : i < vs.length := by
      unfold L2.start at h2
      by_cases hi : i < vs.length
      · exact hi
      · rw [List.getElem?_append_right (by simpa using hi), List.getElem?_replicate] at h2
        split at h2 <;> cases h2
    have ha : vs[i]? = some v := by
      unfold L2.start at h2
      rw [List.getElem?_append_left (by simpa using hi), List.getElem?_map] at h2
      obtain ⟨z, e, e2⟩ := Option.map_eq_some_iff.mp h2
      cases e2
      exact e
    obtain ⟨u, hu, rv⟩ := r.get ha
    have hp : ps[i]? = some y := by
      rw [← S.pre, List.getElem?_take_of_lt (by omega)]
      exact h1
    have ndP : ps.Nodup := by
      rw [← S.pre]
      exact S.nd.sublist (List.take_sublist _ _)
    exact ⟨u, rv, .inl ⟨S.par y (List.mem_of_getElem? hp), zip_rev ndP hp hu⟩⟩
  · obtain ⟨rfl, rfl⟩ := one_cell h
    exact ⟨v0, _, hk _ _ kb.1, rfl⟩
  · obtain ⟨rfl, rfl⟩ := one_cell h
    exact kb.2
  · unfold L2.start
    show _ = N.length
    rw [List.length_append, List.length_map, List.length_replicate]
    omega
end Xe
set_option Elab.async false
set_option linter.all false
set_option maxRecDepth 100000
set_option maxHeartbeats 2000000
/-! super().__init__(e), e the message, in an exception's __init__ -/
namespace Xe
open PySem PySem.Spec PyProof.Rows L2
open PySem.W (kxs_mw KxsAt)
section
variable {X : Cx} {pins : List (Addr × Obj)} {σ : L2.St} {H : Hp} {s : Shared} {a C u : Addr}
/-- the wrapper called -/
theorem call_mw {us : List Value} {Q : Value → Shared → Prop} {A : Around} {E : Value → Shared → Prop} (T : OexC X.K C) (I : Inv X pins σ H s) (e : H a = some (exo a C none)) (hu : s.heap.get? u = some (kxs_mw "ValueError.__init__" a)) (hl : us.length ≤ sizeLine) (h : ∀ s', Inv X pins σ H s' → Q .none s') :
    wpAny (model X.prog X.w) A (call (.ref u) us) Q E s := by
  obtain ⟨nm, q, N, bs, bm, sn, sub, ab, col, dd, k0, k1, k2, k3, k5, hC, hbm⟩ := T.cls
  obtain ⟨t1, ho⟩ := exo_at I.hok e
  have hC2 := I.kIn _ _ hC
  obtain ⟨hp, g, d, t, os⟩ := s
  refine wpAny_call (codeAny_of_tree ?_)
  show wpAny _ A.in1 (callAny (.ref u) ⟨us, []⟩) _ _ _
  simp only [callAny]
  refine wpAny_bind (wpAny_load hu ?_)
  simp only [kxs_mw, show (Value.type "method-wrapper" == Value.type "method" || Value.type "method-wrapper" == Value.type "builtin_function_or_method" || Value.type "method-wrapper" == Value.type "method-wrapper") = true by decide, if_true]
  refine PySem.W.KFB.if_so (by decide) ?_
  refine wpAny_bind (PySem.W.check_bound_init F.excBase_ValueError.toExcCallFacts hC2 ho rfl ?_)
  refine wpAny_bind (wpAny_pure (wpAny_pure ⟨plainId_quiet F.excBase_ValueError.init.plain _, codeAny_builtin F.excBase_ValueError.initEntry ?_⟩))
  refine PySem.W.exc_init_tree (cls := .ref C) (t0 := t1) (dv := none) (c2 := .none) (c3 := .none) (b4 := .bool false) ho hl fun h' k hx ht => ?_
  have J := I.write (t' := t) (x := a) (e := a) (o := exo a C none) (by rw [e]; exact True.intro) (.inl rfl) k ⟨_, hx⟩ (exo_ok hx)
  have eu : upd H a (exo a C none) = H := by
    funext b
    by_cases hb : b = a
    · rw [hb, upd_same, e]
    · rw [upd_ne hb]
  rw [eu] at J
  exact h _ J
end
section
open PySem.W
variable {CX : CXT} {P : Program} {w : World} {K : PySem.W.Frag} {mg : Str → Option Value} {base : Heap} {N : List Str} {qual : Str} {scope : Scope} {f cda cc : Addr} {A : Around} {outer : List Env} {s0 : Shared} {H0 : Hp} {E : XK}
/-- what the class C, its __init__ f and its code say, so that super().__init__ is ValueError's -/
structure SupC (P : Program) (K : PySem.W.Frag) (mg : Str → Option Value) (scope : Scope) (x0 : Str) (C f cda cc : Addr) : Prop where
  T : OexC K C
  hf : ∃ oc od fd osl ar, K.lookup f = some ⟨oc, od, .func fd, osl⟩ ∧ (fd.params.posonlyargs ++ fd.params.args).head? = some ar ∧ ar.arg = x0
  hc : ∃ ccl cdd vs ccs file tf, K.lookup cda = some ⟨ccl, cdd, .fields vs, ccs⟩ ∧ vs[2]? = some (.str file tf) ∧ ((P.main.file : Str) == file) = true
  top : (P.main.scope.names.lookup ("super" : Str)).isSome = false
  cell : ∃ cl cld csl, K.lookup cc = some ⟨cl, cld, .cell (some (.ref C)), csl⟩
  ks : scope.names.lookup ("super" : Str) = some .globalImplicit
  kc : scope.names.lookup ("__class__" : Str) = some .free
  k0 : scope.names.lookup x0 = some .local
  kind : scope.kind = .function
  mgs : mg "super" = none
  mro : mroIn K C (.ref C) = some true
  sup : ks_superIn K C C "__init__" = some (some (.builtin "ValueError.__init__"))
  sub : subIn K (.ref C) (.type "ValueError") = some true
  stat : nsIn K cStatics "thirdparty.any" = some none
theorem st_super {body : List Stmt} {x0 : Str} {a C : Addr} {e : Expr} {te : TE} {p0 p1 p2 p3 p4 : Pos} {pins : List (Addr × Obj)} {σ : L2.St} {H : Hp} {s : Shared} {Q : Hp → Prop} {pl : Sem Bool} (B : SupC P K mg scope x0 C f cda cc) (hN : N[0]? = some x0)
    (he : PE (cxS CX P w K mg base N qual scope f (.ref cda) cc A outer s0 H0 E) e te) (I : Inv (cxS CX P w K mg base N qual scope f (.ref cda) cc A outer s0 H0 E) pins σ H s) (hσ : σ[0]? = some (some (.ref a))) (ha : H a = some (exo a C none))
    (ht : te σ H fun v H1 => ([v] : List V).length ≤ 1000 ∧ H1 a = some (exo a C none) ∧ Q H1)
    (hc : eval (.Call (.Attribute (.Call (.Name "super" p0) [] [] p1) "__init__" p2) [e] [] p3) (envS qual scope s0.heap.objs.size f (.ref cda) cc) = (do
      let ov ← attributeBase (.Call (.Name "super" p0) [] [] p1) "__init__" (envS qual scope s0.heap.objs.size f (.ref cda) cc) (eval (.Call (.Name "super" p0) [] [] p1) (envS qual scope s0.heap.objs.size f (.ref cda) cc))
      standAt p2.atName
      let (f', first) ← holding [ov] (getMethod ov "__init__" pl)
      callWith p3 f' first (backTo p3 (starEach [e] (envS qual scope s0.heap.objs.size f (.ref cda) cc))) []) := by rfl)
    (hs : starEach [e] (envS qual scope s0.heap.objs.size f (.ref cda) cc) = (false, eval e (envS qual scope s0.heap.objs.size f (.ref cda) cc)) :: starEach [] (envS qual scope s0.heap.objs.size f (.ref cda) cc) := by rfl)
    (hi : interactive (envS qual scope s0.heap.objs.size f (.ref cda) cc) = false := by rfl) :
    _root_.PySem.wpAt (model P w) (A.deeper (envS qual scope s0.heap.objs.size f (.ref cda) cc)) (.func body (envS qual scope s0.heap.objs.size f (.ref cda) cc)) (exec (.Expr (.Call (.Attribute (.Call (.Name "super" p0) [] [] p1) "__init__" p2) [e] [] p3) p4) (envS qual scope s0.heap.objs.size f (.ref cda) cc))
      (fun fl s' => fl = .next ∧ ∃ H1, Inv (cxS CX P w K mg base N qual scope f (.ref cda) cc A outer s0 H0 E) pins σ H1 s' ∧ Q H1) (cxS CX P w K mg base N qual scope f (.ref cda) cc A outer s0 H0 E).xe s := by
  obtain ⟨oc, od, fd, osl, ar, hlf, hp, har⟩ := B.hf
  obtain ⟨ccl, cdd, vs, ccs, file, tf, hcode, hvs, hfile⟩ := B.hc
  obtain ⟨cl, cld, csl, hcell⟩ := B.cell
  have hks := B.ks
  have hkc := B.kc
  have hk := B.kind
  have hk0 := B.k0
  refine ks_wpAt_Expr_any (ks_wpAt_MethodCall (pl := pl) (ks_wpAt_super_base (f := f) (cc := cda) hks hkc (by decide) rfl (I.kIn _ _ hlf) rfl hp rfl (I.kIn _ _ hcode) rfl hvs hfile B.top ?_) hc) hi (by rfl)
  obtain ⟨mb, b1, b2⟩ := I.mod.blt
  refine ks_loadName_global hk hks (Calls.loadGlobal_builtin (show s.heap.Ns mainGlobals mg from I.mod.glob.keeps I.bk) B.mgs (show s.heap.Ns builtinsNs mb from b1.keeps I.bk) ((b2 _ (by decide)).trans (by decide +kernel : bootBuiltins "super" = some (.type "super"))) ⟨rfl, ?_⟩)
  refine wpAny_loadName_free hk hkc (c := cc) (by rfl) ⟨_, I.kIn _ _ hcell, rfl⟩ ?_
  obtain ⟨m, hns, hval⟩ := I.loc
  obtain ⟨u0, ru, hlk⟩ := hval 0 x0 _ hN hσ (.inl hk0)
  obtain rfl : u0 = Value.ref a := ru
  have hm0 : m ar.arg = some (.ref a) := by
    rcases hlk with ⟨_, h⟩ | ⟨h, _⟩
    · rw [har]
      exact h
    · have h : scope.names.lookup x0 = some .cell ∨ scope.names.lookup x0 = some .free := h
      rw [hk0] at h
      rcases h with h | h <;> cases h
  refine wpAny_loadName_local hk (by rw [har]; exact hk0) hns hm0 ?_
  obtain ⟨nm, q, N', bs, bm, sn, sub, ab, col, dd, k0, k1, k2, k3, k5, hC, hbm⟩ := B.T.cls
  have hD1 := I.kIn _ _ hC
  have hcl : clsIn K C = some { name := nm, bases := bs, mro := .ref C :: bm, ns := N', qualname := q, hasDict := true, slotNames := sn, subclasses := sub, abstract := ab, collection := col, hasDel := false } := by
    unfold clsIn
    rw [hC]
  have hsup := B.sup
  unfold ks_superIn at hsup
  rw [hcl] at hsup
  refine ks_wpAny_isType_cls hD1 rfl ⟨rfl, ?_⟩
  obtain ⟨t1, hx⟩ := exo_at I.hok ha
  have Xk : K.In s.heap := I.kIn
  obtain ⟨hh, g, d, tk, os⟩ := s
  refine ks_wpAny_call_super hD1 rfl hx rfl (fun c z => by cases z) (looks_mroIn Xk B.mro) (fun h' e' k => ?_)
  have J1 : L2.Inv (cxS CX P w K mg base N qual scope f (.ref cda) cc A outer s0 H0 E) pins σ H ⟨h', g, d, tk, os⟩ := I.kept (t' := tk) k
  have Xk1 : K.In h' := J1.kIn
  have Ii : InstAt h' a _ C none := ⟨k _ _ hx, rfl, rfl, trivial⟩
  have hI : Looks (model P w) h' (isInstance (.ref a) (.type "ValueError")) true := Ii.type.andThen (looks_subIn Xk1 B.sub)
  refine kxs_getMethod kxs_ValueError e' (looks_opaque Xk1 B.stat) (l₀ := .ref C :: bm) (fun A Q E s k q => wpAny_bind ((looks_clsIn Xk1 hcl) A _ E s k (wpAny_pure q))) rfl Xk1 hsup hI (ks_ne Xk1 Ii hcl) (by decide) ?_
  have J2 : L2.Inv (cxS CX P w K mg base N qual scope f (.ref cda) cc A outer s0 H0 E) ((h'.objs.size, kxs_mw "ValueError.__init__" a) :: pins) σ H ⟨h'.push (kxs_mw "ValueError.__init__" a), g, d, tk + 1, os⟩ :=
    ClX.pin_new (t' := tk + 1) J1 (fun b o e => Heap.get?_push_of_some _ e) (Nat.le_refl _) (Heap.get?_push_at rfl rfl) (fun v z => by cases z)
  refine kxs_callWith (i := "ValueError.__init__") (x := a) (by rw [hs]; rfl) ?_
  have hq : wpAny (model P w) (A.deeper (envS qual scope s0.heap.objs.size f (.ref cda) cc)) (spliced (backTo p3 (starEach [e] (envS qual scope s0.heap.objs.size f (.ref cda) cc))))
      (fun us s₁ => KxsAt "ValueError.__init__" h'.objs.size a s₁.heap ∧ wpAny (model P w) (A.deeper (envS qual scope s0.heap.objs.size f (.ref cda) cc)) (call (.ref h'.objs.size) us) (fun _ s' => (Flow.next = Flow.next) ∧ ∃ H1, L2.Inv (cxS CX P w K mg base N qual scope f (.ref cda) cc A outer s0 H0 E) pins σ H1 s' ∧ Q H1) (cxS CX P w K mg base N qual scope f (.ref cda) cc A outer s0 H0 E).xe s₁)
      (cxS CX P w K mg base N qual scope f (.ref cda) cc A outer s0 H0 E).xe ⟨h'.push (kxs_mw "ValueError.__init__" a), g, d, tk + 1, os⟩ :=
    thn ((pa_cons he pa_nil hs).run p3 _ _ σ H (fun (vs : List V) H1 => vs.length ≤ 1000 ∧ H1 a = some (exo a C none) ∧ Q H1) J2 ht) fun us s1 ⟨vs, H1, I1, r1, q0, q1, q2⟩ => ⟨ClX.pin_at I1, call_mw B.T (ClX.unpin I1) q1 (ClX.pin_at I1) (by
      rw [← r1.length, sizeLine_eq]
      omega) fun s' J => ⟨rfl, H1, J, q2⟩⟩
  rw [hs] at hq ⊢
  exact Calls.evalArgs_plain hq
end
end Xe
set_option Elab.async false
set_option linter.all false
set_option maxRecDepth 100000
set_option maxHeartbeats 2000000
/-! the __init__ as a def's promise; the class called -/
namespace Xe
open PySem PySem.Spec PyProof.Rows L2 PySem.W
section
variable {CX : CXT} {P : Program} {w : World} {K : PySem.W.Frag} {mg : Str → Option Value} {base : Heap} {N ps : List Str} {name qual : Str} {params : Arguments} {scope : Scope} {f cda cc C : Addr} {k : Nat} {dV kV doc pm ct oc : Value} {an od : Option Addr} {osl : Array (Option Value)}
theorem fn_super {x0 : Str} {e : Expr} {rest : List Stmt} {te : TE} {t : TS} {p0 p1 p2 p3 p4 : Pos} {pl : Sem Bool} (lk : K.lookup f = some ⟨oc, od, .func (ksFn name qual params (.Expr (.Call (.Attribute (.Call (.Name "super" p0) [] [] p1) "__init__" p2) [e] [] p3) p4 :: rest) scope dV kV doc pm an (.ref cda) ct cc), osl⟩)
    (hcd : codeIn K (.ref cda) qual = true) (S : SupScope N ps scope) (B : SupC P K mg scope x0 C f cda cc) (hN : N[0]? = some x0)
    (he : ∀ (A : Around) (outer : List Env) (s : Shared) (H : Hp) (E : XK), PE (cxS CX P w K mg base N qual scope f (.ref cda) cc A outer s H E) e te)
    (hr : ∀ (A : Around) (outer : List Env) (s : Shared) (H : Hp) (E : XK), PSs (cxS CX P w K mg base N qual scope f (.ref cda) cc A outer s H E) rest t)
    (hc : ∀ L : Addr, eval (.Call (.Attribute (.Call (.Name "super" p0) [] [] p1) "__init__" p2) [e] [] p3) (envS qual scope L f (.ref cda) cc) = (do
      let ov ← attributeBase (.Call (.Name "super" p0) [] [] p1) "__init__" (envS qual scope L f (.ref cda) cc) (eval (.Call (.Name "super" p0) [] [] p1) (envS qual scope L f (.ref cda) cc))
      standAt p2.atName
      let (f', first) ← holding [ov] (getMethod ov "__init__" pl)
      callWith p3 f' first (backTo p3 (starEach [e] (envS qual scope L f (.ref cda) cc))) []))
    (hs : ∀ L : Addr, starEach [e] (envS qual scope L f (.ref cda) cc) = (false, eval e (envS qual scope L f (.ref cda) cc)) :: starEach [] (envS qual scope L f (.ref cda) cc))
    (hi : ∀ L : Addr, interactive (envS qual scope L f (.ref cda) cc) = false) :
    FnOk P w K mg base CX (k + 1) f (ksFn name qual params (.Expr (.Call (.Attribute (.Call (.Name "super" p0) [] [] p1) "__init__" p2) [e] [] p3) p4 :: rest) scope dV kV doc pm an (.ref cda) ct cc) ps
      (fun vs H Q E => vs.length = ps.length ∧ ∃ a, vs[0]? = some (.ref a) ∧ H a = some (exo a C none) ∧ te (L2.start N vs) H fun v H1 => ([v] : List V).length ≤ 1000 ∧ H1 a = some (exo a C none) ∧ t { nx := fun _ H' => Q .non H', rt := Q } (L2.start N vs) H1) := by
  refine ⟨fun _ _ _ _ h => h.1, fun A outer s H args us vs Q E hr0 e0 hb r ⟨hl, a, h0, ha, ht⟩ => ?_⟩
  have KX : K.In s.heap := e0.mod.kin.keeps fun b o e => (e0.bs b o e).1
  have lim : s.heap.NoLimit := e0.mod.nolimit.keeps fun b o e => (e0.bs b o e).1
  obtain ⟨cl, cld, csl, hcell⟩ := B.cell
  refine ks_codeAny_call_defAt hr0.depth (KX _ _ lk) rfl lim (codeRec_of KX hcd) rfl hb S.noc (fun y hy => S.par y.1 (List.of_mem_zip hy).1) (fun h₀ hns kk => ?_) S.co S.gen S.kind
  have I : L2.Inv (cxS CX P w K mg base N qual scope f (.ref cda) cc A outer s H E) [] (L2.start N vs) H { s with heap := h₀, toks := s.toks + (ps.zip us).length } := inv_super S hr0.hd e0 hl r hcell hns kk
  have hσ : (L2.start N vs)[0]? = some (some (.ref a)) := by
    unfold L2.start
    have h1 := (List.getElem?_eq_some_iff.mp h0).1
    rw [List.getElem?_append_left (by simpa using h1), List.getElem?_map, h0]
    rfl
  refine ks_wpAt_execs_cons (ks_wpAt_mono (st_super B hN (he A outer s H E) I hσ ha ht (hc _) (hs _) (hi _)) (fun fl s' ⟨hfl, H1, J, q⟩ => ?_) fun _ _ z => z)
  subst hfl
  refine wpAt_of_wpAny (wpAny_mono ((hr A outer s H E).run [] s' (L2.start N vs) H1 _ J q) (fun fl s2 hs2 => ?_) fun e s2 hs2 => hs2)
  have fin : ∀ {σ' : L2.St} {H' : Hp} {v : V} {u : Value}, L2.Inv (cxS CX P w K mg base N qual scope f (.ref cda) cc A outer s H E) [] σ' H' s2 → RelV v u → Q v H' → CE outer P w H s Q u s2 :=
    fun {σ' H' v u} J rv q => ⟨v, H', J.os, J.bare, J.base, J.hok, rv, q⟩
  cases fl with
  | ret u =>
    obtain ⟨v, σ', H', J, rv, q⟩ := hs2
    exact fin J rv q
  | next =>
    obtain ⟨σ', H', J, q⟩ := hs2
    exact fin (v := V.non) (u := Value.none) J rfl q
  | brk =>
    obtain ⟨_, _, _, q⟩ := hs2
    exact q.elim
  | cont =>
    obtain ⟨_, _, _, q⟩ := hs2
    exact q.elim
end
section
variable {X : Cx}
/-- C(e, ..), as a value: the exception stays among what is tracked -/
theorem pe_mkS {CX : CXT} {x : Str} {C fI : Addr} {k : Nat} {fd : FuncData} {ps : List Str} {sp : Sp} {e : Expr} {es : List Expr} {ta : TA} {p pos : Pos} (T : OexC X.K C) (iC : findIn X.K (.ref C) "__init__" = some (some (.ref fI))) (tI : typeIn X.K (.ref fI) = some (.type "function"))
    (F1 : FnOk X.prog X.w X.K X.mg X.base CX k fI fd ps sp) (hr : Room (k + 1) X.A) (hb : Binds X.K fd ps []) (hx : Passes CX X (fun _ _ _ => False)) (hg : Gl X x) (hm : X.mg x = some (.ref C)) (ha : PA X (e :: es) ta)
    (hdb : (x == ("__debug__" : Str)) = false := by decide) (he : starEach (e :: es) X.env = (false, eval e X.env) :: starEach es X.env := by rfl) (hpl : (backTo pos (starEach es X.env)).any (·.1) = false := by rfl) :
    PE X (.Call (.Name x p) (e :: es) [] pos) (fun σ H Q => ta σ H fun vs H1 => vs.length ≤ 1000 ∧ ∀ a, H1 a = none → sp (.ref a :: vs) (upd H1 a (exo a C none)) (fun v H2 => v = .non ∧ Q (.ref a) H2) (fun _ _ _ => False)) := by
  refine ⟨fun pins s σ H Q I h => wpAny_Call_Name_kw (ld_glob I hg hm (callWith_K (h₀ := X.base) I.ok.mod.kin T.kC (thn (ha.run pos pins s σ H _ I h) fun us s1 ⟨vs, H1, I1, r1, hz, q1⟩ => ⟨I1.kIn, ?_⟩) he hpl) hdb)⟩
  show wpAny _ _ (call (.ref C) us) _ _ _
  obtain ⟨nm, q, N, bs, bm, sn, sub, ab, col, dd, k0, k1, k2, k3, k5, hC, hbm⟩ := T.cls
  have KX := I1.kIn
  obtain ⟨hp, g, dr, tk, os⟩ := s1
  have up : ∀ b o, hp.get? b = some o → ((hp.push (kdv_tup us)).push (HandSPX.excO C hp.objs.size)).get? b = some o := fun b o e => Heap.get?_push_of_some _ (Heap.get?_push_of_some _ e)
  have at1 : ((hp.push (kdv_tup us)).push (HandSPX.excO C hp.objs.size)).get? (hp.objs.size + 1) = some (HandSPX.excO C hp.objs.size) := by heap_get
  have hn : H1 (hp.objs.size + 1) = none := I1.hok.fresh (Nat.le_succ _)
  have hq := q1 (hp.objs.size + 1) hn
  have I2 : L2.Inv X pins σ (upd H1 (hp.objs.size + 1) (exo (hp.objs.size + 1) C none)) ⟨(hp.push (kdv_tup us)).push (HandSPX.excO C hp.objs.size), g, dr, tk, os⟩ := I1.laid (t' := tk) (h' := (hp.push (kdv_tup us)).push (HandSPX.excO C hp.objs.size)) up (Nat.le_succ _) (exo_ok at1)
  have r2 : Vals (V.ref (hp.objs.size + 1) :: vs) (Value.ref (hp.objs.size + 1) :: us) := .cons rfl r1
  have hl : (Value.ref (hp.objs.size + 1) :: us ++ []).length = ps.length := by
    rw [List.append_nil, ← r2.length, F1.len _ _ _ _ hq]
  have hb2 := hb ⟨(hp.push (kdv_tup us)).push (HandSPX.excO C hp.objs.size), g, dr, tk, os⟩ (Value.ref (hp.objs.size + 1) :: us) I2.kIn hl
  rw [List.append_nil] at hb2
  refine wpAny_call (HandSPX.call_own F.excBase_ValueError (fun Y => HandSPX.refsVE_contains Y bm hbm) (KX _ _ hC) (looks_findIn KX iC) (fun self => bind_fn KX self tI) ?_ (codeAny_mono (F1.run _ X.stack _ _ ⟨Value.ref (hp.objs.size + 1) :: us, []⟩ _ _ _ (fun _ _ _ => False) (hr.make C us []) (I2.env0.make C us []) hb2 r2 hq) fun r s' hq' => ?_))
  · rw [← r1.length, sizeLine_eq]
    omega
  cases r with
  | error er => exact hx pins σ _ _ er s' I2 hq'
  | ok fl =>
    cases fl with
    | ret u =>
      obtain ⟨v, H2, os2, bare2, un2, hok2, rv, ev, q2⟩ := hq'
      subst ev
      exact ⟨rv, .ref (hp.objs.size + 1), H2, I2.call' (ch := []) os2 un2 hok2 bare2 (fun b z => absurd z (by simp)), rfl, q2⟩
    | next => exact hq'.elim
    | brk => exact hq'.elim
    | cont => exact hq'.elim
end
end Xe
set_option Elab.async false
set_option linter.all false
set_option maxRecDepth 100000
set_option maxHeartbeats 4000000
/-! exceptions as data: made without an __init__ of their own, asked for their class, read -/
namespace Dl
open PySem PySem.Spec PyProof.Rows L2 Xe
/-- the first row of an exception of the class c -/
def xHd (c : Nat) : D × D := (.none, .tuple [.int c])
def cExc0 {S : Type} (c : Nat) (f : Ev S) : Ev S := fun ρ s => bnd (f ρ s) fun _ s => some (.dict [xHd c], s)
def cIsX {S : Type} (t : Int → Bool) (f : Ev S) : Ev S := fun ρ s => bnd (f ρ s) fun d s => match d with
  | .dict ((.none, .tuple [.int c]) :: _) => some (.bool (t c), s)
  | _ => none
def cAtX {S : Type} (x : Str) (f : Ev S) : Ev S := fun ρ s => bnd (f ρ s) fun d s => match d with
  | .dict ((.none, .tuple [.int _]) :: fs) => put (obG fs x) s
  | _ => none
section
variable {S : Type} {X : Cx} {G : Kx} {Z : Zk S} {W : List Nat} {f : Ev S} {e a b : Expr} {x : Str} {p pos : Pos}
theorem ex_exc0 {c : Nat} {C : Addr} {bmB : List Value} {B newId initId : String} (F : ExcBaseFacts B newId initId bmB) (q : PySem.W.excIn X.K C bmB newId = true) (gC : X.mg x = some (.ref C)) (kC : PySem.W.keepIn X.K (.ref C) = true) (hC : G.hd (2000 + c) C) (hg : Gl X x)
    (he : PE X e (tEx G Z W f)) (hs : starEach [e] X.env = (false, eval e X.env) :: starEach [] X.env := by rfl) (hdb : (x == ("__debug__" : Str)) = false := by decide) : PE X (.Call (.Name x p) [e] [] pos) (tEx G Z W (cExc0 c f)) :=
  imp_pe (pe_exN F q gC kC hg he hs hdb) fun σ H Q ⟨B, O, ρ, s, d, s', eo, hR, hf, q⟩ => by
    unfold cExc0 at hf
    obtain ⟨y, s1, h1, hf⟩ := bnd_some hf
    cases hf
    refine ⟨B, O, ρ, s, y, _, eo, hR, h1, fun v H1 f1 r1 R1 a na => q _ _ (f1.trans (Lc.Fr.new na)) ?_ (Z.same R1 (Lc.same_new na))⟩
    simp only [Rep]
    refine ⟨a, rfl, .inr (.inr (.inr (.inr ⟨c, rfl, C, none, [], hC, upd_same, (eo.fr f1).new na, .inl ⟨rfl, rfl⟩, ?_⟩)))⟩
    unfold xHd
    simp only [Repo]
    exact .inl ⟨trivial, trivial⟩
/-- an exception in the heap -/
theorem rep_exc {B : Bar} {H : Hp} {i : Int} {fs : List (D × D)} {v : V} (h : Rep G B H (.dict ((.none, .tuple [.int i]) :: fs)) v) : ∃ (c : Nat) (a C : Addr) (d : Option Addr) (fv : List (Str × V)), i = c ∧ v = .ref a ∧ G.hd (2000 + c) C ∧ H a = some (exo a C d) ∧ DxOk H d fv ∧ Repo G B H fs fv := by
  simp only [Rep] at h
  obtain ⟨a, rfl, ⟨n, e1, _⟩ | ⟨e1, _⟩ | ⟨c, e1, _⟩ | ⟨ks, e1, _⟩ | ⟨c, e1, C, d, fv, h1, h2, _, h3, h4⟩⟩ := h
  · cases e1
  · cases e1
  · cases e1
  · cases e1
  · refine ⟨c, a, C, d, fv, by simpa using e1, rfl, h1, h2, h3.imp id fun ⟨dx, z1, z2, _⟩ => ⟨dx, z1, z2⟩, ?_⟩
    simp only [Repo] at h4
    rcases h4 with ⟨_, h4⟩ | ⟨_, _, _, _, e9, _⟩
    · exact h4
    · cases e9
theorem ex_isX {t : Int → Bool} {v : V} {cv : Value} (hg : Gl X "isinstance") (hm : X.mg "isinstance" = none) (ha : PE X a (tEx G Z W f)) (hb : PE X b (tC v)) (hv : ∀ u, RelV v u → u = cv) (hC : ∀ (c : Nat) C, G.hd (2000 + c) C → ExcC X.K C ∧ PySem.W.kitOne X.K (.ref C) cv = some (t c))
    (he : starEach [a, b] X.env = (false, eval a X.env) :: starEach [b] X.env := by rfl) (he2 : starEach [b] X.env = (false, eval b X.env) :: starEach [] X.env := by rfl) (hpl : (backTo pos (starEach [b] X.env)).any (·.1) = false := by rfl) (hbt : bootBuiltins "isinstance" = some (.builtin "isinstance") := by decide +kernel) :
    PE X (.Call (.Name "isinstance" p) [a, b] [] pos) (tEx G Z W (cIsX t f)) :=
  imp_pe (pe_callB call_isX hg hm hbt (pa_cons ha (pa_cons hb pa_nil he2) he) (by decide) (by decide) he hpl) fun σ H Q ⟨B, O, ρ, s, d, s', eo, hR, hf, q⟩ => by
    unfold cIsX at hf
    obtain ⟨y, s1, h1, hf⟩ := bnd_some hf
    refine ⟨B, O, ρ, s, y, s1, eo, hR, h1, fun u H1 f1 r1 R1 => ?_⟩
    split at hf
    · cases hf
      obtain ⟨c, a, C, d, fv, rfl, rfl, h3, h4, h5, _⟩ := rep_exc r1
      exact ⟨a, C, d, fv, v, cv, t c, rfl, h4, h5, (hC c C h3).1, hv, (hC c C h3).2, q _ H1 f1 (by simp only [Rep]) R1⟩
    · cases hf
theorem ex_atX (ha : PE X a (tEx G Z W f)) (hC : ∀ (c : Nat) C, G.hd (2000 + c) C → XfC X.K C ∧ PySem.W.findIn X.K (.ref C) x = some none) (hb : attributeBase a x X.env (eval a X.env) = eval a X.env := by rfl) : PE X (.Attribute a x pos) (tEx G Z W (cAtX x f)) :=
  imp_pe (pe_xa ha hb) fun σ H Q ⟨B, O, ρ, s, d, s', eo, hR, hf, q⟩ => by
    unfold cAtX at hf
    obtain ⟨y, s1, h1, hf⟩ := bnd_some hf
    refine ⟨B, O, ρ, s, y, s1, eo, hR, h1, fun u H1 f1 r1 R1 => ?_⟩
    split at hf
    · obtain ⟨hd, rfl⟩ := put_some hf
      obtain ⟨c, a, C, d, fv, rfl, rfl, h3, h4, h5, h6⟩ := rep_exc r1
      obtain ⟨v, h7, h8⟩ := repo_get h6 hd
      rcases h5 with ⟨_, rfl⟩ | ⟨dx, rfl, h5⟩
      · cases h7
      · exact ⟨a, C, dx, fv, v, rfl, h4, h5, (hC c C h3).1, (hC c C h3).2, h7, q v H1 f1 h8 R1⟩
    · cases hf
end
end Dl
set_option Elab.async false
set_option linter.all false
set_option maxRecDepth 100000
set_option maxHeartbeats 4000000
/-! exceptions as data: made with an __init__ of their own, one field or two -/
namespace Dl
open PySem PySem.Spec PyProof.Rows L2 Xe
/-- what an __init__ with super() promises (fn_super) -/
def spX (C : Addr) (N ps : List Str) (te : TE) (t : TS) : Sp := fun vs H Q E => vs.length = ps.length ∧ ∃ a, vs[0]? = some (.ref a) ∧ H a = some (exo a C none) ∧ te (L2.start N vs) H fun v H1 => ([v] : List V).length ≤ 1000 ∧ H1 a = some (exo a C none) ∧ t { nx := fun _ H' => Q .non H', rt := Q } (L2.start N vs) H1
def cExc2 {S : Type} (c : Nat) (x y : Str) (g : Ev S) (fa : Ea S) : Ev S := fun ρ s => bnd (fa ρ s) fun ds s => match ds with
  | [d1, d2] => bnd (g [none, some d1, some d2] s) fun _ s => some (.dict [xHd c, (.str y, d2), (.str x, d1)], s)
  | _ => none
def cExc1 {S : Type} (c : Nat) (x : Str) (g : Ev S) (fa : Ea S) : Ev S := fun ρ s => bnd (fa ρ s) fun ds s => match ds with
  | [d1] => bnd (g [none, some d1] s) fun _ s => some (.dict [xHd c, (.str x, d1)], s)
  | _ => none
section
variable {S : Type} {X : Cx} {G : Kx} {Z : Zk S} {W : List Nat} {fa : Ea S} {g : Ev S} {e : Expr} {es : List Expr} {x : Str} {p pos : Pos}
/-- the slots of the __init__ -/
theorem ini_eo {σ : L2.St} {ρ : Rho} {B O : Bar} {H1 : Hp} {a C : Addr} {ds : List D} {vs : List V} {N : List Str} (e1 : Eo G Z W B O H1 σ ρ) (na : H1 a = none) (r1 : Reps G (fun b => B b ∨ O b) H1 ds vs) (hN : N.length = ds.length + 1) :
    Eo G Z [] (fun b => (B b ∨ O b) ∨ b = a) (fun _ => False) (upd H1 a (exo a C none)) (L2.start N (.ref a :: vs)) (none :: ds.map some) where
  er := {
    len := by
      unfold L2.start
      have := r1.len
      simp
      omega
    pl := fun i d _ hd => by
      cases i with
      | zero => cases hd
      | succ i =>
        have hd : (ds.map some)[i]? = some (some d) := hd
        rw [List.getElem?_map] at hd
        obtain ⟨d', h1, h2⟩ := Option.map_eq_some_iff.mp hd
        cases h2
        obtain ⟨v, h3, h4⟩ := r1.get h1
        refine ⟨v, ?_, h4.mv fun b o eb nb => ⟨by rw [upd_ne (ne_of_none eb na)]; exact eb, fun z => z.elim (fun z => z.elim nb (ne_of_none eb na)) id⟩⟩
        unfold L2.start
        rw [List.getElem?_append_left (by have := (List.getElem?_eq_some_iff.mp h3).1; simp; omega)]
        rw [List.map_cons, List.getElem?_cons_succ, List.getElem?_map, h3]
        rfl
    ow := ⟨fun _ => 0, (fun _ _ _ _ z => by cases z), (fun _ _ z => by cases z)⟩ }
  bd := fun b z => by
    by_cases hb : b = a
    · rw [hb, upd_same]
      simp
    · rw [upd_ne hb]
      rcases z with (z | z) | z
      · exact e1.bd b z
      · exact e1.od b z
      · exact absurd z hb
  ol := fun _ z => z.elim
  mb := fun b z => .inl (.inl (e1.mb b z))
  ob := fun _ z => z.elim
theorem ex_exc2 {c k : Nat} {C fI : Addr} {fd : FuncData} {N ps : List Str} {f1 f2 : Str} (T : OexC X.K C) (iC : PySem.W.findIn X.K (.ref C) "__init__" = some (some (.ref fI))) (tI : PySem.W.typeIn X.K (.ref fI) = some (.type "function"))
    (F1 : FnOk X.prog X.w X.K X.mg X.base CX0 k fI fd ps (spX C N ps (tEx G Z [] g) (tSeq (tOst X.K f1 (tVar 0) (tVar 1)) (tOst X.K f2 (tVar 0) (tVar 2))))) (hN : N.length = 3) (hps : ps.length = 3) (n1 : PySem.W.findIn X.K (.ref C) f1 = some none) (n2 : PySem.W.findIn X.K (.ref C) f2 = some none) (hC : G.hd (2000 + c) C)
    (hr : Room (k + 1) X.A) (hb : Binds X.K fd ps []) (hg : Gl X x) (hm : X.mg x = some (.ref C)) (ha : PA X (e :: es) (tEa G Z W fa)) (hdb : (x == ("__debug__" : Str)) = false := by decide) (he : starEach (e :: es) X.env = (false, eval e X.env) :: starEach es X.env := by rfl) (hpl : (backTo pos (starEach es X.env)).any (·.1) = false := by rfl) :
    PE X (.Call (.Name x p) (e :: es) [] pos) (tEx G Z W (cExc2 c f1 f2 g fa)) :=
  imp_pe (pe_mkS T iC tI F1 hr hb pass0 hg hm ha hdb he hpl) fun σ H Q ⟨B, O, ρ, s, ds, s', eo, hR, hf, q⟩ => by
    unfold cExc2 at hf
    obtain ⟨ds', s1, h1, hf⟩ := bnd_some hf
    split at hf
    · rename_i d1 d2
      obtain ⟨y, s2, h2, hf⟩ := bnd_some hf
      cases hf
      refine ⟨B, O, ρ, s, [d1, d2], s1, eo, hR, h1, fun vs H1 fr1 r1 R1 => ?_⟩
      have e1 := eo.fr fr1
      have r1' := r1
      simp only [Reps] at r1'
      obtain ⟨v1, _, rfl, q1, v2, _, rfl, q2, rfl⟩ := r1'
      refine ⟨by show 2 ≤ 1000; decide, fun a na => ⟨by rw [hps]; rfl, a, rfl, upd_same, ?_⟩⟩
      have nM : ¬ Z.M a := fun z => Z.dom H1 s1 a R1 z na
      refine ⟨_, _, _, s1, y, _, ini_eo e1 na r1 (by rw [hN]; rfl), Z.same R1 (Lc.same_new na), h2, fun v H2 fr2 _ R2 => ⟨by simp, fr2.at upd_same nM, ?_⟩⟩
      have hA2 : H2 a = some (exo a C none) := fr2.at upd_same nM
      have s0 : (L2.start N [.ref a, v1, v2])[0]? = some (some (.ref a)) := rfl
      have s1' : (L2.start N [.ref a, v1, v2])[1]? = some (some v1) := rfl
      have s2' : (L2.start N [.ref a, v1, v2])[2]? = some (some v2) := rfl
      refine ⟨v1, s1', .ref a, s0, a, C, rfl, T, n1, .inl ⟨hA2, fun dx ndx ne => ?_⟩⟩
      refine ⟨v2, s2', .ref a, s0, a, C, rfl, T, n2, .inr ⟨dx, [(f1, v1)], upd_same, by rw [upd_ne ne, upd_same], by simp, rfl, ?_⟩⟩
      have keep : ∀ b o, H2 b = some o → b ≠ a → upd (upd (upd H2 dx (exd dx [(f1, v1)])) a (exo a C (some dx))) dx (exd dx [(f2, v2), (f1, v1)]) b = some o := fun b o hb hba => by
        have hbd := ne_of_none hb ndx
        rw [upd_ne hbd, upd_ne hba, upd_ne hbd]
        exact hb
      have nd1 : H1 dx = none := by
        cases z : H1 dx with
        | none => rfl
        | some o =>
          obtain ⟨o', z2, _⟩ := fr2 dx o (by rw [upd_ne ne]; exact z)
          rw [ndx] at z2
          cases z2
      have mvv : ∀ b o, H1 b = some o → ¬ (B b ∨ O b) → upd (upd (upd H2 dx (exd dx [(f1, v1)])) a (exo a C (some dx))) dx (exd dx [(f2, v2), (f1, v1)]) b = some o ∧ ¬ (B b ∨ O b) := fun b o hb nb =>
        ⟨keep b o (fr2.at (by rw [upd_ne (ne_of_none hb na)]; exact hb) fun z => nb (.inl (e1.mb b z))) (ne_of_none hb na), nb⟩
      refine q _ _ (fr1.trans fun b o hb => ?_) ?_ (Z.loc H2 _ _ R2 fun b mb => ?_)
      · obtain ⟨o', z1, z2⟩ := fr2 b o (by rw [upd_ne (ne_of_none hb na)]; exact hb)
        exact ⟨o', keep b o' z1 (ne_of_none hb na), z2⟩
      · simp only [Rep]
        refine ⟨a, rfl, .inr (.inr (.inr (.inr ⟨c, rfl, C, some dx, [(f2, v2), (f1, v1)], hC, by rw [upd_ne (Ne.symm ne), upd_same], e1.new na, .inr ⟨dx, rfl, upd_same, e1.new nd1⟩, ?_⟩)))⟩
        unfold xHd
        simp only [Repo]
        exact .inl ⟨trivial, .inr ⟨f2, v2, _, rfl, rfl, q2.mv mvv, .inr ⟨f1, v1, _, rfl, rfl, q1.mv mvv, rfl⟩⟩⟩
      · have h0 := Z.dom H2 _ b R2 mb
        obtain ⟨o, ho⟩ := some_of_ne h0
        have hba : b ≠ a := fun z => nM (z ▸ mb)
        rw [keep b o ho hba, ho]
    · cases hf
theorem ex_exc1 {c k : Nat} {C fI : Addr} {fd : FuncData} {N ps : List Str} {f1 : Str} (T : OexC X.K C) (iC : PySem.W.findIn X.K (.ref C) "__init__" = some (some (.ref fI))) (tI : PySem.W.typeIn X.K (.ref fI) = some (.type "function"))
    (F1 : FnOk X.prog X.w X.K X.mg X.base CX0 k fI fd ps (spX C N ps (tEx G Z [] g) (tOst X.K f1 (tVar 0) (tVar 1)))) (hN : N.length = 2) (hps : ps.length = 2) (n1 : PySem.W.findIn X.K (.ref C) f1 = some none) (hC : G.hd (2000 + c) C)
    (hr : Room (k + 1) X.A) (hb : Binds X.K fd ps []) (hg : Gl X x) (hm : X.mg x = some (.ref C)) (ha : PA X (e :: es) (tEa G Z W fa)) (hdb : (x == ("__debug__" : Str)) = false := by decide) (he : starEach (e :: es) X.env = (false, eval e X.env) :: starEach es X.env := by rfl) (hpl : (backTo pos (starEach es X.env)).any (·.1) = false := by rfl) :
    PE X (.Call (.Name x p) (e :: es) [] pos) (tEx G Z W (cExc1 c f1 g fa)) :=
  imp_pe (pe_mkS T iC tI F1 hr hb pass0 hg hm ha hdb he hpl) fun σ H Q ⟨B, O, ρ, s, ds, s', eo, hR, hf, q⟩ => by
    unfold cExc1 at hf
    obtain ⟨ds', s1, h1, hf⟩ := bnd_some hf
    split at hf
    · rename_i d1
      obtain ⟨y, s2, h2, hf⟩ := bnd_some hf
      cases hf
      refine ⟨B, O, ρ, s, [d1], s1, eo, hR, h1, fun vs H1 fr1 r1 R1 => ?_⟩
      have e1 := eo.fr fr1
      have r1' := r1
      simp only [Reps] at r1'
      obtain ⟨v1, _, rfl, q1, rfl⟩ := r1'
      refine ⟨by show 1 ≤ 1000; decide, fun a na => ⟨by rw [hps]; rfl, a, rfl, upd_same, ?_⟩⟩
      have nM : ¬ Z.M a := fun z => Z.dom H1 s1 a R1 z na
      refine ⟨_, _, _, s1, y, _, ini_eo e1 na r1 (by rw [hN]; rfl), Z.same R1 (Lc.same_new na), h2, fun v H2 fr2 _ R2 => ⟨by simp, fr2.at upd_same nM, ?_⟩⟩
      have hA2 : H2 a = some (exo a C none) := fr2.at upd_same nM
      have s0 : (L2.start N [.ref a, v1])[0]? = some (some (.ref a)) := rfl
      have s1' : (L2.start N [.ref a, v1])[1]? = some (some v1) := rfl
      refine ⟨v1, s1', .ref a, s0, a, C, rfl, T, n1, .inl ⟨hA2, fun dx ndx ne => ?_⟩⟩
      refine ⟨rfl, ?_⟩
      have keep : ∀ b o, H2 b = some o → b ≠ a → upd (upd H2 dx (exd dx [(f1, v1)])) a (exo a C (some dx)) b = some o := fun b o hb hba => by
        have hbd := ne_of_none hb ndx
        rw [upd_ne hba, upd_ne hbd]
        exact hb
      have nd1 : H1 dx = none := by
        cases z : H1 dx with
        | none => rfl
        | some o =>
          obtain ⟨o', z2, _⟩ := fr2 dx o (by rw [upd_ne ne]; exact z)
          rw [ndx] at z2
          cases z2
      have mvv : ∀ b o, H1 b = some o → ¬ (B b ∨ O b) → upd (upd H2 dx (exd dx [(f1, v1)])) a (exo a C (some dx)) b = some o ∧ ¬ (B b ∨ O b) := fun b o hb nb =>
        ⟨keep b o (fr2.at (by rw [upd_ne (ne_of_none hb na)]; exact hb) fun z => nb (.inl (e1.mb b z))) (ne_of_none hb na), nb⟩
      refine q _ _ (fr1.trans fun b o hb => ?_) ?_ (Z.loc H2 _ _ R2 fun b mb => ?_)
      · obtain ⟨o', z1, z2⟩ := fr2 b o (by rw [upd_ne (ne_of_none hb na)]; exact hb)
        exact ⟨o', keep b o' z1 (ne_of_none hb na), z2⟩
      · simp only [Rep]
        refine ⟨a, rfl, .inr (.inr (.inr (.inr ⟨c, rfl, C, some dx, [(f1, v1)], hC, upd_same, e1.new na, .inr ⟨dx, rfl, by rw [upd_ne ne, upd_same], e1.new nd1⟩, ?_⟩)))⟩
        unfold xHd
        simp only [Repo]
        exact .inl ⟨trivial, .inr ⟨f1, v1, _, rfl, rfl, q1.mv mvv, rfl⟩⟩
      · have h0 := Z.dom H2 _ b R2 mb
        obtain ⟨o, ho⟩ := some_of_ne h0
        have hba : b ≠ a := fun z => nM (z ▸ mb)
        rw [keep b o ho hba, ho]
    · cases hf
end
end Dl
namespace Dl
open PySem PySem.Spec PyProof.Rows L2 Xe
/-! the rules as the printer uses them -/
abbrev bmV : List Value := [.type "ValueError", .type "Exception", .type "BaseException", .type "object"]
def XiOk (K : PySem.W.Frag) (hd : Nat → Addr → Prop) (cv : Value) (t : Int → Bool) : Prop := ∀ (c : Nat) C, hd (2000 + c) C → ExcC K C ∧ PySem.W.kitOne K (.ref C) cv = some (t c)
def XaOk (K : PySem.W.Frag) (hd : Nat → Addr → Prop) (x : Str) : Prop := ∀ (c : Nat) C, hd (2000 + c) C → XfC K C ∧ PySem.W.findIn K (.ref C) x = some none
/-- the class x, the c-th of the exceptions, makes its fields so; g its message -/
def XMk2 {S : Type} (P : Program) (w : World) (K : PySem.W.Frag) (mg : Str → Option Value) (base : Heap) (hd : Nat → Addr → Prop) (Z : Zk S) (k c : Nat) (x f1 f2 : Str) (g : Ev S) : Prop := ∃ (C fI : Addr) (fd : FuncData) (N ps : List Str), OexC K C ∧ PySem.W.findIn K (.ref C) "__init__" = some (some (.ref fI)) ∧ PySem.W.typeIn K (.ref fI) = some (.type "function") ∧
  FnOk P w K mg base CX0 k fI fd ps (spX C N ps (tEx ⟨K, hd⟩ Z [] g) (tSeq (tOst K f1 (tVar 0) (tVar 1)) (tOst K f2 (tVar 0) (tVar 2)))) ∧ N.length = 3 ∧ ps.length = 3 ∧ PySem.W.findIn K (.ref C) f1 = some none ∧ PySem.W.findIn K (.ref C) f2 = some none ∧ hd (2000 + c) C ∧ Binds K fd ps [] ∧ mg x = some (.ref C)
def XMk1 {S : Type} (P : Program) (w : World) (K : PySem.W.Frag) (mg : Str → Option Value) (base : Heap) (hd : Nat → Addr → Prop) (Z : Zk S) (k c : Nat) (x f1 : Str) (g : Ev S) : Prop := ∃ (C fI : Addr) (fd : FuncData) (N ps : List Str), OexC K C ∧ PySem.W.findIn K (.ref C) "__init__" = some (some (.ref fI)) ∧ PySem.W.typeIn K (.ref fI) = some (.type "function") ∧
  FnOk P w K mg base CX0 k fI fd ps (spX C N ps (tEx ⟨K, hd⟩ Z [] g) (tOst K f1 (tVar 0) (tVar 1))) ∧ N.length = 2 ∧ ps.length = 2 ∧ PySem.W.findIn K (.ref C) f1 = some none ∧ hd (2000 + c) C ∧ Binds K fd ps [] ∧ mg x = some (.ref C)
section
variable {S : Type} {X : Cx} {hd : Nat → Addr → Prop} {Z : Zk S} {W : List Nat} {fa : Ea S} {g : Ev S} {e : Expr} {es : List Expr} {x f1 f2 : Str} {p pos : Pos} {c k j : Nat}
theorem ex_mkx2 (M : XMk2 X.prog X.w X.K X.mg X.base hd Z k c x f1 f2 g) (hr : Room j X.A) (hk : k + 1 ≤ j) (hg : Gl X x) (ha : PA X (e :: es) (tEa ⟨X.K, hd⟩ Z W fa)) (hdb : (x == ("__debug__" : Str)) = false := by decide) (he : starEach (e :: es) X.env = (false, eval e X.env) :: starEach es X.env := by rfl) (hpl : (backTo pos (starEach es X.env)).any (·.1) = false := by rfl) :
    PE X (.Call (.Name x p) (e :: es) [] pos) (tEx ⟨X.K, hd⟩ Z W (cExc2 c f1 f2 g fa)) := by
  obtain ⟨C, fI, fd, N, ps, T, iC, tI, F1, hN, hps, n1, n2, hC, hb, hm⟩ := M
  exact ex_exc2 (G := ⟨X.K, hd⟩) T iC tI F1 hN hps n1 n2 hC (hr.mono hk) hb hg hm ha hdb he hpl
theorem ex_mkx1 (M : XMk1 X.prog X.w X.K X.mg X.base hd Z k c x f1 g) (hr : Room j X.A) (hk : k + 1 ≤ j) (hg : Gl X x) (ha : PA X (e :: es) (tEa ⟨X.K, hd⟩ Z W fa)) (hdb : (x == ("__debug__" : Str)) = false := by decide) (he : starEach (e :: es) X.env = (false, eval e X.env) :: starEach es X.env := by rfl) (hpl : (backTo pos (starEach es X.env)).any (·.1) = false := by rfl) :
    PE X (.Call (.Name x p) (e :: es) [] pos) (tEx ⟨X.K, hd⟩ Z W (cExc1 c f1 g fa)) := by
  obtain ⟨C, fI, fd, N, ps, T, iC, tI, F1, hN, hps, n1, hC, hb, hm⟩ := M
  exact ex_exc1 (G := ⟨X.K, hd⟩) T iC tI F1 hN hps n1 hC (hr.mono hk) hb hg hm ha hdb he hpl
end
end Dl
set_option Elab.async false
set_option linter.all false
set_option maxRecDepth 100000
set_option maxHeartbeats 4000000
/-! texts put together of parts; str of a number or a text; insert -/
namespace Dl
open PySem PySem.Spec PyProof.Rows L2
/-- what a part of such a text comes to -/
def fmtD : D → Option Str
  | .str y => if y.length ≤ sizeLine then some y else none
  | .int i => if i.natAbs.log2 < 1920 then some (toString i) else none
  | _ => none
section
variable {S : Type} {X : Cx} {G : Kx} {Z : Zk S} {W : List Nat} {f : Ev S} {e : Expr}
def cFm (f : Ev S) : Ev S := fun ρ s => bnd (f ρ s) fun d s => put ((fmtD d).map .str) s
def jsF : List (Ev S) → Str → Rho → S → Option (Str × S)
  | [], acc, _, s => some (acc, s)
  | f :: fs, acc, ρ, s => bnd (f ρ s) fun d s => match d with
    | .str y => if (acc ++ y).length ≤ sizeLine then jsF fs (acc ++ y) ρ s else none
    | _ => none
def cJs (fs : List (Ev S)) : Ev S := fun ρ s => bnd (jsF fs Str.empty ρ s) fun y s => some (.str y, s)
theorem ex_fm {pos : Pos} (he : PE X e (tEx G Z W f)) : PE X (.FormattedValue e (-1) none pos) (tEx G Z W (cFm f)) :=
  imp_pe (pe_fmt he) fun σ H Q ⟨B, O, ρ, s, d, s', eo, hR, hf, q⟩ => by
    unfold cFm at hf
    obtain ⟨x, s1, h1, hf⟩ := bnd_some hf
    obtain ⟨h3, rfl⟩ := put_some hf
    rw [Option.map_eq_some_iff] at h3
    obtain ⟨y, h3, rfl⟩ := h3
    refine ⟨B, O, ρ, s, x, _, eo, hR, h1, fun v H1 f1 r1 R1 => ?_⟩
    unfold fmtD at h3
    split at h3
    · split at h3
      · rename_i z hz
        cases h3
        simp only [Rep] at r1
        exact .inl ⟨y, r1, hz, q _ H1 f1 (by simp only [Rep]) R1⟩
      · cases h3
    · split at h3
      · rename_i i hz
        cases h3
        simp only [Rep] at r1
        exact .inr ⟨i, r1, hz, q _ H1 f1 (by simp only [Rep]) R1⟩
      · cases h3
    · cases h3
inductive Js (X : Cx) (G : Kx) (Z : Zk S) (W : List Nat) : List Expr → List (Ev S) → Prop where
  | nil : Js X G Z W [] []
  | cons {e : Expr} {f : Ev S} {es : List Expr} {fs : List (Ev S)} (h : PE X e (tEx G Z W f)) (r : Js X G Z W es fs) : Js X G Z W (e :: es) (f :: fs)
theorem js_pj {es : List Expr} {fs : List (Ev S)} (h : Js X G Z W es fs) : PJ X es (fs.map fun f => tEx G Z W f) := by
  induction h with
  | nil => exact .nil
  | cons h r ih => exact .cons h ih
theorem js_run {B O : Bar} {ρ : Rho} {σ : L2.St} : ∀ (fs : List (Ev S)) (acc : Str) (s : S) (H : Hp) (out : Str) (s' : S) (Q : Str → Hp → Prop), Eo G Z W B O H σ ρ → Z.R H s → jsF fs acc ρ s = some (out, s') →
    (∀ H', Lc.Fr Z.M H H' → Z.R H' s' → Q out H') → tJs (fs.map fun f => tEx G Z W f) acc σ H Q
  | [], acc, s, H, out, s', Q, eo, hR, hf, q => by
    cases hf
    exact q H (Lc.Fr.refl H) hR
  | f :: fs, acc, s, H, out, s', Q, eo, hR, hf, q => by
    unfold jsF at hf
    obtain ⟨d, s1, h1, hf⟩ := bnd_some hf
    refine ⟨B, O, ρ, s, d, s1, eo, hR, h1, fun v H1 f1 r1 R1 => ?_⟩
    split at hf
    · split at hf
      · rename_i y hy
        simp only [Rep] at r1
        exact ⟨y, r1, hy, js_run fs _ s1 H1 out s' Q (eo.fr f1) R1 hf fun H' f2 R2 => q H' (f1.trans f2) R2⟩
      · cases hf
    · cases hf
theorem ex_js {v1 v2 : Expr} {rest : List Expr} {fs : List (Ev S)} {pos : Pos} (h : Js X G Z W (v1 :: v2 :: rest) fs) : PE X (.JoinedStr (v1 :: v2 :: rest) pos) (tEx G Z W (cJs fs)) :=
  imp_pe (pe_joined (js_pj h)) fun σ H Q ⟨B, O, ρ, s, d, s', eo, hR, hf, q⟩ => by
    unfold cJs at hf
    obtain ⟨y, s1, h1, hf⟩ := bnd_some hf
    cases hf
    exact js_run fs Str.empty s H y s' _ eo hR h1 fun H' f1 R1 => q _ H' f1 (by simp only [Rep]) R1
/-! str of a number or of a text -/
def pStrX : List D → Option D
  | [.int i] => if i.natAbs.log2 < 1920 then some (.str (toString i)) else none
  | [.str y] => some (.str y)
  | _ => none
/-! insert into an own list -/
end
end Dl
set_option Elab.async false
set_option linter.all false
set_option maxRecDepth 100000
set_option maxHeartbeats 4000000
/-! a written dict, texts to texts: d[k], d.get(k) -/
namespace Dl
open PySem PySem.Spec PyProof.Rows L2
/-- the entries are those of the table -/
def tblIn : List (Str × Str) → List DictEntry → Bool
  | [], [] => true
  | (k, v) :: r, e :: q => (match e.key, e.val with | .str k' _, .str v' _ => (k' == k) && (v' == v) | _, _ => false) && tblIn r q
  | _, _ => false
def tblAt (tbl : List (Str × Str)) (z : Str) : Option Str := (tbl.find? fun p => p.1 == z).map (·.2)
/-- at a: the written dict of the table -/
structure WD (K : PySem.W.Frag) (w : World) (a : Addr) (tbl : List (Str × Str)) : Prop where
  ex : ∃ es n, K.lookup a = some ⟨.type "dict", none, .dict es n, #[]⟩ ∧ PySem.W.KeysLit w.params es.toList ∧ tblIn tbl es.toList = true
  low : (a == sysModules) = false
def pDt (tbl : List (Str × Str)) : D → Option D
  | .str z => (tblAt tbl z).map .str
  | _ => none
def pDg (tbl : List (Str × Str)) : D → Option D
  | .str z => some (((tblAt tbl z).map PyData.str).getD .none)
  | _ => none
section
variable {S : Type} {X : Cx} {G : Kx} {Z : Zk S} {W : List Nat} {f : Ev S} {b : Expr} {x : Str} {p pos apos : Pos} {a : Addr} {tbl : List (Str × Str)}
end
end Dl
set_option Elab.async false
set_option linter.all false
set_option maxRecDepth 100000
set_option maxHeartbeats 4000000
namespace Lw07
open PySem PySem.Spec PyProof.Rows L2 Dl
def xm_TwoReadings {S : Type} : Ev S := cK (.str "the sentence has two readings")
def xm_NoText {S : Type} : Ev S := cJs [cK (.str "no argument's text, at row "), cFm (cVar 1)]
def xm_Lacks {S : Type} : Ev S := cJs [cK (.str "line "), cFm (cVar 1), cK (.str " lacks what makes it right")]
def xm_TooGreat {S : Type} : Ev S := cJs [cFm (cVar 1), cK (.str " are more than "), cFm (cVar 2)]
-- _law_number: slots _law_deck_here 0, _law_number_here 1
def B_w_number {S : Type} (F_w_take : Fn S) : Sv S :=
    (sSeq (sSet 1 (cCall 2 F_w_take (aCons (cVar 0) (aCons (cB pIx (cN pLst (aCons (cK (.int 10)) (aCons (cB pPow (cK (.int 10)) (cK (.int 9))) aNil))) (cCall 2 F_w_take (aCons (cVar 0) (aCons (cK (.int 2)) aNil)))) aNil))))
    (sRet (cB pMul (cVar 1) (cB pIx (cN pLst (aCons (cK (.int 1)) (aCons (cU pNeg (cK (.int 1))) aNil))) (cCall 2 F_w_take (aCons (cVar 0) (aCons (cK (.int 2)) aNil)))))))
def K_w_number {S : Type} (F_w_take : Fn S) : Fn S := fnD 2 (B_w_number F_w_take)

-- _law_kinds: slots _law_error 0, _law_found 1
def B_w_kinds {S : Type}  : Sv S :=
    (sSeq (sSet 1 (cN pLst (aCons (cIsX (fun i => decide (i = 0)) (cVar 0)) (aCons (cIsX (fun i => decide (i = 1)) (cVar 0)) (aCons (cIsX (fun i => decide (i = 2)) (cVar 0)) aNil)))))
    (sSeq (sSet 1 (cB pAdd (cVar 1) (cN pLst (aCons (cIsX (fun i => decide (i = 3)) (cVar 0)) (aCons (cIsX (fun i => decide (i = 4)) (cVar 0)) (aCons (cIsX (fun i => decide (i = 5)) (cVar 0)) aNil))))))
    (sRet (cB pAdd (cVar 1) (cN pLst (aCons (cIsX (fun i => decide (i = 6)) (cVar 0)) (aCons (cIsX (fun i => decide (i = 7)) (cVar 0)) (aCons (cIsX (fun i => decide (i = 8)) (cVar 0)) aNil))))))))
def K_w_kinds {S : Type}  : Fn S := fnD 2 (B_w_kinds )

end Lw07
namespace K07
open PySem
def topS (i : Nat) : Stmt := PySem.Challenge.pw_linecourt_k07_refusals_made_by_hand.main.body.getD i (.Pass ⟨0, 0, 0, 0⟩)
end K07
set_option Elab.async false
set_option linter.all false
set_option maxRecDepth 100000
set_option maxHeartbeats 4000000
/-! a comprehension of two clauses; starred things in displays and calls -/
namespace Dl
open PySem PySem.Spec PyProof.Rows L2
section
variable {S : Type}
def compF2 (t : Tg) (q : Et S) (fi1 : Ea S) (t1 : Tg) (q1 : Et S) (f : Ev S) (vs1 : List Nat) (ρ : Rho) : List D → S → Option (List D × S)
  | [], s => some ([], s)
  | d :: ds, s => match t d ρ with
    | none => none
    | some ρ1 => bnd (q ρ1 s) fun b s => if b = true then bnd (fi1 ρ1 s) fun xs s => bnd (compF t1 q1 f (wipeR ρ1 vs1) xs s) fun ys s => bnd (compF2 t q fi1 t1 q1 f vs1 ρ ds s) fun zs s => some (ys ++ zs, s) else compF2 t q fi1 t1 q1 f vs1 ρ ds s
def lcF2 (fi : Ea S) (t : Tg) (q : Et S) (fi1 : Ea S) (t1 : Tg) (q1 : Et S) (f : Ev S) (vs vs1 : List Nat) : Ea S := fun ρ s => bnd (fi ρ s) fun ds s => bnd (compF2 t q fi1 t1 q1 f vs1 (wipeR ρ vs) ds s) fun ys s => if ys.length ≤ sizeLine then some (ys, s) else none
variable {X : Cx} {G : Kx} {Z : Zk S} {W : List Nat} {f : Ev S}
variable {e tg tg1 : Expr} {es : List Expr} {pos p : Pos}
/-- *e, .. -/
def asLT : D → Option (List D)
  | .list ds => some ds
  | .tuple ds => some ds
  | _ => none
def aStar (f : Ev S) (fa : Ea S) : Ea S := fun ρ s => bnd (f ρ s) fun x s => match asLT x with
  | some xs => bnd (fa ρ s) fun ys s => some (xs ++ ys, s)
  | none => none
end
end Dl
set_option Elab.async false
set_option linter.all false
set_option maxRecDepth 100000
set_option maxHeartbeats 4000000
/-! a written dict of defs: f = d[k], then return f(..) -/
namespace Dl
open PySem PySem.Spec PyProof.Rows L2
def fblIn : List (Str × Addr) → List DictEntry → Bool
  | [], [] => true
  | (k, f) :: r, e :: q => (match e.key, e.val with | .str k' _, .ref g => (k' == k) && (g == f) | _, _ => false) && fblIn r q
  | _, _ => false
/-- at a: the written dict of defs -/
structure FD (K : PySem.W.Frag) (w : World) (a : Addr) (tbl : List (Str × Addr)) : Prop where
  ex : ∃ es n, K.lookup a = some ⟨.type "dict", none, .dict es n, #[]⟩ ∧ PySem.W.KeysLit w.params es.toList ∧ fblIn tbl es.toList = true
section
variable {S : Type} {X : Cx} {G : Kx} {Z : Zk S} {W : List Nat} {b : Expr} {x y : Str} {p p2 pos pos2 pos3 py spos : Pos} {a : Addr} {tbl : List (Str × Addr)} {te : TE}
end
end Dl
set_option Elab.async false
set_option linter.all false
set_option maxRecDepth 100000
set_option maxHeartbeats 4000000
/-! x.count(y) of texts; k in d, k not in d of a written dict -/
namespace Dl
open PySem PySem.Spec PyProof.Rows L2
section
variable {S : Type} {X : Cx} {G : Kx} {Z : Zk S} {W : List Nat} {f g : Ev S} {b e o : Expr} {x : Str} {p pos apos : Pos} {a : Addr} {tbl : List (Str × Addr)}
end
end Dl
set_option Elab.async false
set_option linter.all false
set_option maxRecDepth 100000
set_option maxHeartbeats 4000000
/-! told.extend(..) by a tuple -/
namespace Dl
open PySem PySem.Spec PyProof.Rows L2
section
open PySem.AutoSeq1 (wpAny_loadPart')
end
section
variable {S : Type} {X : Cx} {G : Kx} {Z : Zk S} {W : List Nat} {f : Ev S} {st : Stmt}
def sExtT (i : Nat) (f : Ev S) : Sv S := fun ρ s => match ρ[i]? with
  | some (some (.list ds)) => bnd (f ρ s) fun d s => match d with
    | .tuple es => if ds.length + es.length ≤ sizeLine then some (.nx (ρ.set i (some (.list (ds ++ es)))), s) else none
    | _ => none
  | _ => none
end
end Dl
set_option Elab.async false
set_option linter.all false
set_option maxRecDepth 100000
set_option maxHeartbeats 4000000
/-! x, y = a, b; the lesser and the greater of two texts -/
namespace Dl
open PySem PySem.Spec PyProof.Rows L2
section
variable {S : Type} {X : Cx} {G : Kx} {Z : Zk S} {W : List Nat} {fa : Ea S} {st : Stmt}
end
/-! two texts, the one of them -/
section
variable {prog : Program} {w : World} {A : Around} {E : Value → Shared → Prop} {s : Shared} {Q : Value → Shared → Prop} {x y : Str} {t u : Tok}
end
section
variable {X : Cx} {G : Kx}
end
/-! targets that take a list apart -/
end Dl
set_option Elab.async false
set_option linter.all false
set_option maxRecDepth 100000
set_option maxHeartbeats 4000000
/-! {e for x in it if test}, e a text -/
namespace Ds
open PySem PySem.Spec PyProof.Rows PySem.Froz L2
end Ds
set_option Elab.async false
set_option linter.all false
set_option maxRecDepth 100000
set_option maxHeartbeats 4000000
/-! {e for x in it if test} on data, e a text -/
namespace Dl
open PySem PySem.Spec PyProof.Rows L2 Ds
/-- {e for x in it if test} -/
def xSc {S : Type} (fi : Ea S) (t : Tg) (q : Et S) (f : Ev S) (vs : List Nat) : Es S := fun ρ s => bnd (lcF fi t q f vs ρ s) fun ds s => match dStrs ds with
  | some xs => if xs.length ≤ 1000 then some (gath xs, s) else none
  | none => none
theorem foldl_plus_len : ∀ (xs l : List Str), (xs.foldl plus l).length ≤ l.length + xs.length
  | [], l => by simp
  | k :: xs, l => by
    have h1 := foldl_plus_len xs (plus l k)
    have h2 := plus_len l k
    rw [List.foldl_cons, List.length_cons]
    omega
theorem gath_len (xs : List Str) : (gath xs).length ≤ xs.length := by
  have := foldl_plus_len xs []
  simpa [gath] using this
section
variable {S : Type} {X : Cx} {G : Kx} {Z : Zk S} {W : List Nat} {f : Ev S} {e tg : Expr} {pos : Pos}
end
end Dl
set_option Elab.async false
set_option linter.all false
set_option maxRecDepth 100000
set_option maxHeartbeats 4000000
namespace K07
open PySem PySem.Spec PyProof.Rows L2 Dl Lw07 Xe
section
variable {P : Program} {w : World} {K : PySem.W.Frag} {mg : Str → Option Value} {base : Heap} {f : Addr} {fd : FuncData}
-- _law_number: slots _law_deck_here 0, _law_number_here 1
abbrev s_w_number : Stmt := topS 15
abbrev N_w_number : List Str := ["_law_deck_here", "_law_number_here"]
theorem sc_w_number : FnScope N_w_number ["_law_deck_here"] (defScope s_w_number) := ⟨rfl, rfl, rfl, by decide +kernel, rfl, by decide +kernel, by decide +kernel⟩
theorem P_w_number {S : Type} {Z : Zk S} {hd : Nat → Addr → Prop} {k : Nat} (U : Fun K "_law_number" "_law_number" s_w_number f fd) {F_w_take : Fn S} {k_w_take : Nat} (C_w_take : Lc.Dn P w K mg base "_law_take" ["_law_deck_here", "_law_most"] k_w_take (spD ⟨K, hd⟩ Z 2 F_w_take)) (h_w_take : k_w_take ≤ k) :
    FnOk P w K mg base CX0 (k + 1) f fd ["_law_deck_here"] (spD ⟨K, hd⟩ Z 1 (K_w_number F_w_take)) :=
  fn_ok (W := []) (F := B_w_number F_w_take) U sc_w_number rfl rfl (by decide) (by decide) fun cdv A outer s H E hr => by
    unfold B_w_number
    exact (es_cons (es_set (i := 1) sc_w_number.nd rfl (.inl rfl) (ex_call C_w_take (hr.mono h_w_take) (by rfl) (ea_cons (ex_var 0) (ea_cons (ex_ix ix_seq os_ix (ex_lst (ea_cons ex_int (ea_cons (ex_bin op_pow os_pow ex_int ex_int) ea_nil))) (ex_call C_w_take (hr.mono h_w_take) (by rfl) (ea_cons (ex_var 0) (ea_cons ex_int ea_nil))) (fun _ _ => rfl)) ea_nil))))
    (es_one (es_ret (ex_bin op_mulW os_mul (ex_var 1) (ex_ix ix_seq os_ix (ex_lst (ea_cons ex_int (ea_cons (ex_un un_neg us_neg ex_int) ea_nil))) (ex_call C_w_take (hr.mono h_w_take) (by rfl) (ea_cons (ex_var 0) (ea_cons ex_int ea_nil))) (fun _ _ => rfl))))))

-- _law_kinds: slots _law_error 0, _law_found 1
abbrev s_w_kinds : Stmt := topS 16
abbrev N_w_kinds : List Str := ["_law_error", "_law_found"]
theorem sc_w_kinds : FnScope N_w_kinds ["_law_error"] (defScope s_w_kinds) := ⟨rfl, rfl, rfl, by decide +kernel, rfl, by decide +kernel, by decide +kernel⟩
theorem P_w_kinds {S : Type} {Z : Zk S} {hd : Nat → Addr → Prop} {k : Nat} (U : Fun K "_law_kinds" "_law_kinds" s_w_kinds f fd) (m_isinstance : mg "isinstance" = none) {a_NoOrder : Addr} (g_NoOrder : mg "NoOrder" = some (.ref a_NoOrder)) {a_NoJoin : Addr} (g_NoJoin : mg "NoJoin" = some (.ref a_NoJoin)) {a_NoSentence : Addr} (g_NoSentence : mg "NoSentence" = some (.ref a_NoSentence)) {a_TwoReadings : Addr} (g_TwoReadings : mg "TwoReadings" = some (.ref a_TwoReadings)) {a_Twice : Addr} (g_Twice : mg "Twice" = some (.ref a_Twice)) {a_NoTurn : Addr} (g_NoTurn : mg "NoTurn" = some (.ref a_NoTurn)) {a_TooGreat : Addr} (g_TooGreat : mg "TooGreat" = some (.ref a_TooGreat)) {a_Lacks : Addr} (g_Lacks : mg "Lacks" = some (.ref a_Lacks)) {a_NoText : Addr} (g_NoText : mg "NoText" = some (.ref a_NoText)) (xi_NoOrder : XiOk K hd (.ref a_NoOrder) (fun i => decide (i = 2))) (xi_NoJoin : XiOk K hd (.ref a_NoJoin) (fun i => decide (i = 1))) (xi_NoSentence : XiOk K hd (.ref a_NoSentence) (fun i => decide (i = 0))) (xi_TwoReadings : XiOk K hd (.ref a_TwoReadings) (fun i => decide (i = 5))) (xi_Twice : XiOk K hd (.ref a_Twice) (fun i => decide (i = 4))) (xi_NoTurn : XiOk K hd (.ref a_NoTurn) (fun i => decide (i = 3))) (xi_TooGreat : XiOk K hd (.ref a_TooGreat) (fun i => decide (i = 8))) (xi_Lacks : XiOk K hd (.ref a_Lacks) (fun i => decide (i = 7))) (xi_NoText : XiOk K hd (.ref a_NoText) (fun i => decide (i = 6))) :
    FnOk P w K mg base CX0 (k + 1) f fd ["_law_error"] (spD ⟨K, hd⟩ Z 1 (K_w_kinds )) :=
  fn_ok (W := []) (F := B_w_kinds ) U sc_w_kinds rfl rfl (by decide) (by decide) fun cdv A outer s H E hr => by
    unfold B_w_kinds
    exact (es_cons (es_set (i := 1) sc_w_kinds.nd rfl (.inl rfl) (ex_lst (ea_cons (ex_isX (by rfl) m_isinstance (ex_var 0) (pe_glob (v := .ref a_NoSentence) rfl g_NoSentence rfl) (fun _ h => h) xi_NoSentence) (ea_cons (ex_isX (by rfl) m_isinstance (ex_var 0) (pe_glob (v := .ref a_NoJoin) rfl g_NoJoin rfl) (fun _ h => h) xi_NoJoin) (ea_cons (ex_isX (by rfl) m_isinstance (ex_var 0) (pe_glob (v := .ref a_NoOrder) rfl g_NoOrder rfl) (fun _ h => h) xi_NoOrder) ea_nil)))))
    (es_cons (es_set (i := 1) sc_w_kinds.nd rfl (.inl rfl) (ex_bin od_add os_add (ex_var 1) (ex_lst (ea_cons (ex_isX (by rfl) m_isinstance (ex_var 0) (pe_glob (v := .ref a_NoTurn) rfl g_NoTurn rfl) (fun _ h => h) xi_NoTurn) (ea_cons (ex_isX (by rfl) m_isinstance (ex_var 0) (pe_glob (v := .ref a_Twice) rfl g_Twice rfl) (fun _ h => h) xi_Twice) (ea_cons (ex_isX (by rfl) m_isinstance (ex_var 0) (pe_glob (v := .ref a_TwoReadings) rfl g_TwoReadings rfl) (fun _ h => h) xi_TwoReadings) ea_nil))))))
    (es_one (es_ret (ex_bin od_add os_add (ex_var 1) (ex_lst (ea_cons (ex_isX (by rfl) m_isinstance (ex_var 0) (pe_glob (v := .ref a_NoText) rfl g_NoText rfl) (fun _ h => h) xi_NoText) (ea_cons (ex_isX (by rfl) m_isinstance (ex_var 0) (pe_glob (v := .ref a_Lacks) rfl g_Lacks rfl) (fun _ h => h) xi_Lacks) (ea_cons (ex_isX (by rfl) m_isinstance (ex_var 0) (pe_glob (v := .ref a_TooGreat) rfl g_TooGreat rfl) (fun _ h => h) xi_TooGreat) ea_nil)))))))))

-- law: slots _law_script 0, _law_deck_here 1, _law_k 2, _law_numbers 3, _law_forms 4, _law_one 5, _law_other 6, _law_errors 7, _law_at 8, _law_j 9, _law_place 10; cells _law_at, _law_deck_here
abbrev s_law : Stmt := topS 17
abbrev N_law : List Str := ["_law_script", "_law_deck_here", "_law_k", "_law_numbers", "_law_forms", "_law_one", "_law_other", "_law_errors", "_law_at", "_law_j", "_law_place"]
theorem sc_law : FnScope N_law ["_law_script"] (defScope s_law) := ⟨rfl, rfl, rfl, by decide +kernel, rfl, by decide +kernel, by decide +kernel⟩
def B_law {S : Type} (F_w_number : Fn S) (F_w_take : Fn S) (F_w_kinds : Fn S) : Sv S :=
    (sSeq (sFor (iOfA pR1 (aCons (cK (.int 6)) aNil)) (gNm 2)
    (sSeq (sSet 3 (cNl (lcF (iOfA pR1 (aCons (cK (.int 4)) aNil)) (gNm 9) qYes (cCall 1 F_w_number (aCons (cVar 1) aNil)) [9])))
      (sSeq (sSet 4 (cN pLst (aCons (cN pTup (aCons (cK (.str "same")) (aCons (cK (.str "Ann")) (aCons (cK (.str "x")) aNil)))) (aCons (cN pTup (aCons (cK (.str "not")) (aCons (cN pTup (aCons (cK (.str "false")) aNil)) aNil))) (aCons (cN pTup (aCons (cK (.str "is")) (aCons (cK (.str "Q")) (aCons (cK (.str "zq")) aNil)))) (aCons (cN pTup (aCons (cK (.str "false")) aNil)) aNil))))))
      (sSeq (sSet 5 (cB pIx (cVar 4) (cCall 2 F_w_take (aCons (cVar 1) (aCons (cK (.int 4)) aNil)))))
      (sSeq (sSet 6 (cB pIx (cVar 4) (cCall 2 F_w_take (aCons (cVar 1) (aCons (cK (.int 4)) aNil)))))
      (sSeq (sSet 7 (cN pLst (aCons (cExc0 0 (cK (.str "a"))) (aCons (cExc0 1 (cK (.str "b"))) (aCons (cExc0 2 (cK (.str ""))) (aCons (cExc0 3 (cK (.str "no"))) (aCons (cExc0 4 (cK (.str "c d"))) (aCons (cExc2 5 "one" "other" xm_TwoReadings (aCons (cVar 5) (aCons (cVar 6) aNil))) aNil))))))))
      (sSeq (sSet 7 (cB pAdd (cVar 7) (cN pLst (aCons (cExc1 6 "row" xm_NoText (aCons (cB pIx (cVar 3) (cK (.int 0))) aNil)) (aCons (cExc1 7 "line" xm_Lacks (aCons (cB pIx (cVar 3) (cK (.int 1))) aNil)) (aCons (cExc2 8 "many" "most" xm_TooGreat (aCons (cB pIx (cVar 3) (cK (.int 2))) (aCons (cB pIx (cVar 3) (cK (.int 3))) aNil))) aNil))))))
      (sSeq (sFor (iOfA pR1 (aCons (cK (.int 9)) aNil)) (gNm 8)
      (sSeq (sIf (qT (cB pNe (cCall 1 F_w_kinds (aCons (cB pIx (cVar 7) (cVar 8)) aNil)) (cNl (lcF (iOfA pR1 (aCons (cK (.int 9)) aNil)) (gNm 10) qYes (cB pEq (cVar 10) (cVar 8)) [10]))))
        (sRet (cK (.bool false)))
        sNx)
        (sIf (qOr (qNot (qT (cIsX (fun _ => true) (cB pIx (cVar 7) (cVar 8))))) (qNot (qT (cIsX (fun _ => true) (cB pIx (cVar 7) (cVar 8))))))
        (sRet (cK (.bool false)))
        sNx)))
      (sSeq (sIf (qOr (qT (cB pNe (cAtX "one" (cB pIx (cVar 7) (cK (.int 5)))) (cVar 5))) (qOr (qT (cB pNe (cAtX "other" (cB pIx (cVar 7) (cK (.int 5)))) (cVar 6))) (qT (cB pNe (cAtX "row" (cB pIx (cVar 7) (cK (.int 6)))) (cB pIx (cVar 3) (cK (.int 0)))))))
      (sRet (cK (.bool false)))
      sNx)
      (sIf (qOr (qT (cB pNe (cAtX "line" (cB pIx (cVar 7) (cK (.int 7)))) (cB pIx (cVar 3) (cK (.int 1))))) (qOr (qT (cB pNe (cAtX "many" (cB pIx (cVar 7) (cK (.int 8)))) (cB pIx (cVar 3) (cK (.int 2))))) (qT (cB pNe (cAtX "most" (cB pIx (cVar 7) (cK (.int 8)))) (cB pIx (cVar 3) (cK (.int 3)))))))
      (sRet (cK (.bool false)))
      sNx))))))))))
    (sRet (cK (.bool true))))
theorem P_law {S : Type} {Z : Zk S} {hd : Nat → Addr → Prop} {k : Nat} {F_w_number : Fn S} {k_w_number : Nat} (C_w_number : Lc.Dn P w K mg base "_law_number" ["_law_deck_here"] k_w_number (spD ⟨K, hd⟩ Z 1 F_w_number)) (h_w_number : k_w_number ≤ k) {F_w_take : Fn S} {k_w_take : Nat} (C_w_take : Lc.Dn P w K mg base "_law_take" ["_law_deck_here", "_law_most"] k_w_take (spD ⟨K, hd⟩ Z 2 F_w_take)) (h_w_take : k_w_take ≤ k) {F_w_kinds : Fn S} {k_w_kinds : Nat} (C_w_kinds : Lc.Dn P w K mg base "_law_kinds" ["_law_error"] k_w_kinds (spD ⟨K, hd⟩ Z 1 F_w_kinds)) (h_w_kinds : k_w_kinds ≤ k) (m_range : mg "range" = none) (m_isinstance : mg "isinstance" = none) (m_ValueError : mg "ValueError" = none) {a_TwoReadings : Addr} (g_TwoReadings : mg "TwoReadings" = some (.ref a_TwoReadings)) {a_Twice : Addr} (g_Twice : mg "Twice" = some (.ref a_Twice)) {a_NoTurn : Addr} (g_NoTurn : mg "NoTurn" = some (.ref a_NoTurn)) {a_NoOrder : Addr} (g_NoOrder : mg "NoOrder" = some (.ref a_NoOrder)) {a_NoJoin : Addr} (g_NoJoin : mg "NoJoin" = some (.ref a_NoJoin)) {a_NoSentence : Addr} (g_NoSentence : mg "NoSentence" = some (.ref a_NoSentence)) {a_TooGreat : Addr} (g_TooGreat : mg "TooGreat" = some (.ref a_TooGreat)) {a_Lacks : Addr} (g_Lacks : mg "Lacks" = some (.ref a_Lacks)) {a_NoText : Addr} (g_NoText : mg "NoText" = some (.ref a_NoText)) {a_CourtError : Addr} (g_CourtError : mg "CourtError" = some (.ref a_CourtError)) {k_TwoReadings : Nat} (M_TwoReadings : XMk2 P w K mg base hd Z k_TwoReadings 5 "TwoReadings" "one" "other" xm_TwoReadings) (h_TwoReadings : k_TwoReadings + 1 ≤ k) (q_Twice : PySem.W.excIn K a_Twice bmV "ValueError.__new__" = true) (kp_Twice : PySem.W.keepIn K (.ref a_Twice) = true) (c_Twice : hd (2000 + 4) a_Twice) (q_NoTurn : PySem.W.excIn K a_NoTurn bmV "ValueError.__new__" = true) (kp_NoTurn : PySem.W.keepIn K (.ref a_NoTurn) = true) (c_NoTurn : hd (2000 + 3) a_NoTurn) (q_NoOrder : PySem.W.excIn K a_NoOrder bmV "ValueError.__new__" = true) (kp_NoOrder : PySem.W.keepIn K (.ref a_NoOrder) = true) (c_NoOrder : hd (2000 + 2) a_NoOrder) (q_NoJoin : PySem.W.excIn K a_NoJoin bmV "ValueError.__new__" = true) (kp_NoJoin : PySem.W.keepIn K (.ref a_NoJoin) = true) (c_NoJoin : hd (2000 + 1) a_NoJoin) (q_NoSentence : PySem.W.excIn K a_NoSentence bmV "ValueError.__new__" = true) (kp_NoSentence : PySem.W.keepIn K (.ref a_NoSentence) = true) (c_NoSentence : hd (2000 + 0) a_NoSentence) {k_TooGreat : Nat} (M_TooGreat : XMk2 P w K mg base hd Z k_TooGreat 8 "TooGreat" "many" "most" xm_TooGreat) (h_TooGreat : k_TooGreat + 1 ≤ k) {k_Lacks : Nat} (M_Lacks : XMk1 P w K mg base hd Z k_Lacks 7 "Lacks" "line" xm_Lacks) (h_Lacks : k_Lacks + 1 ≤ k) {k_NoText : Nat} (M_NoText : XMk1 P w K mg base hd Z k_NoText 6 "NoText" "row" xm_NoText) (h_NoText : k_NoText + 1 ≤ k) (xi_ValueError : XiOk K hd (.type "ValueError") (fun _ => true)) (xi_CourtError : XiOk K hd (.ref a_CourtError) (fun _ => true)) (xa_row : XaOk K hd "row") (xa_other : XaOk K hd "other") (xa_one : XaOk K hd "one") (xa_most : XaOk K hd "most") (xa_many : XaOk K hd "many") (xa_line : XaOk K hd "line") {cdv : Value} {A : Around} {outer : List Env} {s : Shared} {H : Hp} {E : XK} (hr : Room k (A.deeper (envOfC "law" (defScope s_law) s.heap.objs.size f cdv))) :
    PSs (cxOf CX0 P w K mg base N_law "law" (defScope s_law) f cdv A outer s H E).nox ((defBody s_law).drop 1) (tSt ⟨K, hd⟩ Z [] (B_law F_w_number F_w_take F_w_kinds)) := by
    unfold B_law
    exact (es_cons (es_for PassesOwn.never rfl (ei_range1 (pi_range1 (by rfl) m_range (ea_cons ex_int ea_nil))) (eg_name (i := 2) sc_law.nd rfl (.inl rfl))
    (es_cons (es_setNl (ps_setLc (i := 3) (own := [("_law_j", 9)]) (tt := tYes) rfl sc_law.nd rfl rfl (sw_true rfl rfl rfl (by decide +kernel)) (ei_range1 (pi_range1 (by rfl) m_range (ea_cons ex_int ea_nil))) (blkOk_by (N := N_law) (sc := defScope s_law) (by decide +kernel)) (fun _ _ _ _ _ => (eg_name (i := 9) sc_law.nd rfl (.inl rfl))) (fun _ _ _ _ _ => pts_nil) (fun _ _ _ _ _ => (ex_call C_w_number (hr.mono h_w_number) (by rfl) (ea_cons (ex_var 1) ea_nil)))) (fun _ _ _ h => nl_lcT (hu := by decide) (fun _ _ _ h => yes_of h) h))
      (es_cons (es_set (i := 4) sc_law.nd rfl (.inl rfl) (ex_lst (ea_cons (ex_tup (ea_cons ex_str (ea_cons ex_str (ea_cons ex_str ea_nil)))) (ea_cons (ex_tup (ea_cons ex_str (ea_cons (ex_tup (ea_cons ex_str ea_nil)) ea_nil))) (ea_cons (ex_tup (ea_cons ex_str (ea_cons ex_str (ea_cons ex_str ea_nil)))) (ea_cons (ex_tup (ea_cons ex_str ea_nil)) ea_nil))))))
      (es_cons (es_set (i := 5) sc_law.nd rfl (.inl rfl) (ex_ix ix_seq os_ix (ex_var 4) (ex_call C_w_take (hr.mono h_w_take) (by rfl) (ea_cons (ex_var 1) (ea_cons ex_int ea_nil))) (fun _ _ => rfl)))
      (es_cons (es_set (i := 6) sc_law.nd rfl (.inl rfl) (ex_ix ix_seq os_ix (ex_var 4) (ex_call C_w_take (hr.mono h_w_take) (by rfl) (ea_cons (ex_var 1) (ea_cons ex_int ea_nil))) (fun _ _ => rfl)))
      (es_cons (es_set (i := 7) sc_law.nd rfl (.inl rfl) (ex_lst (ea_cons (ex_exc0 PySem.F.excBase_ValueError q_NoSentence g_NoSentence kp_NoSentence c_NoSentence (by rfl) ex_str) (ea_cons (ex_exc0 PySem.F.excBase_ValueError q_NoJoin g_NoJoin kp_NoJoin c_NoJoin (by rfl) ex_str) (ea_cons (ex_exc0 PySem.F.excBase_ValueError q_NoOrder g_NoOrder kp_NoOrder c_NoOrder (by rfl) ex_str) (ea_cons (ex_exc0 PySem.F.excBase_ValueError q_NoTurn g_NoTurn kp_NoTurn c_NoTurn (by rfl) ex_str) (ea_cons (ex_exc0 PySem.F.excBase_ValueError q_Twice g_Twice kp_Twice c_Twice (by rfl) ex_str) (ea_cons (ex_mkx2 M_TwoReadings hr h_TwoReadings (by rfl) (ea_cons (ex_var 5) (ea_cons (ex_var 6) ea_nil))) ea_nil))))))))
      (es_cons (es_set (i := 7) sc_law.nd rfl (.inl rfl) (ex_bin od_add os_add (ex_var 7) (ex_lst (ea_cons (ex_mkx1 M_NoText hr h_NoText (by rfl) (ea_cons (ex_ix ix_seq os_ix (ex_var 3) ex_int (fun _ _ => rfl)) ea_nil)) (ea_cons (ex_mkx1 M_Lacks hr h_Lacks (by rfl) (ea_cons (ex_ix ix_seq os_ix (ex_var 3) ex_int (fun _ _ => rfl)) ea_nil)) (ea_cons (ex_mkx2 M_TooGreat hr h_TooGreat (by rfl) (ea_cons (ex_ix ix_seq os_ix (ex_var 3) ex_int (fun _ _ => rfl)) (ea_cons (ex_ix ix_seq os_ix (ex_var 3) ex_int (fun _ _ => rfl)) ea_nil))) ea_nil))))))
      (es_cons (es_for PassesOwn.never rfl (ei_range1 (pi_range1 (by rfl) m_range (ea_cons ex_int ea_nil))) (eg_name (i := 8) sc_law.nd rfl (.inr rfl))
      (es_cons (es_if (et_cmp (od_ne hr.units) os_ne (ex_call C_w_kinds (hr.mono h_w_kinds) (by rfl) (ea_cons (ex_ix ix_seq os_ix (ex_var 7) (ex_var 8) (fun _ _ => rfl)) ea_nil)) (ex_nl (nl_lc (own := [("_law_place", 10)]) (tt := tYes) rfl sc_law.nd (ei_range1 (pi_range1 (by rfl) m_range (ea_cons ex_int ea_nil))) (blkOk_by (N := N_law) (sc := defScope s_law) (by decide +kernel)) (fun _ _ _ _ _ => (eg_name (i := 10) sc_law.nd rfl (.inl rfl))) (fun _ _ _ _ _ => pts_nil) (fun _ _ _ h => yes_of h) (fun _ _ _ _ _ => (ex_cmp (od_eq hr.units) os_eq (ex_var 10) (ex_var 8) (nomark _))))) (nomark _) (fun _ _ _ h => pNe_bool h))
        (es_one (es_ret ex_bl))
        es_nil)
        (es_one (es_if (PW.pt (ew_or (et_not (et_val (ex_isX (by rfl) m_isinstance (ex_ix ix_seq os_ix (ex_var 7) (ex_var 8) (fun _ _ => rfl)) (pe_glob (v := .ref a_CourtError) rfl g_CourtError rfl) (fun _ h => h) xi_CourtError))) (pw_or1 (et_not (et_val (ex_isX (by rfl) m_isinstance (ex_ix ix_seq os_ix (ex_var 7) (ex_var 8) (fun _ _ => rfl)) (pe_bltn (v := .ty "ValueError") (by rfl) m_ValueError (by decide +kernel) rfl) (fun _ h => h) xi_ValueError))))))
        (es_one (es_ret ex_bl))
        es_nil))))
      (es_cons (es_if (PW.pt (ew_or (et_cmp (od_ne hr.units) os_ne (ex_atX (ex_ix ix_seq os_ix (ex_var 7) ex_int (fun _ _ => rfl)) xa_one) (ex_var 5) (nomark _) (fun _ _ _ h => pNe_bool h)) (ew_or (et_cmp (od_ne hr.units) os_ne (ex_atX (ex_ix ix_seq os_ix (ex_var 7) ex_int (fun _ _ => rfl)) xa_other) (ex_var 6) (nomark _) (fun _ _ _ h => pNe_bool h)) (pw_or1 (et_cmp (od_ne hr.units) os_ne (ex_atX (ex_ix ix_seq os_ix (ex_var 7) ex_int (fun _ _ => rfl)) xa_row) (ex_ix ix_seq os_ix (ex_var 3) ex_int (fun _ _ => rfl)) (nomark _) (fun _ _ _ h => pNe_bool h))))))
      (es_one (es_ret ex_bl))
      es_nil)
      (es_one (es_if (PW.pt (ew_or (et_cmp (od_ne hr.units) os_ne (ex_atX (ex_ix ix_seq os_ix (ex_var 7) ex_int (fun _ _ => rfl)) xa_line) (ex_ix ix_seq os_ix (ex_var 3) ex_int (fun _ _ => rfl)) (nomark _) (fun _ _ _ h => pNe_bool h)) (ew_or (et_cmp (od_ne hr.units) os_ne (ex_atX (ex_ix ix_seq os_ix (ex_var 7) ex_int (fun _ _ => rfl)) xa_many) (ex_ix ix_seq os_ix (ex_var 3) ex_int (fun _ _ => rfl)) (nomark _) (fun _ _ _ h => pNe_bool h)) (pw_or1 (et_cmp (od_ne hr.units) os_ne (ex_atX (ex_ix ix_seq os_ix (ex_var 7) ex_int (fun _ _ => rfl)) xa_most) (ex_ix ix_seq os_ix (ex_var 3) ex_int (fun _ _ => rfl)) (nomark _) (fun _ _ _ h => pNe_bool h))))))
      (es_one (es_ret ex_bl))
      es_nil)))))))))))
    (es_one (es_ret ex_bl)))

end
end K07
set_option Elab.async false
set_option linter.all false
set_option maxRecDepth 100000
set_option maxHeartbeats 4000000
/-! the end of a law some of whose defs have generator expressions -/
namespace Dl
open PySem PySem.Spec PyProof.Rows L2 GxR
theorem law_many {l : PySem.W.OpenLaw} {w : World} {K : PySem.W.Frag} {CX : CXT} {k n : Nat} {x : Str} {mg mb : Str → Option Value} {fa : Addr} {h : Heap} {q : Program} {loose : List Str} {mean : ExcName → Option Value} {fd : FuncData} {sp : Sp} (ts : List (Addr × Addr))
    (Tp : Top q (PySem.W.looseW q loose) mean mg mb h) (KX : K.In h) (hts : ∀ p ∈ ts, ∃ (y : Str) (d : DefRec), (recsOf q).find? (fun e => e.name == y) = some d ∧ PySem.W.tabIn K y = some p) (hk : PySem.W.noTabs K = true)
    (hb : ∀ (s : Shared) (u : Value), BindsTo s fd ⟨[u], []⟩ [(x, u)])
    (hsp : ∀ (H : Hp) (a : Addr) (ns : List Int), (∀ p ∈ ts, TabG H p.2) → SqL K H a (ns.map V.int) → sp [.ref a] H (fun v _ => v = .bl true) fun _ _ _ => False)
    (hF : ∀ base : Heap, K.In base → base.Ns mainGlobals mg → (∀ p ∈ ts, TabB base mg p.1 p.2) → FnOk l.prog w K mg base CX k fa fd [x] sp) : LamX.LawAtS l w K CX k n x mg fa h := by
  refine ⟨fd, ts, sp, fun p hp => ?_, fun p hp => ?_, fun p hp => ?_, hb, fun H a ns _ _ ht hS => hsp H a ns (fun p hp => ⟨#[], ht p hp, trivial⟩) hS, fun base b1 b2 b3 => hF base b1 b2 fun p hp => ⟨(b3 p hp).code, (b3 p hp).bm, (b3 p hp).gP⟩⟩
  · obtain ⟨y, d, hr, ht⟩ := hts p hp
    exact (PySem.W.tab_of Tp KX hr ht).2
  · obtain ⟨y, d, hr, ht⟩ := hts p hp
    have hT := (PySem.W.tab_of Tp KX hr ht).2
    cases e : K.lookup p.2 with
    | none => rfl
    | some o =>
      have e2 := KX p.2 o e
      rw [hT] at e2
      cases e2
      have h2 := List.all_eq_true.mp hk _ (PySem.W.mem_of_lookupK e)
      exact absurd (show false = true from h2) Bool.false_ne_true
  · obtain ⟨y, d, hr, ht⟩ := hts p hp
    exact (PySem.W.tab_of Tp KX hr ht).1
end Dl
set_option Elab.async false
set_option linter.all false
set_option maxRecDepth 100000
set_option maxHeartbeats 4000000
/-! the deck of words and forms, with classes of exceptions beside it -/
namespace Dl
open PySem PySem.Spec PyProof.Rows L2 GxR
/-- the deck's handle, and the exceptions' classes L by their numbers -/
def hdX (d : Addr) (L : List Addr) : Nat → Addr → Prop := fun n a => (n = 0 ∧ a = d) ∨ (2000 ≤ n ∧ L[n - 2000]? = some a)
theorem hdX_0 {d a : Addr} {L : List Addr} (h : hdX d L 0 a) : a = d := by
  rcases h with ⟨_, h⟩ | ⟨h, _⟩
  · exact h
  · omega
theorem hdX_cls {d a : Addr} {L : List Addr} {c : Nat} (h : L[c]? = some a) : hdX d L (2000 + c) a := .inr ⟨by omega, by rw [Nat.add_sub_cancel_left]; exact h⟩
theorem hdX_of {d a : Addr} {L : List Addr} {c : Nat} (h : hdX d L (2000 + c) a) : L[c]? = some a := by
  rcases h with ⟨h, _⟩ | ⟨_, h⟩
  · omega
  · rw [Nat.add_sub_cancel_left] at h
    exact h
section
variable {P : Program} {w : World} {K : PySem.W.Frag} {mg : Str → Option Value} {base : Heap} {f : Addr} {fd : FuncData}
def tRestX (K : PySem.W.Frag) (L : List Addr) (Ts : List Addr) (W : List Nat) (F : Sv DS) : TS := fun E σ H => ∃ d c, tSt ⟨K, hdX d L⟩ (Zt d c Ts) W F E σ H
theorem pss_restX {X : Cx} {L Ts : List Addr} {W : List Nat} {F : Sv DS} {st : List Stmt} (h : ∀ d c, PSs X st (tSt ⟨K, hdX d L⟩ (Zt d c Ts) W F)) : PSs X st (tRestX K L Ts W F) := ⟨fun pins s σ H D I ⟨d, c, q⟩ => (h d c).run pins s σ H D I q⟩
theorem rest_atX {L Ts : List Addr} {W : List Nat} {F : Sv DS} {n : Nat} {d c a : Addr} {H : Hp} {s : DS} {Q : VK} {nx : L2.St → Hp → Prop} (k : DkS d c H s) (kt : ∀ T ∈ Ts, TabG H T) (hW : ∀ i ∈ W, 2 ≤ i) (ht : Ok (F (lawR n) s) fun r _ => r = .rt (.bool true)) (q : ∀ H', Q (.bl true) H') :
    tRestX K L Ts W F { nx := nx, rt := Q } (some (.ref a) :: some (.ref d) :: List.replicate n none) H := by
  obtain ⟨r, s', e, rfl⟩ := ht
  have kz : (Zt d c Ts).R H s := ⟨k, kt⟩
  refine ⟨d, c, (Zt d c Ts).M, H, fun _ => False, lawR n, s, .rt (.bool true), s', ⟨⟨⟨?_, ?_, ?_⟩, ?_, fun _ z => z.elim, fun _ z => z, fun _ z => z.elim⟩, Lc.Fr.refl H, ?_, fun _ z => z.elim, kz⟩, e, ?_⟩
  · simp [lawR]
  · intro i x hi hx
    match i, hx with
    | 0, hx => cases hx
    | 1, hx =>
      cases hx
      refine ⟨.ref d, rfl, ?_⟩
      show Rep _ _ H (hnd 0) (.ref d)
      unfold hnd
      simp only [Rep]
      exact ⟨d, rfl, .inl ⟨0, rfl, .inl ⟨rfl, rfl⟩⟩⟩
    | i + 2, hx =>
      have hx : (List.replicate n (none : Option D))[i]? = some (some x) := hx
      rw [List.getElem?_replicate] at hx
      split at hx <;> cases hx
  · have no : ∀ i x, i ∈ W → (lawR n)[i]? = some (some x) → False := fun i x hi hx => by
      have h2 := hW i hi
      match i, hx with
      | i + 2, hx =>
        have hx : (List.replicate n (none : Option D))[i]? = some (some x) := hx
        rw [List.getElem?_replicate] at hx
        split at hx <;> cases hx
    exact ⟨fun _ => 0, (fun i j x y hi _ hx => (no i x hi hx).elim), fun i x hi hx => (no i x hi hx).elim⟩
  · exact fun a z => (Zt d c Ts).dom H s a kz z
  · exact fun a z => (Zt d c Ts).dom H s a kz z
  · intro v H' _ hr _
    simp only [Rep] at hr
    rw [hr]
    exact q H'
end
end Dl
set_option Elab.async false
set_option linter.all false
set_option maxRecDepth 100000
set_option maxHeartbeats 4000000
namespace K07
open PySem PySem.Spec PyProof.Rows L2 Dl
section
variable {P : Program} {w : World} {K : PySem.W.Frag} {mg : Str → Option Value} {base : Heap} {f : Addr} {fd : FuncData}
abbrev s_w_mixed : Stmt := topS 12
abbrev N_w_mixed : List Str := ["_law_cell", "_law_k", "_law_number_here"]
theorem sc_w_mixed : FnScope N_w_mixed ["_law_cell", "_law_k"] (defScope s_w_mixed) := ⟨rfl, rfl, rfl, by decide +kernel, rfl, by decide +kernel, by decide +kernel⟩
def spMixed : Sp := fun vs H Q _ => ∃ a b : Int, vs = [.int a, .int b] ∧ Q (.int (mixF a b)) H
theorem ok_w_mixed {k : Nat} (F : Fun K "_law_mixed" "_law_mixed" s_w_mixed f fd) : FnOk P w K mg base CX0 (k + 1) f fd ["_law_cell", "_law_k"] spMixed := by
  refine F.ok sc_w_mixed (fun vs H Q E h => ?_) (fun cdv A outer s H vs Q E hr h => ?_)
  · obtain ⟨a, b, rfl, _⟩ := h
    rfl
  · obtain ⟨a, b, rfl, q⟩ := h
    refine ⟨_, (pss_cons (ps_set (i := 2) sc_w_mixed.nd rfl (.inl rfl) (pe_op op_mod (pe_op op_mul (pe_op op_add (pe_op op_add (pe_op op_mod (pv 0) pe_int) (pe_op op_mul pe_int (pv 1))) pe_int) pe_int) pe_int))
      (pss_cons (ps_set (i := 2) sc_w_mixed.nd rfl (.inl rfl) (pe_op op_mod (pe_op op_add (pe_op op_add (pe_op op_mul (pv 2) (pv 2)) (pe_op op_mul pe_int (pv 1))) pe_int) pe_int))
      (pss_one (ps_ret (pe_op op_add (pe_op op_mul (pv 2) pe_int) (pe_op op_mod (pe_op op_add (pe_op op_add (pe_op op_mul (pv 2) (pv 2)) (pe_op op_mul pe_int (pv 2))) (pv 1)) pe_int)))))), ?_⟩
    refine ⟨.int a, rfl, a, _, rfl, rfl, (show (0 : Int) < 2147483629 by decide), .int b, rfl, 7919, b, rfl, rfl, .inl ⟨by decide, by decide⟩, _, _, rfl, rfl, _, _, rfl, rfl, _, _, rfl, rfl, .inr ⟨by decide, by decide⟩, _, _, rfl, rfl, (show (0 : Int) < 2147483647 by decide), ?_⟩
    have z0 : 0 ≤ mixZ a b := Int.emod_nonneg _ (by decide)
    have z1 : mixZ a b < 2147483647 := Int.emod_lt_of_pos _ (by decide)
    show tSeq _ _ _ [some (.int a), some (.int b), some (.int (mixZ a b))] H
    refine ⟨.int (mixZ a b), rfl, .int (mixZ a b), rfl, mixZ a b, mixZ a b, rfl, rfl, .inl ⟨by omega, by omega⟩, .int b, rfl, 69621, b, rfl, rfl, .inl ⟨by decide, by decide⟩, _, _, rfl, rfl, _, _, rfl, rfl, _, _, rfl, rfl, (show (0 : Int) < 2147483587 by decide), ?_⟩
    have yl : -(2 ^ 64) < mixY a b := Int.lt_of_lt_of_le (by decide) (Int.emod_nonneg _ (by decide))
    have yh : mixY a b < 2 ^ 64 := Int.lt_trans (Int.emod_lt_of_pos _ (by decide)) (by decide)
    exact ⟨_, rfl, _, _, rfl, rfl, .inl ⟨yl, yh⟩, _, rfl, _, rfl, _, _, rfl, rfl, .inl ⟨yl, yh⟩, _, rfl, 16807, _, rfl, rfl, .inl ⟨by decide, by decide⟩, _, _, rfl, rfl, .int b, rfl, _, _, rfl, rfl, _, _, rfl, rfl, (show (0 : Int) < 2147483563 by decide), _, _, rfl, rfl, q⟩
abbrev s_w_deck : Stmt := topS 13
abbrev N_w_deck : List Str := ["_law_script"]
theorem sc_w_deck : FnScope N_w_deck ["_law_script"] (defScope s_w_deck) := ⟨rfl, rfl, rfl, by decide +kernel, rfl, by decide +kernel, by decide +kernel⟩
def spDeck (K : PySem.W.Frag) : Sp := fun vs H Q _ => ∃ (a : Addr) (ns : List Int), vs = [.ref a] ∧ SqL K H a (ns.map V.int) ∧ ∀ d c H' s, Same H H' → d ≠ c → DkS d c H' s → H d = none → H c = none → Q (.ref d) H'
theorem ok_w_deck {k : Nat} (F : Fun K "_law_deck" "_law_deck" s_w_deck f fd) (m_list : mg "list" = none) (m_sum : mg "sum" = none) (m_len : mg "len" = none) (m_reversed : mg "reversed" = none) : FnOk P w K mg base CX0 (k + 1) f fd ["_law_script"] (spDeck K) := by
  refine F.ok sc_w_deck (fun vs H Q E h => ?_) (fun cdv A outer s H vs Q E hr h => ?_)
  · obtain ⟨a, ns, rfl, _⟩ := h
    rfl
  · obtain ⟨a, ns, rfl, hS, q⟩ := h
    refine ⟨_, (pss_one (ps_ret (pe_lst (pa_cons (Lc.pe_listRev rfl (by rfl) m_list (by rfl) m_reversed (pe_slice sl_list (pv 0) po_none (po_some pe_int))) (pa_cons (pe_op op_add (pe_callB (cr_sum rfl) (by rfl) m_sum (by decide +kernel) (pa_cons (pe_slice sl_list (pv 0) po_none (po_some pe_int)) pa_nil)) (pe_callB call_len_seq (by rfl) m_len (by decide +kernel) (pa_cons (pe_slice sl_list (pv 0) po_none (po_some pe_int)) pa_nil))) (pa_cons pe_int pa_nil)))))), ?_⟩
    have ec : cutV (ns.map V.int) none (some 63) = (ns.take 63).map V.int := by
      rw [show (63 : Int) = ((63 : Nat) : Int) from rfl, Lc.cut_to, List.map_take]
    have l63 : (ns.take 63).length ≤ 63 := by
      rw [List.length_take]
      omega
    generalize ns.take 63 = nt at ec l63
    refine ⟨.ref a, rfl, _, rfl, a, _, rfl, hS, fun p np => ?_⟩
    rw [ec]
    refine ⟨p, _, rfl, SqL.of upd_same, fun c nc => ?_⟩
    rw [← List.map_reverse]
    have s2 : Same H (upd (upd H p (.lst (nt.map V.int))) c (.lst (nt.reverse.map V.int))) := (Lc.same_new np).trans (Lc.same_new nc)
    have hc : (upd (upd H p (.lst (nt.map V.int))) c (.lst (nt.reverse.map V.int))) c = some (.lst (nt.reverse.map V.int)) := upd_same
    generalize (upd (upd H p (.lst (nt.map V.int))) c (.lst (nt.reverse.map V.int))) = H2 at s2 hc ⊢
    refine ⟨.ref a, rfl, _, rfl, a, _, rfl, s2.seq hS, fun p2 np2 => ?_⟩
    rw [ec]
    have s3 := s2.trans (Lc.same_new (o := .lst (nt.map V.int)) np2)
    have hc3 := Lc.same_new (o := .lst (nt.map V.int)) np2 _ _ hc
    have h3 : (upd H2 p2 (.lst (nt.map V.int))) p2 = some (.lst (nt.map V.int)) := upd_same
    generalize upd H2 p2 (.lst (nt.map V.int)) = H3 at s3 hc3 h3 ⊢
    refine ⟨p2, nt, rfl, SqL.of h3, .ref a, rfl, _, rfl, a, _, rfl, s3.seq hS, fun p3 np3 => ?_⟩
    rw [ec]
    have s4 := s3.trans (Lc.same_new (o := .lst (nt.map V.int)) np3)
    have hc4 := Lc.same_new (o := .lst (nt.map V.int)) np3 _ _ hc3
    have h4 : (upd H3 p3 (.lst (nt.map V.int))) p3 = some (.lst (nt.map V.int)) := upd_same
    generalize upd H3 p3 (.lst (nt.map V.int)) = H4 at s4 hc4 h4 ⊢
    refine ⟨p3, _, rfl, .inl (SqL.of h4), _, _, rfl, rfl, Lc.sz (by show 3 ≤ 100000; decide), fun d nd => ?_⟩
    exact q d c _ (nt.reverse, _, 0) (s4.trans (Lc.same_new nd)) (ne_of_none hc4 nd).symm ⟨upd_same, Lc.same_new nd _ _ hc4, by rw [List.length_reverse]; exact l63⟩ (s4.free nd) ((Lc.same_new np).free nc)
abbrev s_w_take : Stmt := topS 14
abbrev N_w_take : List Str := ["_law_deck_here", "_law_most", "_law_cells", "_law_cell"]
theorem sc_w_take : FnScope N_w_take ["_law_deck_here", "_law_most"] (defScope s_w_take) := ⟨rfl, rfl, rfl, by decide +kernel, rfl, by decide +kernel, by decide +kernel⟩
def spTake : Sp := fun vs H Q _ => ∃ (d c : Addr) (s : DS) (m : Int), vs = [.ref d, .int m] ∧ DkS d c H s ∧ 0 < m ∧ m < 1073741824 ∧ ∀ H', Lc.Fr (MD d c) H H' → DkS d c H' (takeF s m).2 → Q (.int (takeF s m).1) H'
theorem ok_w_take {k : Nat} (F : Fun K "_law_take" "_law_take" s_w_take f fd) (C_w_mixed : Lc.Dn P w K mg base "_law_mixed" ["_law_cell", "_law_k"] 1 spMixed) : FnOk P w K mg base CX0 (k + 2) f fd ["_law_deck_here", "_law_most"] spTake := by
  refine F.ok sc_w_take (fun vs H Q E h => ?_) (fun cdv A outer s H vs Q E hr h => ?_)
  · obtain ⟨d, c, s, m, rfl, _⟩ := h
    rfl
  · obtain ⟨d, c, ⟨cells, n, sm⟩, m, rfl, ⟨hd, hc, hl⟩, hm, hm2, q⟩ := h
    simp only at hd hc hl
    refine ⟨_, (pss_cons (ps_set (i := 2) sc_w_take.nd rfl (.inl rfl) (pe_ix ix_list (pv 0) pe_int (fun _ _ => rfl)))
      (pss_cons (ps_asg (pe_op op_add (pe_ix ix_list (pv 0) pe_int (fun _ _ => rfl)) pe_int) (pg_sub (pv 0) pe_int set_list))
      (pss_cons (ps_if (pt_cmpR (Lc.op_eqNil hr.units0) (pv 2) (pe_lst pa_nil) (nomark _))
      (pss_one (ps_ret (pe_op op_mod (Lc.pe_dn C_w_mixed (hr.mono (by omega)) (by rfl) (pa_cons (pe_ix ix_list (pv 0) pe_int (fun _ _ => rfl)) (pa_cons (pe_ix ix_list (pv 0) pe_int (fun _ _ => rfl)) pa_nil))) (pv 1))))
      pss_nil)
      (pss_cons (ps_set (i := 3) sc_w_take.nd rfl (.inl rfl) (pe_bm0 PySem.F.plainAttrs_list PySem.F.slot_list_pop PySem.F.type_list_pop mt_pop (pv 2)))
      (pss_cons (ps_if (pt_cmpR op_lt (pv 3) (pe_op op_pow pe_int pe_int) (nomark _))
      (pss_one (ps_ret (pe_op op_mod (Lc.pe_dn C_w_mixed (hr.mono (by omega)) (by rfl) (pa_cons (pv 3) (pa_cons (pe_ix ix_list (pv 0) pe_int (fun _ _ => rfl)) pa_nil))) (pv 1))))
      pss_nil)
      (pss_cons (ps_if (pt_cmpR op_gt (pe_op op_fdiv (pv 3) (pv 1)) pe_int (nomark _))
      (pss_one (ps_expr (pe_bm PySem.F.plainAttrs_list PySem.F.slot_list_append PySem.F.type_list_append mt_append (pv 2) (pa_cons (pe_op op_fdiv (pv 3) (pv 1)) pa_nil))))
      pss_nil)
      (pss_one (ps_ret (pe_op op_mod (pv 3) (pv 1)))))))))), ?_⟩
    have ndc : d ≠ c := ne_of hd hc (lst_ne cells)
    refine ⟨.ref d, rfl, d, _, 0, .ref c, rfl, rfl, SqL.of hd, rfl, ?_⟩
    refine ⟨.ref d, rfl, d, _, 2, .int sm, rfl, rfl, SqL.of hd, rfl, sm, 1, rfl, rfl, .ref d, rfl, d, _, 2, 2, rfl, rfl, hd, rfl, ?_⟩
    have hd1 : (upd H d (.lst [.ref c, .int n, .int (sm + 1)])) d = some (.lst [.ref c, .int n, .int (sm + 1)]) := upd_same
    have hc1 : (upd H d (.lst [.ref c, .int n, .int (sm + 1)])) c = some (.lst (cells.map V.int)) := by rw [upd_ne ndc.symm]; exact hc
    have f1 : Lc.Fr (MD d c) H (upd H d (.lst [.ref c, .int n, .int (sm + 1)])) := Lc.Fr.mut (.inl rfl)
    show tSeq _ _ _ _ (upd H d (.lst [.ref c, .int n, .int (sm + 1)]))
    generalize (upd H d (.lst [.ref c, .int n, .int (sm + 1)])) = H1 at hd1 hc1 f1 ⊢
    refine ⟨.ref c, rfl, Nat.zero_le _, fun o no => ?_⟩
    have hd2 := Lc.same_new (o := .lst []) no _ _ hd1
    have hc2 := Lc.same_new (o := .lst []) no _ _ hc1
    have f2 := f1.trans (Lc.Fr.new (o := .lst []) no)
    have ho2 : (upd H1 o (.lst [])) o = some (.lst []) := upd_same
    generalize upd H1 o (.lst []) = H2 at hd2 hc2 f2 ho2 ⊢
    refine ⟨c, o, _, rfl, rfl, SqL.of hc2, SqL.of ho2, _, rfl, ?_⟩
    rcases List.eq_nil_or_concat cells with e | ⟨ini, x, e⟩
    · subst e
      refine iteT ?_
      refine ⟨.ref d, rfl, d, _, 1, .int n, rfl, rfl, SqL.of hd2, rfl, .ref d, rfl, d, _, 2, .int (sm + 1), rfl, rfl, SqL.of hd2, rfl, n, sm + 1, rfl, ?_⟩
      exact ⟨.int m, rfl, _, m, rfl, rfl, hm, q H2 f2 ⟨hd2, hc2, Nat.zero_le _⟩⟩
    · have e : cells = ini ++ [x] := by rw [e, List.concat_eq_append]
      subst e
      have eg : (ini ++ [x]).getLast? = some x := by simp
      have edl : (ini ++ [x]).dropLast = ini := List.dropLast_concat
      have hl' : ini.length + 1 ≤ 63 := by simpa using hl
      have e0 : (((ini ++ [x]).map V.int).isEmpty != false) = false := by cases ini <;> rfl
      rw [e0]
      refine iteF ?_
      refine ⟨.ref c, rfl, .inl ⟨rfl, _, SqL.of hc2⟩, c, _, .int x, rfl, rfl, hc2, ?_, ?_⟩
      · rw [List.map_append, List.length_append]
        simp
      have ed : ((ini ++ [x]).map V.int).dropLast = ini.map V.int := by
        rw [List.map_append]
        exact List.dropLast_concat
      rw [ed]
      have hd3 : (upd H2 c (.lst (ini.map V.int))) d = some (.lst [.ref c, .int n, .int (sm + 1)]) := by rw [upd_ne ndc]; exact hd2
      have hc3 : (upd H2 c (.lst (ini.map V.int))) c = some (.lst (ini.map V.int)) := upd_same
      have f3 : Lc.Fr (MD d c) H (upd H2 c (.lst (ini.map V.int))) := f2.trans (Lc.Fr.mut (.inr rfl))
      show tSeq _ _ _ _ (upd H2 c (.lst (ini.map V.int)))
      generalize upd H2 c (.lst (ini.map V.int)) = H3 at hd3 hc3 f3 ⊢
      refine ⟨.int x, rfl, 10, 18, rfl, rfl, ⟨by decide, by decide, by decide⟩, _, _, rfl, rfl, _, rfl, ite2 (fun e => ?_) (fun e => ?_)⟩
      · refine ⟨.int x, rfl, .ref d, rfl, d, _, 2, .int (sm + 1), rfl, rfl, SqL.of hd3, rfl, x, sm + 1, rfl, ?_⟩
        have e9 : takeF (ini ++ [x], n, sm) m = (mixF x (sm + 1) % m, (ini, n, sm + 1)) := by
          unfold takeF
          simp only [eg, edl]
          exact if_pos (of_decide_eq_true e)
        rw [e9] at q
        exact ⟨.int m, rfl, _, m, rfl, rfl, hm, q H3 f3 ⟨hd3, hc3, by show ini.length ≤ 63; omega⟩⟩
      · refine ⟨.int x, rfl, .int m, rfl, x, m, rfl, rfl, ⟨hm, hm2⟩, _, 0, rfl, rfl, _, rfl, ite2 (fun e2 => ?_) (fun e2 => ?_)⟩
        · refine ⟨.ref c, rfl, .inl ⟨rfl, _, SqL.of hc3⟩, .int x, rfl, .int m, rfl, x, m, rfl, rfl, ⟨hm, hm2⟩, c, _, _, rfl, rfl, hc3, ?_, ?_⟩
          · rw [List.length_map]
            exact Lc.szl (by omega)
          · have hd4 : (upd H3 c (.lst (ini.map V.int ++ [.int (x / m)]))) d = some (.lst [.ref c, .int n, .int (sm + 1)]) := by rw [upd_ne ndc]; exact hd3
            refine ⟨.int x, rfl, .int m, rfl, x, m, rfl, rfl, hm, ?_⟩
            have e9 : takeF (ini ++ [x], n, sm) m = (x % m, (ini ++ [x / m], n, sm + 1)) := by
              unfold takeF
              simp only [eg, edl]
              rw [if_neg (show ¬ x < 10 ^ 18 from fun z => e (decide_eq_true z)), if_pos (of_decide_eq_true e2)]
            rw [e9] at q
            refine q (upd H3 c (.lst (ini.map V.int ++ [.int (x / m)]))) (f3.trans (Lc.Fr.mut (.inr rfl))) ⟨hd4, ?_, by simpa using hl'⟩
            rw [upd_same, List.map_append]
            rfl
        · have e9 : takeF (ini ++ [x], n, sm) m = (x % m, (ini, n, sm + 1)) := by
            unfold takeF
            simp only [eg, edl]
            rw [if_neg (show ¬ x < 10 ^ 18 from fun z => e (decide_eq_true z)), if_neg fun z => e2 (decide_eq_true z)]
          rw [e9] at q
          exact ⟨.int x, rfl, .int m, rfl, x, m, rfl, rfl, hm, q H3 f3 ⟨hd3, hc3, by show ini.length ≤ 63; omega⟩⟩

/-- the take by its function on data -/
theorem D_take {d c : Addr} {L : List Addr} {k : Nat} {f : Addr} {fd : FuncData} (F : Fun K "_law_take" "_law_take" s_w_take f fd) (C_w_mixed : Lc.Dn P w K mg base "_law_mixed" ["_law_cell", "_law_k"] 1 spMixed) : FnOk P w K mg base CX0 (k + 2) f fd ["_law_deck_here", "_law_most"] (spD ⟨K, hdX d L⟩ (Zd d c) 2 Ftake) := by
  have h := ok_w_take (P := P) (w := w) (K := K) (mg := mg) (base := base) (k := k) F C_w_mixed
  refine ⟨fun vs H Q E h => ?_, fun A outer s H args us vs Q E hr he hb hv hsp => h.run A outer s H args us vs Q E hr he hb hv ?_⟩
  · obtain ⟨B, ds, s, d, s', h1, _, _, h2, _⟩ := h
    rw [h2.len, h1]
    rfl
  · obtain ⟨B, ds, s, x, s', h1, bd, mb, h2, R, hF, q⟩ := hsp
    unfold Ftake at hF
    split at hF
    · split at hF
      · rename_i m hm
        cases hF
        simp only [Reps, Rep] at h2
        obtain ⟨v, r, rfl, ⟨a, rfl, ⟨n, e1, h0⟩ | ⟨e1, _⟩ | ⟨_, e1, _⟩ | ⟨_, e1, _⟩ | ⟨_, e1, _⟩⟩, v2, r2, rfl, rfl, rfl⟩ := h2
        rotate_left
        · cases e1
        · cases e1
        · cases e1
        · cases e1
        have e2 : n = 0 := by
          have e3 : (0 : Int) = (n : Int) := by simpa using e1
          omega
        subst e2
        obtain rfl := hdX_0 h0
        exact ⟨a, c, s, m, rfl, R, hm.1, hm.2, fun H' f1 k1 => q _ H' f1 (by simp only [Rep]) k1⟩
      · cases hF
    · cases hF
end
end K07
set_option Elab.async false
set_option linter.all false
set_option maxRecDepth 100000
set_option maxHeartbeats 4000000
/-! equations for simp: expressions -/
namespace Dl
open PySem PySem.Spec PyProof.Rows L2
section
variable {S : Type} {ρ : Rho} {s : S} {f g h : Ev S} {fa : Ea S} {Q : D → S → Prop} {QL : List D → S → Prop} {QB : Bool → S → Prop}
theorem ok_V0 {d : D} : Ok (cVar 0 (some d :: ρ) s) Q ↔ Q d s := by simp [cVar]
theorem ok_Vs {i : Nat} {x : Option D} : Ok (cVar (i + 1) (x :: ρ) s) Q ↔ Ok (cVar i ρ s) Q := by simp [cVar]
theorem ok_K {d : D} : Ok (cK d ρ s) Q ↔ Q d s := by simp [cK]
theorem ok_B {p : D → D → Option D} : Ok (cB p f g ρ s) Q ↔ Ok (f ρ s) fun x s => Ok (g ρ s) fun y s => ∃ z, p x y = some z ∧ Q z s := by simp only [cB, ok_bnd, ok_put]
theorem ok_U {p : D → Option D} : Ok (cU p f ρ s) Q ↔ Ok (f ρ s) fun x s => ∃ z, p x = some z ∧ Q z s := by simp only [cU, ok_bnd, ok_put]
theorem ok_nil : Ok (aNil ρ s) QL ↔ QL [] s := by simp [aNil]
theorem ok_cons : Ok (aCons f fa ρ s) QL ↔ Ok (f ρ s) fun x s => Ok (fa ρ s) fun xs s => QL (x :: xs) s := by simp only [aCons, ok_bnd, ok_some]
theorem ok_N {p : List D → Option D} : Ok (cN p fa ρ s) Q ↔ Ok (fa ρ s) fun xs s => ∃ z, p xs = some z ∧ Q z s := by simp only [cN, ok_bnd, ok_put]
theorem ok_aN {p : List D → Option (List D)} : Ok (aN p fa ρ s) QL ↔ Ok (fa ρ s) fun xs s => ∃ z, p xs = some z ∧ QL z s := by simp only [aN, ok_bnd, ok_put]
theorem ok_call {n : Nat} {F : Fn S} : Ok (cCall n F fa ρ s) Q ↔ Ok (fa ρ s) fun xs s => xs.length = n ∧ Ok (F xs s) Q := by
  simp only [cCall, ok_bnd]
  constructor
  · intro h
    refine h.imp fun x s h => ?_
    split at h
    · exact ⟨by assumption, h⟩
    · exact (ok_none.mp h).elim
  · intro h
    exact h.imp fun x s h => by rw [if_pos h.1]; exact h.2
theorem ok_nl : Ok (cNl fa ρ s) Q ↔ Ok (fa ρ s) fun xs s => Q (.list xs) s := by simp only [cNl, ok_bnd, ok_some]
theorem ok_fl : Ok (cFl f ρ s) Q ↔ Ok (f ρ s) fun x s => flatD x = true ∧ Q x s := by
  simp only [cFl, ok_bnd]
  constructor
  · intro h
    refine h.imp fun x s h => ?_
    split at h
    · exact ⟨by assumption, ok_some.mp h⟩
    · exact (ok_none.mp h).elim
  · intro h
    exact h.imp fun x s h => by rw [if_pos h.1]; exact ok_some.mpr h.2
theorem ok_afl : Ok (aFl fa ρ s) QL ↔ Ok (fa ρ s) fun x s => flatDs x = true ∧ QL x s := by
  simp only [aFl, ok_bnd]
  constructor
  · intro h
    refine h.imp fun x s h => ?_
    split at h
    · exact ⟨by assumption, ok_some.mp h⟩
    · exact (ok_none.mp h).elim
  · intro h
    exact h.imp fun x s h => by rw [if_pos h.1]; exact ok_some.mpr h.2
theorem ok_T : Ok (qT f ρ s) QB ↔ Ok (f ρ s) fun x s => ∃ b, truth x = some b ∧ QB b s := by simp only [qT, ok_bnd, ok_put]
theorem ok_qNot {q : Et S} : Ok (qNot q ρ s) QB ↔ Ok (q ρ s) fun b s => QB (!b) s := by simp only [qNot, ok_bnd, ok_some]
theorem ok_if2 {α : Type} {b : Bool} {x y : Option (α × S)} {R : α → S → Prop} : Ok (if b = true then x else y) R ↔ if b = true then Ok x R else Ok y R := by cases b <;> simp
theorem ok_qAnd {q r : Et S} : Ok (qAnd q r ρ s) QB ↔ Ok (q ρ s) fun b s => if b = true then Ok (r ρ s) QB else QB false s := by simp only [qAnd, ok_bnd, ok_if2, ok_some]
theorem ok_qOr {q r : Et S} : Ok (qOr q r ρ s) QB ↔ Ok (q ρ s) fun b s => if b = true then QB true s else Ok (r ρ s) QB := by simp only [qOr, ok_bnd, ok_if2, ok_some]
theorem ok_and : Ok (cAnd f g ρ s) Q ↔ Ok (f ρ s) fun x s => ∃ b, truth x = some b ∧ if b = true then Ok (g ρ s) Q else Q x s := by simp only [cAnd, ok_bnd, ok_put, ok_if2, ok_some]
theorem ok_or : Ok (cOr f g ρ s) Q ↔ Ok (f ρ s) fun x s => ∃ b, truth x = some b ∧ if b = true then Q x s else Ok (g ρ s) Q := by simp only [cOr, ok_bnd, ok_put, ok_if2, ok_some]
theorem ok_not : Ok (cNot f ρ s) Q ↔ Ok (f ρ s) fun x s => ∃ b, truth x = some b ∧ Q (.bool (!b)) s := by simp only [cNot, ok_bnd, ok_put, ok_some]
theorem ok_if {q : Et S} : Ok (cIf q f g ρ s) Q ↔ Ok (q ρ s) fun b s => if b = true then Ok (f ρ s) Q else Ok (g ρ s) Q := by simp only [cIf, ok_bnd, ok_if2]
theorem ok_Sl {p : D → Option Int → Option Int → Option D} {l h : Eo' S} : Ok (cSl p f l h ρ s) Q ↔ Ok (f ρ s) fun x s => Ok (l ρ s) fun lo s => Ok (h ρ s) fun hi s => ∃ z, p x lo hi = some z ∧ Q z s := by simp only [cSl, ok_bnd, ok_put]
theorem ok_oNo {QO : Option Int → S → Prop} : Ok (oNo ρ s) QO ↔ QO none s := by simp [oNo]
theorem ok_oOf {QO : Option Int → S → Prop} : Ok (oOf f ρ s) QO ↔ Ok (f ρ s) fun x s => ∃ i, asI x = some i ∧ QO (some i) s := by
  simp only [oOf, ok_bnd, ok_put]
  constructor
  · intro h
    refine h.imp fun x s h => ?_
    obtain ⟨a, h1, h2⟩ := h
    rw [Option.map_eq_some_iff] at h1
    obtain ⟨i, h3, rfl⟩ := h1
    exact ⟨i, h3, h2⟩
  · intro h
    refine h.imp fun x s h => ?_
    obtain ⟨i, h1, h2⟩ := h
    exact ⟨some i, by rw [h1]; rfl, h2⟩
theorem ok_Ch {p q : D → D → Option D} : Ok (cCh p q f g h ρ s) Q ↔ Ok (f ρ s) fun x s => Ok (g ρ s) fun y s => ∃ z, p x y = some z ∧ ∃ b, asB z = some b ∧ if b = true then Ok (h ρ s) fun w s => ∃ z, q y w = some z ∧ Q z s else Q (.bool false) s := by
  simp only [cCh, ok_bnd, ok_put, ok_if2, ok_some]
theorem ok_it {p : D → Option (List D)} : Ok (iOf p f ρ s) QL ↔ Ok (f ρ s) fun x s => ∃ z, p x = some z ∧ QL z s := by simp only [iOf, ok_bnd, ok_put]
theorem ok_itA {p : List D → Option (List D)} : Ok (iOfA p fa ρ s) QL ↔ Ok (fa ρ s) fun x s => ∃ z, p x = some z ∧ QL z s := by simp only [iOfA, ok_bnd, ok_put]
theorem ok_yes : Ok (qYes ρ s) QB ↔ QB true s := by simp [qYes]
end
/-! what the operators come to -/
section
variable {i j : Int} {a b : Str} {x y : D} {ds es : List D}
theorem v_addI : pAdd (.int i) (.int j) = some (.int (i + j)) := rfl
theorem v_addS (h : a.length + b.length ≤ sizeLine) : pAdd (.str a) (.str b) = some (.str (a ++ b)) := by simp only [pAdd]; rw [if_pos h]
theorem v_addL (h : ds.length + es.length ≤ sizeLine) : pAdd (.list ds) (.list es) = some (.list (ds ++ es)) := by simp only [pAdd]; rw [if_pos h]
theorem v_sub : pSub (.int i) (.int j) = some (.int (i - j)) := rfl
theorem v_neg : pNeg (.int i) = some (.int (-i)) := rfl
theorem v_mod (h : 0 < j) : pMod (.int i) (.int j) = some (.int (i % j)) := by simp only [pMod, pI]; rw [if_pos (decide_eq_true h)]
theorem v_eqI : pEq (.int i) (.int j) = some (.bool (decide (i = j))) := rfl
theorem v_eqS : pEq (.str a) (.str b) = some (.bool (decide (a = b))) := rfl
theorem v_eqB {p q : Bool} : pEq (.bool p) (.bool q) = some (.bool (decide (p = q))) := rfl
theorem v_eq0 : pEq (.list ds) (.list []) = some (.bool ds.isEmpty) := rfl
theorem v_eqT0 : pEq (.tuple ds) (.tuple []) = some (.bool ds.isEmpty) := rfl
theorem v_neI : pNe (.int i) (.int j) = some (.bool (!decide (i = j))) := rfl
theorem v_neS : pNe (.str a) (.str b) = some (.bool (!decide (a = b))) := rfl
theorem v_neB {p q : Bool} : pNe (.bool p) (.bool q) = some (.bool (!decide (p = q))) := rfl
theorem v_ne0 : pNe (.list ds) (.list []) = some (.bool (!ds.isEmpty)) := rfl
theorem v_neT0 : pNe (.tuple ds) (.tuple []) = some (.bool (!ds.isEmpty)) := rfl
theorem v_ltI : pLt (.int i) (.int j) = some (.bool (decide (i < j))) := rfl
theorem v_leI : pLe (.int i) (.int j) = some (.bool (decide (i ≤ j))) := rfl
theorem v_gtI : pGt (.int i) (.int j) = some (.bool (decide (j < i))) := rfl
theorem v_geI : pGe (.int i) (.int j) = some (.bool (decide (j ≤ i))) := rfl
theorem v_is : pIs x .none = some (.bool (nonD x)) := rfl
theorem v_isNot : pIsNot x .none = some (.bool (!nonD x)) := rfl
theorem v_nn : nonD .none = true := rfl
theorem v_ns : nonD (.str a) = false := rfl
theorem v_ni : nonD (.int i) = false := rfl
theorem v_nl : nonD (.list ds) = false := rfl
theorem v_nt : nonD (.tuple ds) = false := rfl
theorem v_tb {p : Bool} : truth (.bool p) = some p := rfl
theorem v_tl : truth (.list ds) = some (!ds.isEmpty) := rfl
theorem v_tt : truth (.tuple ds) = some (!ds.isEmpty) := rfl
theorem v_tn : truth .none = some false := rfl
theorem v_ti : truth (.int i) = some (i != 0) := rfl
theorem v_asB {p : Bool} : asB (.bool p) = some p := rfl
theorem v_asI : asI (.int i) = some i := rfl
theorem v_asL : asL (.list ds) = some ds := rfl
theorem v_asT : asT (.tuple ds) = some ds := rfl
theorem v_asS : asS (.str a) = some (a.cps.toList.map fun c => .str ⟨#[c]⟩) := rfl
theorem v_lenL : pLen [.list ds] = some (.int ds.length) := rfl
theorem v_lenT : pLen [.tuple ds] = some (.int ds.length) := rfl
theorem v_lenS (h : a.length ≤ sizeLine) : pLen [.str a] = some (.int a.length) := by simp only [pLen]; rw [if_pos h]
theorem v_tupL : pTuple [.list ds] = some (.tuple ds) := rfl
theorem v_tupT : pTuple [.tuple ds] = some (.tuple ds) := rfl
theorem v_listL : pList [.list ds] = some ds := rfl
theorem v_listT : pList [.tuple ds] = some ds := rfl
theorem v_intB {p : Bool} : pInt [.bool p] = some (.int (if p then 1 else 0)) := rfl
theorem v_tup (h : ds.length ≤ sizeLine) : pTup ds = some (.tuple ds) := by simp only [pTup]; rw [if_pos h]
theorem v_tup0 : pTup [] = some (.tuple []) := rfl
theorem v_tup1 {a : D} : pTup [a] = some (.tuple [a]) := rfl
theorem v_tup2 {a b : D} : pTup [a, b] = some (.tuple [a, b]) := rfl
theorem v_tup3 {a b c : D} : pTup [a, b, c] = some (.tuple [a, b, c]) := rfl
theorem v_tup4 {a b c d : D} : pTup [a, b, c, d] = some (.tuple [a, b, c, d]) := rfl
theorem v_tup5 {a b c d e : D} : pTup [a, b, c, d, e] = some (.tuple [a, b, c, d, e]) := rfl
theorem v_lst0 : pLst [] = some (.list []) := rfl
theorem v_lst1 {a : D} : pLst [a] = some (.list [a]) := rfl
theorem v_lst2 {a b : D} : pLst [a, b] = some (.list [a, b]) := rfl
theorem v_lst3 {a b c : D} : pLst [a, b, c] = some (.list [a, b, c]) := rfl
theorem v_lst4 {a b c d : D} : pLst [a, b, c, d] = some (.list [a, b, c, d]) := rfl
theorem v_lst5 {a b c d e : D} : pLst [a, b, c, d, e] = some (.list [a, b, c, d, e]) := rfl
theorem v_ok0 : lenOk [] = some [] := rfl
theorem v_ok1 {a : D} : lenOk [a] = some [a] := rfl
theorem v_ok2 {a b : D} : lenOk [a, b] = some [a, b] := rfl
theorem v_ix0L {d : D} : pIx (.list (d :: ds)) (.int 0) = some d := by simp only [pIx]; exact atI_nat (j := 0) rfl
theorem v_ix0 {d : D} : pIx (.tuple (d :: ds)) (.int 0) = some d := by simp only [pIx]; exact atI_nat (j := 0) rfl
theorem v_ix1 {c d : D} : pIx (.tuple (c :: d :: ds)) (.int 1) = some d := by simp only [pIx]; exact atI_nat (j := 1) rfl
theorem v_ix2 {b c d : D} : pIx (.tuple (b :: c :: d :: ds)) (.int 2) = some d := by simp only [pIx]; exact atI_nat (j := 2) rfl
theorem v_ix3 {a b c d : D} : pIx (.tuple (a :: b :: c :: d :: ds)) (.int 3) = some d := by simp only [pIx]; exact atI_nat (j := 3) rfl
theorem v_fs : flatD (.str a) = true := rfl
theorem v_fi : flatD (.int i) = true := rfl
theorem v_fb {p : Bool} : flatD (.bool p) = true := rfl
theorem v_fn : flatD .none = true := rfl
theorem v_ft : flatD (.tuple ds) = flatDs ds := rfl
theorem v_f0 : flatDs [] = true := rfl
theorem v_fc : flatDs (x :: ds) = (flatD x && flatDs ds) := rfl
end
end Dl
local macro_rules | `(tactic| walk_at "E") => `(tactic| simp only [Dl.ok_V0, Dl.ok_Vs, Dl.ok_K, Dl.ok_B, Dl.ok_U, Dl.ok_nil, Dl.ok_cons, Dl.ok_N, Dl.ok_aN, Dl.ok_call, Dl.ok_nl, Dl.ok_fl, Dl.ok_afl, Dl.ok_T, Dl.ok_qNot, Dl.ok_qAnd, Dl.ok_qOr, Dl.ok_and, Dl.ok_or, Dl.ok_not, Dl.ok_if, Dl.ok_Sl, Dl.ok_oNo, Dl.ok_oOf, Dl.ok_Ch, Dl.ok_it, Dl.ok_itA, Dl.ok_yes, Dl.v_addI, Dl.v_sub, Dl.v_neg, Dl.v_eqI, Dl.v_eqS, Dl.v_eqB, Dl.v_eq0, Dl.v_eqT0, Dl.v_neI, Dl.v_neS, Dl.v_neB, Dl.v_ne0, Dl.v_neT0, Dl.v_ltI, Dl.v_leI, Dl.v_gtI, Dl.v_geI, Dl.v_is, Dl.v_isNot, Dl.v_nn, Dl.v_ns, Dl.v_ni, Dl.v_nl, Dl.v_nt, Dl.v_tb, Dl.v_tl, Dl.v_tt, Dl.v_tn, Dl.v_ti, Dl.v_asB, Dl.v_asI, Dl.v_asL, Dl.v_asT, Dl.v_asS, Dl.v_lenL, Dl.v_lenT, Dl.v_tupL, Dl.v_tupT, Dl.v_listL, Dl.v_listT, Dl.v_intB, Dl.v_tup0, Dl.v_tup1, Dl.v_tup2, Dl.v_tup3, Dl.v_tup4, Dl.v_tup5, Dl.v_lst0, Dl.v_lst1, Dl.v_lst2, Dl.v_lst3, Dl.v_lst4, Dl.v_lst5, Dl.v_ok0, Dl.v_ok1, Dl.v_ok2, Dl.v_ix0L, Dl.v_ix0, Dl.v_ix1, Dl.v_ix2, Dl.v_ix3, Dl.v_fs, Dl.v_fi, Dl.v_fb, Dl.v_fn, Dl.v_ft, Dl.v_f0, Dl.v_fc, Dl.startR, List.map_cons, List.map_nil, List.length_cons, List.length_nil, List.replicate, List.cons_append, List.nil_append, List.set_cons_zero, List.set_cons_succ, Option.some.injEq, exists_eq_left', Nat.reduceAdd, Nat.reduceSub, Nat.sub_zero, Nat.sub_self, Nat.zero_add, Nat.reduceEqDiff, Bool.not_true, Bool.not_false, if_true, if_false, Bool.and_self, Bool.true_and, Bool.and_true, Bool.false_eq_true, ↓reduceIte, true_and, and_true, decide_true, decide_false, Dl.wipeR])
local macro_rules | `(tactic| simp_arith [$xs,*]) => `(tactic| simp only [Dl.ok_V0, Dl.ok_Vs, Dl.ok_K, Dl.ok_B, Dl.ok_U, Dl.ok_nil, Dl.ok_cons, Dl.ok_N, Dl.ok_aN, Dl.ok_call, Dl.ok_nl, Dl.ok_fl, Dl.ok_afl, Dl.ok_T, Dl.ok_qNot, Dl.ok_qAnd, Dl.ok_qOr, Dl.ok_and, Dl.ok_or, Dl.ok_not, Dl.ok_if, Dl.ok_Sl, Dl.ok_oNo, Dl.ok_oOf, Dl.ok_Ch, Dl.ok_it, Dl.ok_itA, Dl.ok_yes, Dl.v_addI, Dl.v_sub, Dl.v_neg, Dl.v_eqI, Dl.v_eqS, Dl.v_eqB, Dl.v_eq0, Dl.v_eqT0, Dl.v_neI, Dl.v_neS, Dl.v_neB, Dl.v_ne0, Dl.v_neT0, Dl.v_ltI, Dl.v_leI, Dl.v_gtI, Dl.v_geI, Dl.v_is, Dl.v_isNot, Dl.v_nn, Dl.v_ns, Dl.v_ni, Dl.v_nl, Dl.v_nt, Dl.v_tb, Dl.v_tl, Dl.v_tt, Dl.v_tn, Dl.v_ti, Dl.v_asB, Dl.v_asI, Dl.v_asL, Dl.v_asT, Dl.v_asS, Dl.v_lenL, Dl.v_lenT, Dl.v_tupL, Dl.v_tupT, Dl.v_listL, Dl.v_listT, Dl.v_intB, Dl.v_tup0, Dl.v_tup1, Dl.v_tup2, Dl.v_tup3, Dl.v_tup4, Dl.v_tup5, Dl.v_lst0, Dl.v_lst1, Dl.v_lst2, Dl.v_lst3, Dl.v_lst4, Dl.v_lst5, Dl.v_ok0, Dl.v_ok1, Dl.v_ok2, Dl.v_ix0L, Dl.v_ix0, Dl.v_ix1, Dl.v_ix2, Dl.v_ix3, Dl.v_fs, Dl.v_fi, Dl.v_fb, Dl.v_fn, Dl.v_ft, Dl.v_f0, Dl.v_fc, Dl.startR, List.map_cons, List.map_nil, List.length_cons, List.length_nil, List.replicate, List.cons_append, List.nil_append, List.set_cons_zero, List.set_cons_succ, Option.some.injEq, exists_eq_left', Nat.reduceAdd, Nat.reduceSub, Nat.sub_zero, Nat.sub_self, Nat.zero_add, Nat.reduceEqDiff, Bool.not_true, Bool.not_false, if_true, if_false, Bool.and_self, Bool.true_and, Bool.and_true, Bool.false_eq_true, ↓reduceIte, true_and, and_true, decide_true, decide_false, Dl.wipeR, $xs,*])
set_option Elab.async false
set_option linter.all false
set_option maxRecDepth 100000
set_option maxHeartbeats 4000000
namespace Dl
open PySem PySem.Spec L2
section
variable {S : Type} {t : Tg} {q : Et S} {f : Ev S} {ρ : Rho} {s : S}
theorem quF_all (c p : D → Bool) : ∀ ds : List D, (∀ d ∈ ds, ∃ ρ1, t d ρ = some ρ1 ∧ q ρ1 s = some (c d, s) ∧ (c d = true → f ρ1 s = some (.bool (p d), s))) → quF false t q f ρ ds s = some ((ds.filter c).all p, s)
  | [], _ => rfl
  | d :: ds, h => by
    obtain ⟨ρ1, h1, h2, h3⟩ := h d List.mem_cons_self
    have ih := quF_all c p ds fun x hx => h x (List.mem_cons_of_mem _ hx)
    unfold quF
    rw [h1]
    show bnd (q ρ1 s) _ = _
    rw [h2]
    cases hc : c d with
    | false =>
      rw [List.filter_cons_of_neg (by rw [hc]; decide)]
      exact ih
    | true =>
      rw [List.filter_cons_of_pos hc, List.all_cons]
      show bnd (f ρ1 s) _ = _
      rw [h3 hc]
      cases hp : p d with
      | false => rfl
      | true =>
        rw [Bool.true_and]
        exact ih
theorem k_all {fi : Ea S} {vs : List Nat} {ds : List D} (c p : D → Bool) (hi : fi ρ s = some (ds, s)) (h : ∀ d ∈ ds, ∃ ρ1, t d (wipeR ρ vs) = some ρ1 ∧ q ρ1 s = some (c d, s) ∧ (c d = true → f ρ1 s = some (.bool (p d), s))) :
    cQu false fi t q f vs ρ s = some (.bool ((ds.filter c).all p), s) := by
  unfold cQu
  rw [hi]
  show bnd (quF false t q f (wipeR ρ vs) ds s) _ = _
  rw [quF_all c p ds h]
  rfl
end
end Dl
set_option Elab.async false
set_option linter.all false
set_option maxRecDepth 100000
set_option maxHeartbeats 1000000
/-! small facts for the mathematics of a law -/
namespace Mx
open PySem PySem.Spec L2 Dl
theorem szL {n : Nat} (h : n ≤ 100000) : n ≤ sizeLine := Nat.le_trans h (by decide)
theorem szl {n : Nat} (h : n < 100000) : n < sizeLine := Nat.lt_of_lt_of_le h (by decide)
theorem rng_len (lo : Int) (n : Nat) : (rngD lo n).length = n := by simp [rngD]
theorem rng_get {n j : Nat} {lo : Int} {d : D} (h : (rngD lo n)[j]? = some d) : j < n ∧ d = .int (lo + j) := by
  unfold rngD at h
  rw [List.getElem?_map] at h
  by_cases hj : j < n
  · rw [List.getElem?_range hj] at h
    cases h
    exact ⟨hj, rfl⟩
  · rw [List.getElem?_eq_none (by simpa using hj)] at h
    cases h
theorem pr1 {j : Int} (h : -(2 ^ 62) ≤ j) (h2 : j < 2 ^ 62) : pR1 [.int j] = some (rngD 0 j.toNat) := by simp only [pR1]; rw [if_pos ⟨h, h2⟩]
section
variable {S : Type} {s : S}
theorem ok_eq {o : Option (D × S)} {d : D} (h : Ok o fun a b => a = d ∧ b = s) : o = some (d, s) := by
  obtain ⟨a, b, e, rfl, rfl⟩ := h
  exact e
theorem ok_eqL {o : Option (List D × S)} {d : List D} (h : Ok o fun a b => a = d ∧ b = s) : o = some (d, s) := by
  obtain ⟨a, b, e, rfl, rfl⟩ := h
  exact e
end
theorem k_keep {S : Type} {ds : List D} {q : Et S} {f : Ev S} {fi : Ea S} {t : Tg} {vs : List Nat} {ρ : Rho} {s : S} (c : D → Bool) (g : D → D) (hl : ds.length ≤ sizeLine) (hi : fi ρ s = some (ds, s))
    (hq : ∀ d ∈ ds, ∃ ρ1, t d (wipeR ρ vs) = some ρ1 ∧ q ρ1 s = some (c d, s) ∧ (c d = true → f ρ1 s = some (g d, s))) : lcF fi t q f vs ρ s = some ((ds.filter c).map g, s) := by
  unfold lcF
  rw [hi]
  show (if ds.length ≤ sizeLine then compF t q f (wipeR ρ vs) ds s else none) = _
  rw [if_pos hl]
  clear hl hi
  induction ds with
  | nil => rfl
  | cons d ds ih =>
    obtain ⟨ρ1, h1, h2, h3⟩ := hq d List.mem_cons_self
    have ih := ih fun x hx => hq x (List.mem_cons_of_mem _ hx)
    unfold compF
    rw [h1]
    show bnd (q ρ1 s) _ = _
    rw [h2]
    cases hc : c d with
    | false =>
      rw [List.filter_cons_of_neg (by rw [hc]; decide)]
      exact ih
    | true =>
      rw [List.filter_cons_of_pos hc, List.map_cons]
      show bnd (f ρ1 s) _ = _
      rw [h3 hc]
      show bnd (compF t q f (wipeR ρ vs) ds s) _ = _
      rw [ih]
      rfl
theorem mem_strs (w : Str) (ns : List Str) : memD (.str w) (ns.map .str) = some (decide (w ∈ ns)) := by
  unfold memD
  rw [if_pos ⟨rfl, by rw [List.all_map]; exact List.all_eq_true.mpr fun _ _ => rfl⟩]
  congr 1
  rw [List.any_map, Bool.eq_iff_iff, List.any_eq_true, decide_eq_true_eq]
  constructor
  · rintro ⟨x, hx, e⟩
    have e : decide (x = w) = true := e
    rw [← of_decide_eq_true e]
    exact hx
  · intro h
    exact ⟨w, h, decide_eq_true rfl⟩
theorem in_strs (w : Str) (ns : List Str) : pIn (.str w) (.tuple (ns.map .str)) = some (.bool (decide (w ∈ ns))) := by
  simp only [pIn, inD, mem_strs, Option.map_some]
theorem notIn_strs (w : Str) (ns : List Str) : pNotIn (.str w) (.tuple (ns.map .str)) = some (.bool (!decide (w ∈ ns))) := by
  simp only [pNotIn, inD, mem_strs, Option.map_some]
theorem in_strsL (w : Str) (ns : List Str) : pIn (.str w) (.list (ns.map .str)) = some (.bool (decide (w ∈ ns))) := by
  simp only [pIn, inD, mem_strs, Option.map_some]
theorem notIn_strsL (w : Str) (ns : List Str) : pNotIn (.str w) (.list (ns.map .str)) = some (.bool (!decide (w ∈ ns))) := by
  simp only [pNotIn, inD, mem_strs, Option.map_some]
theorem in_sign (c : Nat) (z : Str) : pIn (.str ⟨#[c]⟩) (.str z) = some (.bool (decide (c ∈ z.cps.toList))) := rfl
theorem cps_inj {a b : Str} (h : a.cps = b.cps) : a = b := by
  cases a
  cases b
  cases h
  rfl
theorem cpl_inj {a b : Str} (h : a.cps.toList = b.cps.toList) : a = b := cps_inj (Array.toList_inj.mp h)
theorem v_slT {ds : List D} {lo hi : Option Int} : pSl (.tuple ds) lo hi = some (.tuple (cutD ds lo hi)) := rfl
theorem v_slL {ds : List D} {lo hi : Option Int} : pSl (.list ds) lo hi = some (.list (cutD ds lo hi)) := rfl
theorem v_slS {z : Str} {lo hi : Option Int} (h : z.length ≤ sizeLine) : pSl (.str z) lo hi = some (.str (cutS z lo hi)) := by simp only [pSl]; rw [if_pos h]
theorem cutD_to (xs : List D) (k : Nat) : cutD xs none (some (k : Int)) = xs.take k := by
  unfold cutD
  rw [HT.sIx_none, HT.sIx_nat, List.drop_zero, Nat.sub_zero]
  by_cases h : k ≤ xs.length
  · rw [Nat.min_eq_left h]
  · rw [Nat.min_eq_right (by omega), List.take_length, List.take_of_length_le (by omega)]
theorem cutD_from (xs : List D) (k : Nat) : cutD xs (some (k : Int)) none = xs.drop k := by
  unfold cutD
  rw [HT.sIx_nat, HT.sIx_none]
  by_cases h : k ≤ xs.length
  · rw [Nat.min_eq_left h, List.take_of_length_le (by rw [List.length_drop]; exact Nat.le_refl _)]
  · rw [Nat.min_eq_right (by omega), Nat.sub_self, List.take_zero, List.drop_of_length_le (by omega)]
theorem lay_strs : ∀ ns : List Str, (∀ n ∈ ns, PyData.strOk n = true) → PyData.canLayAll0 (ns.map .str) = true
  | [], _ => by simp [PyData.canLayAll0]
  | n :: ns, h => by simp [PyData.canLayAll0, PyData.canLay0, lay_strs ns (fun x hx => h x (List.mem_cons_of_mem _ hx)), h n List.mem_cons_self]
theorem dep_strs : ∀ ns : List Str, PyData.depthAll (ns.map .str) = 0
  | [] => by simp [PyData.depthAll]
  | n :: ns => by simp [PyData.depthAll, PyData.depth, dep_strs ns]
end Mx
set_option Elab.async false
set_option linter.all false
set_option maxRecDepth 100000
set_option maxHeartbeats 1000000
namespace Lw01
open PySem PySem.Spec L2 Dl Mx Ds
section
variable {S : Type} {s : S}
/-! ### the program's functions, as equations -/
def inAll (l : List Nat) (b : Str) : Bool := l.all fun c => decide (c ∈ b.cps.toList)
def sgD (c : Nat) : D := .str ⟨#[c]⟩
def sgC (p : Nat → Bool) : D → Bool
  | .str x => match sign1 x with
    | some c => p c
    | none => false
  | _ => false
theorem all_of_eq {a b : Str} : K_is_all_of [.str a, .str b] s = some (.bool (inAll a.cps.toList b), s) := by
  apply ok_eq
  unfold K_is_all_of B_is_all_of
  refine k_fn (k_ret ?_)
  have h : cQu false (iOf asS (cVar 0)) (gNm 2) qYes (cB pIn (cVar 2) (cVar 1)) [2] (startR 3 [.str a, .str b]) s = some (.bool (((a.cps.toList.map sgD).filter fun _ => true).all (sgC fun c => decide (c ∈ b.cps.toList))), s) := by
    refine k_all (fun _ => true) _ rfl fun d hd => ?_
    obtain ⟨c, _, rfl⟩ := List.mem_map.mp hd
    exact ⟨_, rfl, rfl, fun _ => rfl⟩
  refine Ok.of h ⟨?_, rfl⟩
  rw [List.filter_eq_self.mpr (fun _ _ => rfl), List.all_map]
  rfl
def smallB (lo hi : Int) : D → Bool
  | .str z => decide (lo ≤ (z.length : Int)) && (decide ((z.length : Int) ≤ hi) && inAll z.cps.toList "abcdefghijklmnopqrstuvwxyz")
  | _ => false
/-- a thing of which the laws ask: a text that isn't long, or no text -/
def Dec : D → Prop
  | .str z => z.length ≤ 1000
  | .dict kvs => kvs = []
  | _ => True
theorem isi_str : ∀ {d : D}, Dec d → pIsi "str" d = some (.bool (match d with | .str _ => true | _ => false))
  | .none, _ => rfl
  | .bool _, _ => by rfl
  | .int _, _ => by rfl
  | .str _, _ => by rfl
  | .list _, _ => by rfl
  | .tuple _, _ => by rfl
  | .dict kvs, h => by
    have h : kvs = [] := h
    subst h
    rfl
theorem isi_tup : ∀ {d : D}, Dec d → pIsi "tuple" d = some (.bool (match d with | .tuple _ => true | _ => false))
  | .none, _ => rfl
  | .bool _, _ => by rfl
  | .int _, _ => by rfl
  | .str _, _ => by rfl
  | .list _, _ => by rfl
  | .tuple _, _ => by rfl
  | .dict kvs, h => by
    have h : kvs = [] := h
    subst h
    rfl
theorem small_eq {d : D} {lo hi : Int} (h : Dec d) : K_is_small K_is_all_of [d, .int lo, .int hi] s = some (.bool (smallB lo hi d), s) := by
  apply ok_eq
  unfold K_is_small B_is_small
  refine k_fn (k_ret ?_)
  simp_arith [isi_str h]
  cases d with
  | str z =>
    have hz : z.length ≤ sizeLine := szL (Nat.le_trans h (by decide))
    simp_arith [v_lenS hz, all_of_eq, ok_some]
    unfold smallB
    by_cases h1 : lo ≤ (z.length : Int)
    · by_cases h2 : (z.length : Int) ≤ hi
      · simp [h1, h2]
      · simp [h1, h2]
    · simp [h1]
  | _ => walk_at "E"; rfl
def nameL : List Nat → Bool
  | [] => false
  | c :: r => decide (c ∈ (Str.ofString "ABCDEFGHIJKLMNOPQRSTUVWXYZ").cps.toList) && (decide (r.length ≤ 7) && inAll r "abcdefghijklmnopqrstuvwxyz")
def nameB : D → Bool
  | .str z => nameL z.cps.toList
  | _ => false
theorem nameB_str (z : Str) : nameB (.str z) = nameL z.cps.toList := rfl
theorem smallB_str (lo hi : Int) (z : Str) : smallB lo hi (.str z) = (decide (lo ≤ (z.length : Int)) && (decide ((z.length : Int) ≤ hi) && inAll z.cps.toList "abcdefghijklmnopqrstuvwxyz")) := rfl
def kindB : D → Bool
  | .str z => smallB 2 8 (.str z) && !decide (z ∈ barW)
  | _ => false
theorem kindB_str (z : Str) : kindB (.str z) = (smallB 2 8 (.str z) && !decide (z ∈ barW)) := rfl
theorem cut1 {c : Nat} {r : List Nat} {z : Str} (e : z.cps.toList = c :: r) : (cutS z (some 1) none).cps.toList = r := by
  unfold cutS
  rw [HT.sIx_none]
  have hl : z.length = r.length + 1 := by
    show z.cps.size = _
    rw [← Array.length_toList, e]
    rfl
  rw [show (1 : Int) = ((1 : Nat) : Int) from rfl, HT.sIx_nat, hl, Nat.min_eq_left (by omega), e]
  simp
theorem name_eq {d : D} (h : Dec d) : K_is_name (K_is_small K_is_all_of) [d] s = some (.bool (nameB d), s) := by
  apply ok_eq
  unfold K_is_name B_is_name
  cases d with
  | str z =>
    have hl : z.length ≤ 1000 := h
    have hz : z.length ≤ sizeLine := szL (Nat.le_trans hl (by decide))
    refine k_fn (k_seq (k_sIf ?_))
    have ht : truth (.str z) = some ((z.length : Int) != 0) := by
      show (if z.length ≤ sizeLine then some ((z.length : Int) != 0) else none) = _
      rw [if_pos hz]
    simp_arith [isi_str h, ht]
    have hzl : z.length = z.cps.toList.length := (Array.length_toList).symm
    cases e : z.cps.toList with
    | nil =>
      rw [e] at hzl
      have hzl : z.length = 0 := hzl
      rw [hzl]
      simp_arith [show (((0 : Nat) : Int) != 0) = false from rfl]
      refine k_ret ?_
      walk_at "E"
      rw [nameB_str, e]
      rfl
    | cons c r =>
      rw [e] at hzl
      have hzl : z.length = r.length + 1 := hzl
      have hn : ((z.length : Int) != 0) = true := by
        rw [bne_iff_ne]
        omega
      rw [hn]
      walk_at "E"
      refine k_nx (k_ret ?_)
      have hix : pIx (.str z) (.int 0) = some (.str ⟨#[c]⟩) := by
        simp only [pIx]
        rw [if_pos hz, e, show atI (c :: r) 0 = some c from atI_nat (j := 0) rfl]
        rfl
      have hc := cut1 e
      have hcl : (cutS z (some 1) none).length = r.length := by
        show (cutS z (some 1) none).cps.size = _
        rw [← Array.length_toList, hc]
      have hd : Dec (.str (cutS z (some 1) none)) := by
        show (cutS z (some 1) none).length ≤ 1000
        omega
      simp_arith [hix, in_sign, v_slS hz, small_eq hd, ok_some]
      rw [nameB_str, smallB_str, e, hc, hcl]
      unfold nameL
      by_cases h1 : c ∈ (Str.ofString "ABCDEFGHIJKLMNOPQRSTUVWXYZ").cps.toList
      · rw [decide_eq_true h1]
        simp_arith [show (0 : Int) ≤ (r.length : Int) from Int.natCast_nonneg _]
        by_cases h2 : r.length ≤ 7
        · rw [decide_eq_true h2, decide_eq_true (show (r.length : Int) ≤ 7 by omega), decide_eq_true h1]
          rfl
        · rw [decide_eq_false h2, decide_eq_false (show ¬ (r.length : Int) ≤ 7 by omega), decide_eq_true h1]
          rfl
      · rw [decide_eq_false h1]
        walk_at "E"
        rw [decide_eq_false h1]
        rfl
  | _ =>
    refine k_fn (k_seq (k_sIf ?_))
    simp_arith [isi_str h]
    refine k_ret ?_
    walk_at "E"
    rfl
theorem kind_eq {d : D} (h : Dec d) : K_is_kind (K_is_small K_is_all_of) [d] s = some (.bool (kindB d), s) := by
  apply ok_eq
  unfold K_is_kind B_is_kind
  refine k_fn (k_ret ?_)
  simp_arith [small_eq h, ok_some]
  cases d with
  | str z =>
    rw [kindB_str]
    cases e : smallB 2 8 (.str z) with
    | true =>
      walk_at "E"
      unfold d_BARRED
      simp_arith [notIn_strs]
    | false => simp_arith [Bool.false_and]
  | _ => simp_arith [smallB]; rfl
/-! rows -/
def txt : D → Str
  | .str z => z
  | _ => Str.empty
def ltS (a b : Str) : Bool := decide (a.cps.toList < b.cps.toList)
def risS : List Str → Bool
  | a :: b :: r => ltS a b && risS (b :: r)
  | _ => true
theorem zip_ris : ∀ xs : List Str, ((zipD (xs.map .str) ((xs.map PyData.str).drop 1)).all fun d => match d with | .tuple [.str a, .str b] => ltS a b | _ => false) = risS xs
  | [] => rfl
  | [a] => rfl
  | a :: b :: r => by
    have ih := zip_ris (b :: r)
    unfold risS
    rw [← ih]
    rfl
theorem rises_eq {xs : List Str} : K_rises [.tuple (xs.map .str)] s = some (.bool (risS xs), s) := by
  apply ok_eq
  unfold K_rises B_rises
  refine k_fn (k_ret ?_)
  have hi : (iOfA pZip (aCons (cVar 0) (aCons (cSl pSl (cVar 0) (oOf (cK (.int 1))) oNo) aNil))) (startR 3 [.tuple (xs.map PyData.str)]) s = some (zipD (xs.map .str) ((xs.map PyData.str).drop 1), s) := by
    apply ok_eqL
    simp_arith [v_slT]
    rw [show (1 : Int) = ((1 : Nat) : Int) from rfl, cutD_from]
    first | exact ⟨_, rfl, rfl, rfl⟩ | exact ⟨_, rfl, rfl⟩ | rfl
  have h := k_all (S := S) (t := gTp (gC (gNm 1) (gC (gNm 2) gN0))) (q := qYes) (f := cB pLt (cVar 1) (cVar 2)) (vs := [1, 2]) (fun _ => true) (fun d => match d with | .tuple [.str a, .str b] => ltS a b | _ => false) hi (fun d hd => by
    obtain ⟨a, b, rfl⟩ : ∃ a b : Str, d = .tuple [.str a, .str b] := by
      clear hi
      revert hd
      generalize hys : (xs.map PyData.str).drop 1 = ys
      have hy : ∀ y ∈ ys, ∃ b : Str, y = .str b := fun y hy => by
        rw [← hys] at hy
        obtain ⟨b, _, e⟩ := List.mem_map.mp (List.mem_of_mem_drop hy)
        exact ⟨b, e.symm⟩
      clear hys
      induction xs generalizing ys with
      | nil => intro hd; simp [zipD] at hd
      | cons x xs ih =>
        cases ys with
        | nil => intro hd; simp [zipD] at hd
        | cons y ys =>
          intro hd
          have hd : d = .tuple [.str x, y] ∨ d ∈ zipD (xs.map .str) ys := by simpa [zipD, pairD] using hd
          rcases hd with hd | hd
          · obtain ⟨b, rfl⟩ := hy y List.mem_cons_self
            exact ⟨x, b, hd⟩
          · exact ih ys (fun z hz => hy z (List.mem_cons_of_mem _ hz)) hd
    exact ⟨_, rfl, rfl, fun _ => rfl⟩)
  refine Ok.of h ⟨?_, rfl⟩
  rw [List.filter_eq_self.mpr (fun _ _ => rfl), zip_ris]
def rowB (p : D → Bool) : D → Bool
  | .tuple ds => ds.all p && risS (ds.map txt)
  | _ => false
theorem name_str {d : D} (h : nameB d = true) : d = .str (txt d) := by
  cases d <;> first | rfl | cases h
theorem kind_str {d : D} (h : kindB d = true) : d = .str (txt d) := by
  cases d <;> first | rfl | cases h
theorem strs_of {p : D → Bool} (hp : ∀ d, p d = true → d = .str (txt d)) {ds : List D} (h : ds.all p = true) : ds = (ds.map txt).map .str := by
  induction ds with
  | nil => rfl
  | cons d ds ih =>
    rw [List.all_cons, Bool.and_eq_true] at h
    rw [List.map_cons, List.map_cons, ← hp d h.1, ← ih h.2]
def DecL (d : D) : Prop := Dec d ∧ ∀ ds, d = .tuple ds → ∀ x ∈ ds, Dec x
theorem rowN_eq {d : D} (h : DecL d) : K_is_row_of_names K_rises (K_is_name (K_is_small K_is_all_of)) [d] s = some (.bool (rowB nameB d), s) := by
  apply ok_eq
  unfold K_is_row_of_names B_is_row_of_names
  refine k_fn (k_ret ?_)
  simp_arith [isi_tup h.1]
  cases d with
  | tuple ds =>
    have ha : cQu false (iOf asT (cVar 0)) (gNm 1) qYes (cCall 1 (K_is_name (K_is_small K_is_all_of)) (aCons (cVar 1) aNil)) [1] [some (.tuple ds), none] s = some (.bool ((ds.filter fun _ => true).all nameB), s) := by
      refine k_all (fun _ => true) _ rfl fun d hd => ⟨_, rfl, rfl, fun _ => ?_⟩
      exact name_eq (h.2 ds rfl d hd)
    rw [List.filter_eq_self.mpr (fun _ _ => rfl)] at ha
    simp_arith [ha, ok_some]
    show if ds.all nameB = true then _ else _
    unfold rowB
    cases e : ds.all nameB with
    | true =>
      walk_at "E"
      have e2 := strs_of (fun d => name_str) e
      rw [e2, rises_eq, ← e2]
      simp_arith [ok_some]
      rw [e]
      rfl
    | false =>
      walk_at "E"
      rw [e]
      rfl
  | _ => walk_at "E"; rfl
theorem rowK_eq {d : D} (h : DecL d) : K_is_row_of_kinds K_rises (K_is_kind (K_is_small K_is_all_of)) [d] s = some (.bool (rowB kindB d), s) := by
  apply ok_eq
  unfold K_is_row_of_kinds B_is_row_of_kinds
  refine k_fn (k_ret ?_)
  simp_arith [isi_tup h.1]
  cases d with
  | tuple ds =>
    have ha : cQu false (iOf asT (cVar 0)) (gNm 1) qYes (cCall 1 (K_is_kind (K_is_small K_is_all_of)) (aCons (cVar 1) aNil)) [1] [some (.tuple ds), none] s = some (.bool ((ds.filter fun _ => true).all kindB), s) := by
      refine k_all (fun _ => true) _ rfl fun d hd => ⟨_, rfl, rfl, fun _ => ?_⟩
      exact kind_eq (h.2 ds rfl d hd)
    rw [List.filter_eq_self.mpr (fun _ _ => rfl)] at ha
    simp_arith [ha, ok_some]
    show if ds.all kindB = true then _ else _
    unfold rowB
    cases e : ds.all kindB with
    | true =>
      walk_at "E"
      have e2 := strs_of (fun d => kind_str) e
      rw [e2, rises_eq, ← e2]
      simp_arith [ok_some]
      rw [e]
      rfl
    | false =>
      walk_at "E"
      rw [e]
      rfl
  | _ => walk_at "E"; rfl
def disB (b c : D) : Bool := match b, c with
  | .tuple bs, .tuple cs => (bs.map txt).all fun x => !decide (x ∈ cs.map txt)
  | _, _ => false
def vocB : D → Bool
  | .tuple [a, b, c] => rowB nameB a && (rowB kindB b && (rowB kindB c && disB b c))
  | _ => false
abbrev Pvoc : Fn S := K_is_vocabulary (K_is_row_of_kinds K_rises (K_is_kind (K_is_small K_is_all_of))) (K_is_row_of_names K_rises (K_is_name (K_is_small K_is_all_of)))
def DecV (d : D) : Prop := Dec d ∧ ∀ ds, d = .tuple ds → (∀ x ∈ ds, DecL x ∧ ∀ es, x = .tuple es → es.length ≤ 1000) ∧ ds.length ≤ 1000
theorem dStrs_map : ∀ xs : List Str, dStrs (xs.map .str) = some xs
  | [] => rfl
  | x :: xs => by simp [dStrs, dStrs_map xs]
theorem row_tup {p : D → Bool} {d : D} (h : rowB p d = true) : ∃ ds, d = .tuple ds ∧ ds.all p = true ∧ risS (ds.map txt) = true := by
  cases d with
  | tuple ds =>
    unfold rowB at h
    rw [Bool.and_eq_true] at h
    exact ⟨ds, rfl, h.1, h.2⟩
  | _ => cases h
theorem dis_len {a b : List Str} : decide (((((gath a).filter fun k => decide (k ∈ gath b)).length : Nat) : Int) = 0) = a.all fun x => !decide (x ∈ b) := by
  rw [Bool.eq_iff_iff, decide_eq_true_eq, List.all_eq_true]
  constructor
  · intro h x hx
    have h0 : ((gath a).filter fun k => decide (k ∈ gath b)) = [] := List.length_eq_zero_iff.mp (by omega)
    have := List.filter_eq_nil_iff.mp h0 x (gath_mem.mpr hx)
    simpa [gath_mem] using this
  · intro h
    have h0 : ((gath a).filter fun k => decide (k ∈ gath b)) = [] := List.filter_eq_nil_iff.mpr fun x hx => by
      have := h x (gath_mem.mp hx)
      simpa [gath_mem] using this
    rw [h0]
    rfl
theorem voc_eq {d : D} (h : DecV d) : Pvoc [d] s = some (.bool (vocB d), s) := by
  apply ok_eq
  unfold Pvoc K_is_vocabulary B_is_vocabulary
  refine k_fn (k_seq (k_sIf ?_))
  simp_arith [isi_tup h.1]
  cases d with
  | tuple ds =>
    walk_at "E"
    match ds, h with
    | [], h => simp_arith [show ((((0 : Nat) : Int) = 3)) = False by simp]; exact k_ret (by walk_at "E"; rfl)
    | [a], h => simp_arith [show ((((1 : Nat) : Int) = 3)) = False by simp]; exact k_ret (by walk_at "E"; rfl)
    | [a, b], h => simp_arith [show ((((2 : Nat) : Int) = 3)) = False by simp]; exact k_ret (by walk_at "E"; rfl)
    | [a, b, c], h =>
      simp_arith [show ((((3 : Nat) : Int) = 3)) = True by simp]
      obtain ⟨_, h2⟩ := h
      obtain ⟨h2, _⟩ := h2 _ rfl
      obtain ⟨ha, _⟩ := h2 a (by simp)
      obtain ⟨hb, hbl⟩ := h2 b (by simp)
      obtain ⟨hc, hcl⟩ := h2 c (by simp)
      refine k_nx (k_seq (k_asg ?_))
      walk_at "E"
      refine ⟨_, rfl, ?_⟩
      refine k_seq (k_sIf ?_)
      simp_arith [rowN_eq ha, rowK_eq hb, rowK_eq hc, ok_some]
      unfold vocB
      cases e1 : rowB nameB a with
      | false =>
        walk_at "E"
        refine k_ret ?_
        walk_at "E"
        rw [e1]
        rfl
      | true =>
        cases e2 : rowB kindB b with
        | false =>
          walk_at "E"
          refine k_ret ?_
          walk_at "E"
          rw [e1, e2]
          rfl
        | true =>
          cases e3 : rowB kindB c with
          | false =>
            walk_at "E"
            refine k_ret ?_
            walk_at "E"
            rw [e1, e2, e3]
            rfl
          | true =>
            walk_at "E"
            refine k_nx (k_ret ?_)
            obtain ⟨bs, rfl, eb, _⟩ := row_tup e2
            obtain ⟨cs, rfl, ec, _⟩ := row_tup e3
            have sb := strs_of (fun d => kind_str) eb
            have sc := strs_of (fun d => kind_str) ec
            have hb1 := hbl bs rfl
            have hc1 := hcl cs rfl
            have x1 : asStrs (.tuple bs) = some (bs.map txt) := by
              unfold asStrs
              simp only
              rw [sb, dStrs_map]
              simp only [List.length_map]
              rw [if_pos hb1, ← sb]
            have x2 : asStrs (.tuple cs) = some (cs.map txt) := by
              unfold asStrs
              simp only
              rw [sc, dStrs_map]
              simp only [List.length_map]
              rw [if_pos hc1, ← sc]
            have hl : cLenX (xAnd (xSet (cVar 2)) (xSet (cVar 3))) [some (.tuple [a, .tuple bs, .tuple cs]), some a, some (.tuple bs), some (.tuple cs)] s = some (.int ((((gath (bs.map txt)).filter fun k => decide (k ∈ gath (cs.map txt))).length : Nat) : Int), s) := by
              unfold cLenX xAnd xSet
              simp only [cVar, List.getElem?_cons_succ, List.getElem?_cons_zero, bnd_of, x1, x2, Option.map_some, put_of]
            simp_arith [hl, ok_some, dis_len]
            rw [e1, e2, e3]
            rfl
    | a :: b :: c :: d :: r, h =>
      simp_arith [show ((((r.length + 1 + 1 + 1 + 1 : Nat) : Int) = 3)) = False from eq_false (by omega)]
      exact k_ret (by walk_at "E"; rfl)
  | _ => walk_at "E"; exact k_ret (by walk_at "E"; rfl)
end
end Lw01
set_option Elab.async false
set_option linter.all false
set_option maxRecDepth 100000
set_option maxHeartbeats 1000000
namespace Lw01
open PySem PySem.Spec L2 Dl Mx Ds
/-! ### rising rows -/
theorem ltS_trans {a b c : Str} (h : ltS a b = true) (g : ltS b c = true) : ltS a c = true := by
  unfold ltS at *
  exact decide_eq_true (List.lt_trans (of_decide_eq_true h) (of_decide_eq_true g))
theorem lt_of_le {a b : Str} (h : leS a b = true) (n : a ≠ b) : ltS a b = true := by
  cases e : ltS a b with
  | true => rfl
  | false =>
    have : leS b a = true := by
      unfold leS
      unfold ltS at e
      rw [e]
      rfl
    exact absurd (leS_anti h this) n
theorem ris_pw : ∀ {xs : List Str}, risS xs = true ↔ xs.Pairwise fun a b => ltS a b = true
  | [] => by simp [risS]
  | [a] => by simp [risS]
  | a :: b :: r => by
    have ih := ris_pw (xs := b :: r)
    unfold risS
    rw [Bool.and_eq_true, ih, List.pairwise_cons (a := a) (l := b :: r)]
    constructor
    · rintro ⟨h1, h2⟩
      refine ⟨fun x hx => ?_, h2⟩
      rcases List.mem_cons.mp hx with rfl | hx
      · exact h1
      · exact ltS_trans h1 ((List.pairwise_cons.mp h2).1 x hx)
    · rintro ⟨h1, h2⟩
      exact ⟨h1 b List.mem_cons_self, h2⟩
theorem pw_le_lt {xs : List Str} (h : xs.Pairwise fun a b => leS a b = true) (nd : xs.Nodup) : xs.Pairwise fun a b => ltS a b = true := by
  induction xs with
  | nil => exact List.Pairwise.nil
  | cons a xs ih =>
    obtain ⟨h1, h2⟩ := List.pairwise_cons.mp h
    obtain ⟨n1, n2⟩ := List.nodup_cons.mp nd
    exact List.pairwise_cons.mpr ⟨fun b hb => lt_of_le (h1 b hb) fun e => n1 (e ▸ hb), ih h2 n2⟩
theorem ris_sort {xs : List Str} (nd : xs.Nodup) : risS (sortS xs) = true := ris_pw.mpr (pw_le_lt (sortS_pw xs) ((sortS_perm xs).nodup_iff.mpr nd))
/-! ### what the law looks at -/
section
variable {S : Type} {s : S}
theorem nameL_cons (c : Nat) (r : List Nat) : nameL (c :: r) = (decide (c ∈ (Str.ofString "ABCDEFGHIJKLMNOPQRSTUVWXYZ").cps.toList) && (decide (r.length ≤ 7) && inAll r "abcdefghijklmnopqrstuvwxyz")) := rfl
/-! the law's own looking -/
theorem cp_ok {c : Nat} {b : Str} (hb : PyData.strOk b = true) (h : c ∈ b.cps.toList) : c < 0x110000 := by
  unfold PyData.strOk at hb
  rw [← Array.all_toList, List.all_eq_true] at hb
  exact of_decide_eq_true (hb c h)
theorem in_ok {l : List Nat} {b : Str} (hb : PyData.strOk b = true) (h : inAll l b = true) : ∀ c ∈ l, c < 0x110000 := fun c hc => cp_ok hb (of_decide_eq_true (List.all_eq_true.mp h c hc))
end
end Lw01
set_option Elab.async false
set_option linter.all false
set_option maxRecDepth 100000
set_option maxHeartbeats 1000000
namespace Lw01
open PySem PySem.Spec L2 Dl Mx Ds
section
variable {S : Type} {s : S}
end
end Lw01
set_option Elab.async false
set_option linter.all false
set_option maxRecDepth 100000
set_option maxHeartbeats 1000000
namespace Lw01
open PySem PySem.Spec L2 Dl Mx Ds
/-! ### what is drawn -/
theorem k_take {s : DS} {m : Int} {Q : D → DS → Prop} (h : 0 < m) (h2 : m < 1073741824) (q : ∀ (r : Int) s', 0 ≤ r → r < m → Q (.int r) s') : Ok (Ftake [hnd 0, .int m] s) Q :=
  ⟨_, _, ftake h h2, q _ _ (takeF_range s h).1 (takeF_range s h).2⟩
abbrev smS : Str := Str.ofString "abcdefghijklmnopqrstuvwxyz"
abbrev grS : Str := Str.ofString "ABCDEFGHIJKLMNOPQRSTUVWXYZ"
abbrev qzS : Str := Str.ofString "qzkj"
abbrev mk (l : List Nat) : Str := ⟨l.toArray⟩
theorem mk_cps (l : List Nat) : (mk l).cps.toList = l := by simp [mk]
theorem mk_len (l : List Nat) : (mk l).length = l.length := by simp [mk, Str.length]
theorem mk_app (a b : List Nat) : mk a ++ mk b = mk (a ++ b) := TL.ext_tl (TL.tl_append (mk a) (mk b))
theorem ix_at {z : Str} {r : Int} (hz : z.length ≤ sizeLine) (h0 : 0 ≤ r) (h : r < z.length) : ∃ c, c ∈ z.cps.toList ∧ z.cps.toList[r.toNat]? = some c ∧ pIx (.str z) (.int r) = some (.str (mk [c])) := by
  obtain ⟨c, h1, h2, e⟩ := atI_lt (xs := z.cps.toList) h0 (by simpa [Str.length] using h)
  exact ⟨c, h1, h2, by simp only [pIx]; rw [if_pos hz, e]; rfl⟩
theorem sg_strs (cs : List Nat) : dStrs (cs.map sgD) = some (cs.map fun c => mk [c]) := by
  have : cs.map sgD = (cs.map fun c => mk [c]).map PyData.str := by rw [List.map_map]; rfl
  rw [this, dStrs_map]
theorem joinL_sg : ∀ cs : List Nat, TL.joinL [] (cs.map fun c => [c]) = cs
  | [] => rfl
  | [c] => rfl
  | c :: d :: r => by
    have ih := joinL_sg (d :: r)
    show [c] ++ ([] ++ TL.joinL [] ((d :: r).map fun c => [c])) = _
    rw [ih]
    rfl
theorem join_sg (cs : List Nat) : Txt.join (Str.ofString "") (cs.map fun c => mk [c]) = mk cs := by
  rw [TL.join_eq]
  apply cpl_inj
  have h := TL.tl_join (Str.ofString "") (cs.map fun c => mk [c])
  have e0 : TL.tl (Str.ofString "") = [] := rfl
  rw [e0, List.map_map] at h
  have e1 : cs.map (TL.tl ∘ fun c => mk [c]) = cs.map fun c => [c] := rfl
  rw [e1, joinL_sg] at h
  rw [mk_cps]
  exact h
theorem join_eq {cs : List Nat} (h : cs.length ≤ 1000) : pJoin (.str "") (.list (cs.map sgD)) = some (.str (mk cs)) := by
  simp only [pJoin, sg_strs]
  have hs : ((cs.map fun c => mk [c]).map (·.length)).sum = cs.length := by
    rw [List.map_map]
    have : cs.map ((·.length) ∘ fun c => mk [c]) = List.replicate cs.length 1 := by
      apply List.ext_getElem (by simp)
      intro i h1 h2
      simp [mk, Str.length]
    rw [this]
    simp
  have e0 : (Str.ofString "").length = 0 := rfl
  rw [if_pos (by rw [hs, e0]; omega)]
  exact congrArg some (congrArg PyData.str (join_sg cs))
theorem inAll_app {a b : List Nat} {z : Str} : inAll (a ++ b) z = (inAll a z && inAll b z) := by
  unfold inAll
  exact List.all_append
theorem inAll_one {c : Nat} {z : Str} (h : c ∈ z.cps.toList) : inAll [c] z = true := by
  unfold inAll
  rw [List.all_cons, decide_eq_true h]
  rfl
theorem ok_tail {s : DS} {n : Nat} (h : n ≤ 100) {Q : D → DS → Prop} (q : ∀ l s', l.length = n → inAll l smS = true → Q (.str (mk l)) s') : Ok (K_w_tail Ftake [hnd 0, .int (n : Nat)] s) Q := by
  unfold K_w_tail B_w_tail
  refine k_fn (k_ret ?_)
  walk_at "E"
  refine k_lcP (fun ds s' => ds = rngD 0 n) ?_ ?_
  · walk_at "E"
    rw [pr1 (by omega) (by omega)]
    walk_at "E"
    rfl
  · rintro ds s1 rfl
    refine ⟨by rw [rng_len]; exact szL (by omega), fun j acc _ => ∃ cs : List Nat, acc = cs.map sgD ∧ cs.length = j ∧ inAll cs smS = true, ⟨[], rfl, rfl, rfl⟩, ?_, ?_⟩
    · rintro j d acc s hd ⟨cs, rfl, hl, hx⟩
      refine ⟨_, rfl, ?_⟩
      walk_at "E"
      refine k_take (by omega) (by omega) fun r s' h0 h1 => ?_
      obtain ⟨c, c1, _, hc⟩ := ix_at (z := smS) (r := r) (by decide) h0 h1
      refine ⟨_, hc, cs ++ [c], by simp [sgD, mk], by simp [hl], ?_⟩
      rw [inAll_app, hx, inAll_one c1]
      rfl
    · rintro acc s ⟨cs, rfl, hl, hx⟩
      rw [rng_len] at hl
      exact ⟨_, join_eq (by omega), q cs s hl hx⟩
/-! names -/
structure Nms (xs : List Str) (n : Nat) : Prop where
  len : xs.length = n
  nd : xs.Nodup
  nm : ∀ x ∈ xs, nameB (.str x) = true
theorem name_mk {c : Nat} {l : List Nat} (h : c ∈ grS.cps.toList) (hl : l.length ≤ 7) (hs : inAll l smS = true) : nameB (.str (mk (c :: l))) = true := by
  rw [nameB_str, mk_cps, nameL_cons, decide_eq_true h, decide_eq_true hl]
  exact hs
theorem inAll_take {l : List Nat} {z : Str} (h : inAll l z = true) (n : Nat) : inAll (l.take n) z = true := by
  unfold inAll at *
  rw [List.all_eq_true] at *
  exact fun x hx => h x (List.mem_of_mem_take hx)
theorem cut_to {l : List Nat} (k : Nat) : cutS (mk l) none (some (k : Int)) = mk (l.take k) := by
  apply cpl_inj
  rw [mk_cps]
  unfold cutS
  rw [HT.sIx_none, HT.sIx_nat, mk_len, mk_cps, List.drop_zero, Nat.sub_zero]
  simp only
  by_cases h : k ≤ l.length
  · rw [Nat.min_eq_left h]
  · rw [Nat.min_eq_right (by omega), List.take_length, List.take_of_length_le (by omega)]
theorem nodup_snoc {α : Type} {xs : List α} {a : α} (h : xs.Nodup) (n : a ∉ xs) : (xs ++ [a]).Nodup := by
  rw [List.nodup_append]
  refine ⟨h, by simp, fun x hx y hy => ?_⟩
  rw [List.mem_singleton.mp hy]
  exact fun e => n (e ▸ hx)
theorem gr_nd : grS.cps.toList.Nodup := by decide +kernel
theorem sm_nd : smS.cps.toList.Nodup := by decide +kernel
theorem nth_inj {l : List Nat} (nd : l.Nodup) {i j c : Nat} (hi : l[i]? = some c) (hj : l[j]? = some c) : i = j := by
  obtain ⟨h1, e1⟩ := List.getElem?_eq_some_iff.mp hi
  obtain ⟨h2, e2⟩ := List.getElem?_eq_some_iff.mp hj
  exact (List.getElem_inj nd).mp (e1.trans e2.symm)
theorem ok_names {s : DS} {n : Nat} (h : n ≤ 6) {Q : D → DS → Prop} (q : ∀ xs s', Nms xs n → Q (.list (xs.map .str)) s') : Ok (K_w_names Ftake (K_w_tail Ftake) [hnd 0, .int (n : Nat)] s) Q := by
  unfold K_w_names B_w_names
  refine k_fn (k_seq (k_set ?_))
  walk_at "E"
  refine k_seq (k_set ?_)
  walk_at "E"
  refine k_take (by omega) (by omega) fun f s1 f0 f1 => ?_
  refine k_seq (k_sIf ?_)
  walk_at "E"
  refine k_take (by omega) (by omega) fun w s2 w0 w1 => ?_
  walk_at "E"
  by_cases hw : w = 0
  · rw [decide_eq_true hw]
    walk_at "E"
    refine k_seq (k_set ?_)
    walk_at "E"
    obtain ⟨c, c1, c2, hc⟩ := ix_at (z := grS) (r := f) (by decide) f0 f1
    refine ⟨_, hc, ?_⟩
    refine ok_tail (n := 7) (by omega) fun l s3 hl hs => ?_
    refine ⟨_, v_addS (by rw [mk_len, mk_len, hl]; exact szL (by simp)), ?_⟩
    rw [mk_app]
    refine k_ret ?_
    walk_at "E"
    refine k_lcP (fun ds s' => ds = rngD 0 n) ?_ ?_
    · walk_at "E"
      rw [pr1 (by omega) (by omega)]
      walk_at "E"
      rfl
    · rintro ds s4 rfl
      refine ⟨by rw [rng_len]; exact szL (by omega), fun j acc _ => acc = (List.range j).map fun i => PyData.str (mk (([c] ++ l).take (i + 1))), rfl, ?_, ?_⟩
      · rintro j d acc s5 hd rfl
        obtain ⟨hj, rfl⟩ := rng_get hd
        refine ⟨_, rfl, ?_⟩
        walk_at "E"
        rw [v_slS (by rw [mk_len]; exact szL (by simp [hl]))]
        walk_at "E"
        rw [show (1 : Int) + (0 + (j : Int)) = ((j + 1 : Nat) : Int) by omega, cut_to, List.range_succ, List.map_append]
        rfl
      · rintro acc s5 rfl
        rw [rng_len]
        have e : ((List.range n).map fun i => PyData.str (mk (([c] ++ l).take (i + 1)))) = ((List.range n).map fun i => mk (([c] ++ l).take (i + 1))).map PyData.str := by rw [List.map_map]; rfl
        rw [e]
        refine q _ _ ⟨by simp, ?_, fun x hx => ?_⟩
        · rw [List.nodup_iff_pairwise_ne, List.pairwise_map]
          refine (List.nodup_iff_pairwise_ne.mp List.nodup_range).imp_of_mem fun {a b} ha hb hab e2 => hab ?_
          have := congrArg Str.length e2
          rw [mk_len, mk_len, List.length_take, List.length_take] at this
          have ha := List.mem_range.mp ha
          have hb := List.mem_range.mp hb
          have hl2 : ([c] ++ l).length = 8 := by simp [hl]
          omega
        · obtain ⟨i, hi, rfl⟩ := List.mem_map.mp hx
          have hi := List.mem_range.mp hi
          show nameB (.str (mk ((c :: l).take (i + 1)))) = true
          rw [List.take_succ_cons]
          refine name_mk c1 ?_ (inAll_take hs i)
          rw [List.length_take]
          omega
  · rw [decide_eq_false hw]
    walk_at "E"
    refine k_nx (k_ret ?_)
    walk_at "E"
    refine k_lcP (fun ds s' => ds = rngD 0 n) ?_ ?_
    · walk_at "E"
      rw [pr1 (by omega) (by omega)]
      walk_at "E"
      rfl
    · rintro ds s4 rfl
      refine ⟨by rw [rng_len]; exact szL (by omega), fun j acc _ => ∃ xs : List Str, acc = xs.map PyData.str ∧ xs.length = j ∧ (∀ x ∈ xs, nameB (.str x) = true) ∧ xs.Nodup ∧ ∀ x ∈ xs, ∃ i c l, i < j ∧ x = mk (c :: l) ∧ grS.cps.toList[(f.toNat + i) % 26]? = some c, ⟨[], rfl, rfl, by simp, List.nodup_nil, by simp⟩, ?_, ?_⟩
      · rintro j d acc s5 hd ⟨xs, rfl, hl, hn, nd, hx⟩
        obtain ⟨hj, rfl⟩ := rng_get hd
        refine ⟨_, rfl, ?_⟩
        walk_at "E"
        rw [v_mod (by decide)]
        walk_at "E"
        have hm : (f + (0 + (j : Int))) % 26 = (((f.toNat + j) % 26 : Nat) : Int) := by omega
        rw [hm]
        obtain ⟨c, c1, c2, hc⟩ := ix_at (z := grS) (r := (((f.toNat + j) % 26 : Nat) : Int)) (by decide) (by omega) (by show _ < (26 : Int); omega)
        refine ⟨_, hc, ?_⟩
        refine k_take (by omega) (by omega) fun w2 s6 v0 v1 => ?_
        obtain ⟨w3, rfl⟩ : ∃ k : Nat, w2 = k := ⟨w2.toNat, by omega⟩
        refine ok_tail (n := w3) (by omega) fun l s7 hl7 hs => ?_
        refine ⟨_, v_addS (by rw [mk_len, mk_len, hl7]; exact szL (by simp; omega)), ?_⟩
        rw [mk_app]
        have c3 : grS.cps.toList[(f.toNat + j) % 26]? = some c := by rw [← c2]; congr 1
        refine ⟨xs ++ [mk ([c] ++ l)], by simp, by simp [hl], fun x hx2 => ?_, nodup_snoc nd fun hm => ?_, fun x hx2 => ?_⟩
        · rcases List.mem_append.mp hx2 with hx2 | hx2
          · exact hn x hx2
          · rw [List.mem_singleton.mp hx2]
            exact name_mk (l := l) c1 (by omega) hs
        · obtain ⟨i, c', l', hi, e2, c4⟩ := hx _ hm
          have e3 := congrArg (fun z : Str => z.cps.toList) e2
          simp only [mk_cps] at e3
          have e4 : c = c' := (List.cons.inj e3).1
          subst e4
          have := nth_inj gr_nd c3 c4
          omega
        · rcases List.mem_append.mp hx2 with hx2 | hx2
          · obtain ⟨i, c', l', hi, e2, c4⟩ := hx x hx2
            exact ⟨i, c', l', by omega, e2, c4⟩
          · rw [List.mem_singleton.mp hx2]
            exact ⟨j, c, l, by omega, rfl, c3⟩
      · rintro acc s5 ⟨xs, rfl, hl, hn, nd, hx⟩
        rw [rng_len] at hl
        exact q xs _ ⟨hl, nd, hn⟩
end Lw01
set_option Elab.async false
set_option linter.all false
set_option maxRecDepth 100000
set_option maxHeartbeats 1000000
namespace Lw01
open PySem PySem.Spec L2 Dl Mx Ds
structure Wds (xs : List Str) (n : Nat) : Prop where
  len : xs.length = n
  nd : xs.Nodup
  kd : ∀ x ∈ xs, kindB (.str x) = true
def sec : List Nat → Bool
  | _ :: d :: _ => decide (d ∈ qzS.cps.toList)
  | _ => false
theorem bar_sec : (barW.all fun w => !sec w.cps.toList) = true := by decide +kernel
theorem qz_sm : inAll qzS.cps.toList smS = true := by decide +kernel
theorem kind_mk {c d : Nat} {l : List Nat} (h : c ∈ smS.cps.toList) (hd : d ∈ qzS.cps.toList) (hl : l.length ≤ 6) (hs : inAll l smS = true) : kindB (.str (mk (c :: d :: l))) = true := by
  have hd2 : d ∈ smS.cps.toList := of_decide_eq_true (List.all_eq_true.mp qz_sm d hd)
  have hn : mk (c :: d :: l) ∉ barW := fun z => by
    have := List.all_eq_true.mp bar_sec _ z
    rw [mk_cps] at this
    have e : sec (c :: d :: l) = true := decide_eq_true hd
    rw [e] at this
    cases this
  rw [kindB_str, smallB_str, mk_cps, mk_len, decide_eq_false hn]
  have e1 : inAll (c :: d :: l) smS = true := by
    unfold inAll at *
    rw [List.all_cons, List.all_cons, decide_eq_true h, decide_eq_true hd2, hs]
    rfl
  rw [e1, List.length_cons, List.length_cons, decide_eq_true (show (2 : Int) ≤ ((l.length + 1 + 1 : Nat) : Int) by omega), decide_eq_true (show ((l.length + 1 + 1 : Nat) : Int) ≤ 8 by omega)]
  rfl
theorem ok_words {s : DS} {n : Nat} (h : n ≤ 20) {Q : D → DS → Prop} (q : ∀ xs s', Wds xs n → Q (.list (xs.map .str)) s') : Ok (K_w_words Ftake (K_w_tail Ftake) [hnd 0, .int (n : Nat)] s) Q := by
  unfold K_w_words B_w_words
  refine k_fn (k_seq (k_set ?_))
  walk_at "E"
  refine k_seq (k_set ?_)
  walk_at "E"
  refine k_take (by omega) (by omega) fun f s1 f0 f1 => ?_
  refine k_seq (k_sIf ?_)
  walk_at "E"
  refine k_take (by omega) (by omega) fun w s2 w0 w1 => ?_
  walk_at "E"
  have second : ∀ s3 : DS, Ok (sSeq (sOwn 5 (aN lenOk aNil)) (sSeq (sFor (iOfA pR1 (aCons (cVar 1) aNil)) (gNm 6) (sApp 5 (cB pAdd (cB pAdd (cB pIx (cVar 2) (cB pMod (cB pAdd (cVar 3) (cVar 6)) (cK (.int 26)))) (cB pIx (cK (.str "qzkj")) (cCall 2 Ftake (aCons (cVar 0) (aCons (cK (.int 4)) aNil))))) (cCall 2 (K_w_tail Ftake) (aCons (cVar 0) (aCons (cCall 2 Ftake (aCons (cVar 0) (aCons (cK (.int 7)) aNil))) aNil)))))) (sRet (cVar 5)))
      [some (hnd 0), some (.int (n : Nat)), some (.str smS), some (.int f), none, none, none] s3) fun r s => match r with | .rt d => Q d s | .nx _ => Q .none s | _ => False := fun s3 => by
    refine k_seq (k_own ?_)
    walk_at "E"
    refine k_seq (k_forP (fun ds s' => ds = rngD 0 n) ?_ ?_)
    · walk_at "E"
      rw [pr1 (by omega) (by omega)]
      walk_at "E"
      rfl
    · rintro ds s4 rfl
      refine ⟨fun j ρ _ => ∃ (xs : List Str) (o : Option D), ρ = [some (hnd 0), some (.int (n : Nat)), some (.str smS), some (.int f), none, some (.list (xs.map PyData.str)), o] ∧ xs.length = j ∧ (∀ x ∈ xs, kindB (.str x) = true) ∧ xs.Nodup ∧ ∀ x ∈ xs, ∃ i c l, i < j ∧ x = mk (c :: l) ∧ smS.cps.toList[(f.toNat + i) % 26]? = some c, ⟨[], none, rfl, rfl, by simp, List.nodup_nil, by simp⟩, ?_, ?_⟩
      · rintro j d ρ s5 hd ⟨xs, o, rfl, hl, hn, nd, hx⟩
        obtain ⟨hj, rfl⟩ := rng_get hd
        refine ⟨_, rfl, ?_⟩
        refine k_app (ds := xs.map PyData.str) rfl (by rw [List.length_map]; exact szl (by omega)) ?_
        walk_at "E"
        rw [v_mod (by decide)]
        walk_at "E"
        have hm : (f + (0 + (j : Int))) % 26 = (((f.toNat + j) % 26 : Nat) : Int) := by omega
        rw [hm]
        obtain ⟨c, c1, c2, hc⟩ := ix_at (z := smS) (r := (((f.toNat + j) % 26 : Nat) : Int)) (by decide) (by omega) (by show _ < (26 : Int); omega)
        refine ⟨_, hc, ?_⟩
        refine k_take (by omega) (by omega) fun w4 s6 u0 u1 => ?_
        obtain ⟨d, d1, d2, hd2⟩ := ix_at (z := qzS) (r := w4) (by decide) u0 u1
        refine ⟨_, hd2, ?_⟩
        refine ⟨_, v_addS (by rw [mk_len, mk_len]; exact szL (by simp)), ?_⟩
        rw [mk_app]
        refine k_take (by omega) (by omega) fun w2 s6 v0 v1 => ?_
        obtain ⟨w3, rfl⟩ : ∃ k : Nat, w2 = k := ⟨w2.toNat, by omega⟩
        refine ok_tail (n := w3) (by omega) fun l s7 hl7 hs => ?_
        refine ⟨_, v_addS (by rw [mk_len, mk_len, hl7]; exact szL (by simp; omega)), ?_⟩
        rw [mk_app]
        have c3 : smS.cps.toList[(f.toNat + j) % 26]? = some c := by rw [← c2]; congr 1
        refine ⟨xs ++ [mk ([c] ++ [d] ++ l)], some (.int (0 + (j : Int))), by simp only [List.map_append, List.map_cons, List.map_nil], by simp [hl], fun x hx2 => ?_, nodup_snoc nd fun hm => ?_, fun x hx2 => ?_⟩
        · rcases List.mem_append.mp hx2 with hx2 | hx2
          · exact hn x hx2
          · rw [List.mem_singleton.mp hx2]
            exact kind_mk (l := l) c1 d1 (by omega) hs
        · obtain ⟨i, c', l', hi, e2, c4⟩ := hx _ hm
          have e3 := congrArg (fun z : Str => z.cps.toList) e2
          simp only [mk_cps] at e3
          have e4 : c = c' := (List.cons.inj e3).1
          subst e4
          have := nth_inj sm_nd c3 c4
          omega
        · rcases List.mem_append.mp hx2 with hx2 | hx2
          · obtain ⟨i, c', l', hi, e2, c4⟩ := hx x hx2
            exact ⟨i, c', l', by omega, e2, c4⟩
          · rw [List.mem_singleton.mp hx2]
            exact ⟨j, c, d :: l, by omega, rfl, c3⟩
      · rintro ρ s5 ⟨xs, o, rfl, hl, hn, nd, hx⟩
        rw [rng_len] at hl
        refine k_ret ?_
        walk_at "E"
        exact q xs _ ⟨hl, nd, hn⟩
  by_cases hw : w = 0
  · rw [decide_eq_true hw]
    walk_at "E"
    by_cases h7 : ((n : Int)) < 7
    · rw [decide_eq_true h7]
      walk_at "E"
      refine k_seq (k_set ?_)
      walk_at "E"
      obtain ⟨c, c1, c2, hc⟩ := ix_at (z := smS) (r := f) (by decide) f0 f1
      refine ⟨_, hc, ?_⟩
      refine k_take (by omega) (by omega) fun w4 s6 u0 u1 => ?_
      obtain ⟨d, d1, d2, hd2⟩ := ix_at (z := qzS) (r := w4) (by decide) u0 u1
      refine ⟨_, hd2, ?_⟩
      refine ⟨_, v_addS (by rw [mk_len, mk_len]; exact szL (by simp)), ?_⟩
      rw [mk_app]
      refine ok_tail (n := 6) (by omega) fun l s3 hl hs => ?_
      refine ⟨_, v_addS (by rw [mk_len, mk_len, hl]; exact szL (by simp)), ?_⟩
      rw [mk_app]
      refine k_ret ?_
      walk_at "E"
      refine k_lcP (fun ds s' => ds = rngD 0 n) ?_ ?_
      · walk_at "E"
        rw [pr1 (by omega) (by omega)]
        walk_at "E"
        rfl
      · rintro ds s4 rfl
        refine ⟨by rw [rng_len]; exact szL (by omega), fun j acc _ => acc = (List.range j).map fun i => PyData.str (mk (([c] ++ [d] ++ l).take (i + 2))), rfl, ?_, ?_⟩
        · rintro j x acc s5 hx rfl
          obtain ⟨hj, rfl⟩ := rng_get hx
          refine ⟨_, rfl, ?_⟩
          walk_at "E"
          rw [v_slS (by rw [mk_len]; exact szL (by simp [hl]))]
          walk_at "E"
          rw [show (2 : Int) + (0 + (j : Int)) = ((j + 2 : Nat) : Int) by omega, cut_to, List.range_succ, List.map_append]
          rfl
        · rintro acc s5 rfl
          rw [rng_len]
          have e : ((List.range n).map fun i => PyData.str (mk (([c] ++ [d] ++ l).take (i + 2)))) = ((List.range n).map fun i => mk (([c] ++ [d] ++ l).take (i + 2))).map PyData.str := by rw [List.map_map]; rfl
          rw [e]
          refine q _ _ ⟨by simp, ?_, fun x hx => ?_⟩
          · rw [List.nodup_iff_pairwise_ne, List.pairwise_map]
            refine (List.nodup_iff_pairwise_ne.mp List.nodup_range).imp_of_mem fun {a b} ha hb hab e2 => hab ?_
            have := congrArg Str.length e2
            rw [mk_len, mk_len, List.length_take, List.length_take] at this
            have ha := List.mem_range.mp ha
            have hb := List.mem_range.mp hb
            have hl2 : ([c] ++ [d] ++ l).length = 8 := by simp [hl]
            omega
          · obtain ⟨i, hi, rfl⟩ := List.mem_map.mp hx
            have hi := List.mem_range.mp hi
            show kindB (.str (mk ((c :: d :: l).take (i + 2)))) = true
            rw [List.take_succ_cons, List.take_succ_cons]
            refine kind_mk c1 d1 ?_ (inAll_take hs i)
            rw [List.length_take]
            omega
    · rw [decide_eq_false h7]
      walk_at "E"
      exact k_nx (second _)
  · rw [decide_eq_false hw]
    walk_at "E"
    exact k_nx (second _)
end Lw01
set_option Elab.async false
set_option linter.all false
set_option maxRecDepth 100000
set_option maxHeartbeats 1000000
namespace Lw01
open PySem PySem.Spec L2 Dl Mx Ds
def vocD (n k d : List Str) : D := .tuple [.tuple (n.map .str), .tuple (k.map .str), .tuple (d.map .str)]
structure Voc (n k d : List Str) : Prop where
  nl : n.length ≤ 6
  kl : k.length ≤ 6
  dl : d.length ≤ 9
  nm : ∀ x ∈ n, nameB (.str x) = true
  kd : ∀ x ∈ k, kindB (.str x) = true
  dd : ∀ x ∈ d, kindB (.str x) = true
  nr : risS n = true
  kr : risS k = true
  dr : risS d = true
  ds : ∀ x ∈ k, x ∉ d
theorem v_sorted {xs : List Str} (h : xs.length < 64) : pSorted [.list (xs.map .str)] = some ((sortS xs).map .str) := by
  unfold pSorted
  simp only
  rw [dStrs_map]
  simp only
  rw [if_pos h]
theorem txt_map (xs : List Str) : (xs.map PyData.str).map txt = xs := by
  rw [List.map_map]
  exact List.map_id' xs
theorem row_of {p : D → Bool} {xs : List Str} (h : ∀ x ∈ xs, p (.str x) = true) (r : risS xs = true) : rowB p (.tuple (xs.map .str)) = true := by
  show ((xs.map PyData.str).all p && risS ((xs.map PyData.str).map txt)) = true
  rw [txt_map, r, Bool.and_true, List.all_map, List.all_eq_true]
  exact h
abbrev Fnames : Fn DS := K_w_names Ftake (K_w_tail Ftake)
abbrev Fwords : Fn DS := K_w_words Ftake (K_w_tail Ftake)
abbrev Fvoc : Fn DS := K_w_vocabulary Ftake Fnames Fwords
theorem voc_rest {s : DS} {m0 m1 m2 : Nat} (h0 : m0 ≤ 6) (h1 : m1 ≤ 6) (h2 : m2 ≤ 3) {Q : D → DS → Prop} (q : ∀ n k d s', Voc n k d → Q (vocD n k d) s') :
    Ok (sSeq (sSet 2 (cNl (aN pSorted (aCons (cCall 2 Fnames (aCons (cVar 0) (aCons (cCall 2 Ftake (aCons (cVar 0) (aCons (cB pAdd (cB pIx (cVar 1) (cK (.int 0))) (cK (.int 1))) aNil))) aNil))) aNil))))
    (sSeq (sSet 3 (cCall 2 Ftake (aCons (cVar 0) (aCons (cB pAdd (cB pIx (cVar 1) (cK (.int 1))) (cK (.int 1))) aNil))))
    (sSeq (sSet 4 (cCall 2 Fwords (aCons (cVar 0) (aCons (cB pAdd (cVar 3) (cCall 2 Ftake (aCons (cVar 0) (aCons (cB pAdd (cB pIx (cVar 1) (cK (.int 2))) (cK (.int 1))) aNil)))) aNil))))
    (sSeq (sSet 5 (cCall 2 Ftake (aCons (cVar 0) (aCons (cB pAdd (cN pLen (aCons (cVar 4) aNil)) (cK (.int 1))) aNil))))
    (sSeq (sSet 4 (cB pAdd (cSl pSl (cVar 4) (oOf (cVar 5)) oNo) (cSl pSl (cVar 4) oNo (oOf (cVar 5)))))
    (sRet (cN pTup (aCons (cN pTuple (aCons (cVar 2) aNil)) (aCons (cN pTuple (aCons (cNl (aN pSorted (aCons (cSl pSl (cVar 4) oNo (oOf (cVar 3))) aNil))) aNil)) (aCons (cN pTuple (aCons (cNl (aN pSorted (aCons (cSl pSl (cVar 4) (oOf (cVar 3)) oNo) aNil))) aNil)) aNil))))))))) [some (hnd 0), some (.list [.int (m0 : Nat), .int (m1 : Nat), .int (m2 : Nat)]), none, none, none, none] s) fun r s => match r with | .rt d => Q d s | .nx _ => Q .none s | _ => False := by
  have i1 : pIx (.list [.int (m0 : Nat), .int (m1 : Nat), .int (m2 : Nat)]) (.int 1) = some (.int (m1 : Nat)) := by simp only [pIx]; exact atI_nat (j := 1) rfl
  have i2 : pIx (.list [.int (m0 : Nat), .int (m1 : Nat), .int (m2 : Nat)]) (.int 2) = some (.int (m2 : Nat)) := by simp only [pIx]; exact atI_nat (j := 2) rfl
  refine k_seq (k_set ?_)
  try walk_at "E"
  refine k_take (by omega) (by omega) fun a s1 a0 a1 => ?_
  obtain ⟨a, rfl⟩ : ∃ k : Nat, a = k := ⟨a.toNat, by omega⟩
  try walk_at "E"
  refine ok_names (n := a) (by omega) fun ns s2 hn => ?_
  try walk_at "E"
  rw [v_sorted (by rw [hn.len]; omega)]
  try walk_at "E"
  refine k_seq (k_set ?_)
  try simp_arith [i1]
  refine k_take (by omega) (by omega) fun b s3 b0 b1 => ?_
  obtain ⟨b, rfl⟩ : ∃ k : Nat, b = k := ⟨b.toNat, by omega⟩
  refine k_seq (k_set ?_)
  try simp_arith [i2]
  refine k_take (by omega) (by omega) fun c s4 c0 c1 => ?_
  obtain ⟨c, rfl⟩ : ∃ k : Nat, c = k := ⟨c.toNat, by omega⟩
  try walk_at "E"
  rw [show (b : Int) + (c : Int) = ((b + c : Nat) : Int) by omega]
  refine ok_words (n := b + c) (by omega) fun ws s5 hw => ?_
  refine k_seq (k_set ?_)
  try simp_arith [List.length_map, hw.len]
  refine k_take (by omega) (by omega) fun t s6 t0 t1 => ?_
  obtain ⟨t, rfl⟩ : ∃ k : Nat, t = k := ⟨t.toNat, by omega⟩
  refine k_seq (k_set ?_)
  try simp_arith [v_slL]
  rw [cutD_from, cutD_to, ← List.map_drop, ← List.map_take]
  rw [v_addL (by rw [List.length_map, List.length_map, List.length_drop, List.length_take, hw.len]; exact szL (by omega)), ← List.map_append]
  try walk_at "E"
  have hp : (ws.drop t ++ ws.take t).Perm ws := List.perm_append_comm.trans (by rw [List.take_append_drop])
  have rnd : (ws.drop t ++ ws.take t).Nodup := hp.nodup_iff.mpr hw.nd
  have rkd : ∀ x ∈ ws.drop t ++ ws.take t, kindB (.str x) = true := fun x hx => hw.kd x (hp.mem_iff.mp hx)
  have rln : (ws.drop t ++ ws.take t).length = b + c := hp.length_eq.trans hw.len
  generalize ws.drop t ++ ws.take t = rs at rnd rkd rln ⊢
  refine k_ret ?_
  try simp_arith [v_slL]
  rw [cutD_to, cutD_from, ← List.map_take, ← List.map_drop, v_sorted (by rw [List.length_take]; omega), v_sorted (by rw [List.length_drop]; omega)]
  try walk_at "E"
  have tk : ∀ x ∈ sortS (rs.take b), x ∈ rs.take b := fun x hx => (sortS_perm _).mem_iff.mp hx
  have dk : ∀ x ∈ sortS (rs.drop b), x ∈ rs.drop b := fun x hx => (sortS_perm _).mem_iff.mp hx
  refine q (sortS ns) (sortS (rs.take b)) (sortS (rs.drop b)) _ ⟨?_, ?_, ?_, fun x hx => hn.nm x ((sortS_perm _).mem_iff.mp hx), fun x hx => rkd x (List.mem_of_mem_take (tk x hx)), fun x hx => rkd x (List.mem_of_mem_drop (dk x hx)), ris_sort hn.nd, ris_sort (rnd.sublist (List.take_sublist _ _)), ris_sort (rnd.sublist (List.drop_sublist _ _)), fun x hx hx2 => ?_⟩
  · rw [(sortS_perm _).length_eq, hn.len]
    omega
  · rw [(sortS_perm _).length_eq, List.length_take]
    omega
  · rw [(sortS_perm _).length_eq, List.length_drop]
    omega
  · have nd2 := rnd
    rw [← List.take_append_drop b rs, List.nodup_append] at nd2
    exact nd2.2.2 x (tk x hx) x (dk x hx2) rfl
theorem ok_voc {s : DS} {Q : D → DS → Prop} (q : ∀ n k d s', Voc n k d → Q (vocD n k d) s') : Ok (Fvoc [hnd 0] s) Q := by
  unfold Fvoc K_w_vocabulary B_w_vocabulary
  refine k_fn (k_seq (k_set ?_))
  try walk_at "E"
  refine k_take (by omega) (by omega) fun w s1 w0 w1 => ?_
  try walk_at "E"
  by_cases h : w = 7
  · rw [decide_eq_true h]
    have e : pIx (.list [.list [.int 3, .int 4, .int 2], .list [.int 6, .int 6, .int 3]]) (.int (if true = true then 1 else 0)) = some (.list [.int 6, .int 6, .int 3]) := by simp only [pIx]; exact atI_nat (j := 1) rfl
    refine ⟨_, e, ?_⟩
    exact voc_rest (m0 := 6) (m1 := 6) (m2 := 3) (by omega) (by omega) (by omega) q
  · rw [decide_eq_false h]
    have e : pIx (.list [.list [.int 3, .int 4, .int 2], .list [.int 6, .int 6, .int 3]]) (.int (if false = true then 1 else 0)) = some (.list [.int 3, .int 4, .int 2]) := by simp only [pIx]; exact atI_nat (j := 0) rfl
    refine ⟨_, e, ?_⟩
    exact voc_rest (m0 := 3) (m1 := 4) (m2 := 2) (by omega) (by omega) (by omega) q
end Lw01
set_option Elab.async false
set_option linter.all false
set_option maxRecDepth 100000
set_option maxHeartbeats 4000000
/-! the deck of the laws of counts: one list, how many were drawn, a seed, the cells -/
namespace Dl
open PySem PySem.Spec PyProof.Rows L2 GxR
def m8a (a k : Int) : Int := (a % 2147483647 * 48271 + k * 69621 + 7919) % 2147483629
def m8b (a k : Int) : Int := (m8a a k * m8a a k + 16807 * m8a a k + k) % 2147483587
def m8F (a k : Int) : Int := (m8b a k % 65536 * 32749 + m8b a k / 65536) * 39373 % 2147483563
def drawG (s : DS) (m : Int) : Int × DS := match s.1.getLast? with
  | none => (m8F s.2.1 (s.2.2 + 1) % m, ([], s.2.1, s.2.2 + 1))
  | some x => if x < 10 ^ 18 then (m8F x (s.2.2 + 1) % m, (s.1.dropLast, s.2.1, s.2.2 + 1)) else (x % m, (s.1.dropLast ++ [x / m], s.2.1, s.2.2 + 1))
theorem drawG_range (s : DS) {m : Int} (hm : 0 < m) : 0 ≤ (drawG s m).1 ∧ (drawG s m).1 < m := by
  have fin : ∀ r : Int, 0 ≤ r % m ∧ r % m < m := fun r => ⟨Int.emod_nonneg _ (by omega), Int.emod_lt_of_pos _ hm⟩
  unfold drawG
  split
  · exact fin _
  · split
    · exact fin _
    · exact fin _
def Fdraw8 : Fn DS := fun ds s => match ds with
  | [.dict [(.int 0, .none)], .int m] => if 0 < m ∧ m < 1073741824 then some (.int (drawG s m).1, (drawG s m).2) else none
  | _ => none
theorem fdraw8 {s : DS} {m : Int} (h : 0 < m) (h2 : m < 1073741824) : Fdraw8 [hnd 0, .int m] s = some (.int (drawG s m).1, (drawG s m).2) := by
  show (if 0 < m ∧ m < 1073741824 then some (PyData.int (drawG s m).1, (drawG s m).2) else none) = _
  rw [if_pos ⟨h, h2⟩]
theorem k_draw8 {s : DS} {m : Int} {Q : D → DS → Prop} (h : 0 < m) (h2 : m < 1073741824) (q : ∀ (r : Int) s', 0 ≤ r → r < m → Q (.int r) s') : Ok (Fdraw8 [hnd 0, .int m] s) Q :=
  ⟨_, _, fdraw8 h h2, q _ _ (drawG_range s h).1 (drawG_range s h).2⟩
section
variable {P : Program} {w : World} {K : PySem.W.Frag} {mg : Str → Option Value} {base : Heap} {f : Addr} {fd : FuncData}
end
end Dl
set_option Elab.async false
set_option linter.all false
set_option maxRecDepth 100000
set_option maxHeartbeats 4000000
/-! a def whose first statement makes a dict of its own, texts to whole numbers: the dict is a handle into the state -/
namespace Dl
open PySem PySem.Spec PyProof.Rows L2 Ds
abbrev KV := List (Str × Int)
def kvV (m : KV) : List (Key × V) := m.map fun p => (Sum.inr p.1, V.int p.2)
def kvGet (m : KV) (k : Str) : Option Int := (m.find? fun p => decide (p.1 = k)).map (·.2)
def kvPut (m : KV) (k : Str) (v : Int) : KV := if (m.any fun p => decide (p.1 = k)) = true then m.map (fun p => if p.1 = k then (p.1, v) else p) else m ++ [(k, v)]
theorem kv_get (k : Str) : ∀ m : KV, valV (kvV m) (Sum.inr k : Key) = (kvGet m k).map V.int
  | [] => rfl
  | (a, n) :: m => by
    have ih := kv_get k m
    by_cases e : a = k
    · subst e
      simp [valV, kvV, kvGet]
    · unfold valV kvV kvGet at ih ⊢
      simp only [List.map_cons, List.find?_cons]
      have e2 : decide ((Sum.inr a : Key) = Sum.inr k) = false := decide_eq_false fun z => e (Sum.inr.inj z)
      rw [e2, decide_eq_false e]
      exact ih
theorem kv_put (m : KV) (k : Str) (v : Int) : putK (kvV m) (Sum.inr k : Key) (.int v) = kvV (kvPut m k v) := by
  have h1 : ((kvV m).any fun p => decide (p.1 = (Sum.inr k : Key))) = m.any fun p => decide (p.1 = k) := by
    unfold kvV
    rw [List.any_map]
    congr 1
    funext p
    simp
  unfold putK kvPut
  rw [h1]
  split
  · unfold kvV
    rw [List.map_map, List.map_map]
    refine List.map_congr_left fun p _ => ?_
    by_cases e : p.1 = k
    · simp [e]
    · simp [e]
  · simp [kvV]
def isH1 : List (D × D) → Bool
  | [(.int n, .none)] => decide (n = 1)
  | _ => false
mutual
/-- nothing in it is the handle of the dict -/
def noH : D → Bool
  | .list ds => noHs ds
  | .tuple ds => noHs ds
  | .dict kvs => !isH1 kvs && noHk kvs
  | _ => true
def noHs : List D → Bool
  | [] => true
  | d :: ds => noH d && noHs ds
def noHk : List (D × D) → Bool
  | [] => true
  | (_, d) :: r => noH d && noHk r
end
def hdc (hd : Nat → Addr → Prop) (p : Addr) : Nat → Addr → Prop := fun n a => if n = 1 then a = p else hd n a
section
variable {K : PySem.W.Frag} {hd : Nat → Addr → Prop} {p : Addr} {B : Bar} {H : Hp}
mutual
theorem rep_h : ∀ (d : D) (v : V), noH d = true → (Rep ⟨K, hd⟩ B H d v ↔ Rep ⟨K, hdc hd p⟩ B H d v)
  | .none, v, _ => by simp only [Rep]
  | .bool _, v, _ => by simp only [Rep]
  | .int _, v, _ => by simp only [Rep]
  | .str _, v, _ => by simp only [Rep]
  | .list ds, v, h => by
    simp only [Rep]
    have := fun vs => reps_h ds vs (by simpa [noH] using h)
    constructor
    · rintro ⟨a, vs, e, h1, h2, h3⟩
      exact ⟨a, vs, e, h1, h2, (this vs).mp h3⟩
    · rintro ⟨a, vs, e, h1, h2, h3⟩
      exact ⟨a, vs, e, h1, h2, (this vs).mpr h3⟩
  | .tuple ds, v, h => by
    simp only [Rep]
    have := fun vs => reps_h ds vs (by simpa [noH] using h)
    constructor
    · rintro ⟨a, vs, e, h1, h3⟩
      exact ⟨a, vs, e, h1, (this vs).mp h3⟩
    · rintro ⟨a, vs, e, h1, h3⟩
      exact ⟨a, vs, e, h1, (this vs).mpr h3⟩
  | .dict kvs, v, h => by
    simp only [Rep]
    have h : isH1 kvs = false ∧ noHk kvs = true := by simpa [noH] using h
    have hk := fun vs => repk_h kvs vs h.2
    have ho := fun vs => repo_h kvs vs h.2
    have hc : ∀ (c : Nat) (C : Addr), hd (1000 + c) C ↔ hdc hd p (1000 + c) C := fun c C => by
      unfold hdc
      rw [if_neg (by omega)]
    have hc2 : ∀ (c : Nat) (C : Addr), hd (2000 + c) C ↔ hdc hd p (2000 + c) C := fun c C => by
      unfold hdc
      rw [if_neg (by omega)]
    have key : ∀ (n : Nat) (a : Addr), kvs = [(.int (n : Nat), .none)] → (hd n a ↔ hdc hd p n a) := fun n a e => by
      subst e
      have hn : n ≠ 1 := fun z => by
        subst z
        simp [isH1] at h
      unfold hdc
      rw [if_neg hn]
    constructor
    · rintro ⟨a, e, ⟨n, e2, h1⟩ | ⟨h1, kv, h2, h3, h4⟩ | ⟨c, h0, C, dx, fv, h1, h2, h3, h4⟩ | z⟩
      · exact ⟨a, e, .inl ⟨n, e2, (key n a e2).mp h1⟩⟩
      · exact ⟨a, e, .inr (.inl ⟨h1, kv, h2, h3, (hk kv).mp h4⟩)⟩
      · exact ⟨a, e, .inr (.inr (.inl ⟨c, h0, C, dx, fv, (hc c C).mp h1, h2, h3, (ho fv).mp h4⟩))⟩
      · exact ⟨a, e, .inr (.inr (.inr (z.imp id fun ⟨c, h0, C, d, fv, h1, h2, h3, h5, h4⟩ => ⟨c, h0, C, d, fv, (hc2 c C).mp h1, h2, h3, h5, (ho fv).mp h4⟩)))⟩
    · rintro ⟨a, e, ⟨n, e2, h1⟩ | ⟨h1, kv, h2, h3, h4⟩ | ⟨c, h0, C, dx, fv, h1, h2, h3, h4⟩ | z⟩
      · exact ⟨a, e, .inl ⟨n, e2, (key n a e2).mpr h1⟩⟩
      · exact ⟨a, e, .inr (.inl ⟨h1, kv, h2, h3, (hk kv).mpr h4⟩)⟩
      · exact ⟨a, e, .inr (.inr (.inl ⟨c, h0, C, dx, fv, (hc c C).mpr h1, h2, h3, (ho fv).mpr h4⟩))⟩
      · exact ⟨a, e, .inr (.inr (.inr (z.imp id fun ⟨c, h0, C, d, fv, h1, h2, h3, h5, h4⟩ => ⟨c, h0, C, d, fv, (hc2 c C).mpr h1, h2, h3, h5, (ho fv).mpr h4⟩)))⟩
theorem reps_h : ∀ (ds : List D) (vs : List V), noHs ds = true → (Reps ⟨K, hd⟩ B H ds vs ↔ Reps ⟨K, hdc hd p⟩ B H ds vs)
  | [], vs, _ => by simp only [Reps]
  | d :: ds, vs, h => by
    simp only [Reps]
    have h : noH d = true ∧ noHs ds = true := by simpa [noHs] using h
    constructor
    · rintro ⟨v, r, e, h1, h2⟩
      exact ⟨v, r, e, (rep_h d v h.1).mp h1, (reps_h ds r h.2).mp h2⟩
    · rintro ⟨v, r, e, h1, h2⟩
      exact ⟨v, r, e, (rep_h d v h.1).mpr h1, (reps_h ds r h.2).mpr h2⟩
theorem repk_h : ∀ (ds : List (D × D)) (vs : List (Key × V)), noHk ds = true → (Repk ⟨K, hd⟩ B H ds vs ↔ Repk ⟨K, hdc hd p⟩ B H ds vs)
  | [], vs, _ => by simp only [Repk]
  | (_, d) :: ds, vs, h => by
    simp only [Repk]
    have h : noH d = true ∧ noHk ds = true := by simpa [noHk] using h
    constructor
    · rintro ⟨q, v, r, e, h0, h1, h2⟩
      exact ⟨q, v, r, e, h0, (rep_h d v h.1).mp h1, (repk_h ds r h.2).mp h2⟩
    · rintro ⟨q, v, r, e, h0, h1, h2⟩
      exact ⟨q, v, r, e, h0, (rep_h d v h.1).mpr h1, (repk_h ds r h.2).mpr h2⟩
theorem repo_h : ∀ (ds : List (D × D)) (vs : List (Str × V)), noHk ds = true → (Repo ⟨K, hd⟩ B H ds vs ↔ Repo ⟨K, hdc hd p⟩ B H ds vs)
  | [], vs, _ => by simp only [Repo]
  | (_, d) :: ds, vs, h => by
    simp only [Repo]
    have h : noH d = true ∧ noHk ds = true := by simpa [noHk] using h
    constructor
    · rintro (⟨e, h1⟩ | ⟨x, v, r, e, h0, h1, h2⟩)
      · exact .inl ⟨e, (repo_h ds vs h.2).mp h1⟩
      · exact .inr ⟨x, v, r, e, h0, (rep_h d v h.1).mp h1, (repo_h ds r h.2).mp h2⟩
    · rintro (⟨e, h1⟩ | ⟨x, v, r, e, h0, h1, h2⟩)
      · exact .inl ⟨e, (repo_h ds vs h.2).mpr h1⟩
      · exact .inr ⟨x, v, r, e, h0, (rep_h d v h.1).mpr h1, (repo_h ds r h.2).mpr h2⟩
end
end
/-- what is shared, and the dict at p -/
def Zdc {S : Type} (Z : Zk S) (p : Addr) : Zk (S × KV) where
  M := fun a => Z.M a ∨ a = p
  R := fun H s => Z.R H s.1 ∧ H p = some (.dK (kvV s.2)) ∧ ¬ Z.M p
  dom := fun H s a h m => m.elim (Z.dom H s.1 a h.1) fun e => by
    rw [e, h.2.1]
    simp
  loc := fun H H' s h k => ⟨Z.loc H H' s.1 h.1 fun a m => k a (.inl m), (k p (.inr rfl)).trans h.2.1, h.2.2⟩
def fnDk {S : Type} (n i : Nat) (F : Sv (S × KV)) : Fn S := fun ds s => if noHs ds = true then match F ((startR n ds).set i (some (hnd 1))) (s, []) with
  | some (.rt d, s') => if noH d = true then some (d, s'.1) else none
  | some (.nx _, s') => some (.none, s'.1)
  | _ => none else none
section
variable {S : Type} {P : Program} {w : World} {K : PySem.W.Frag} {mg : Str → Option Value} {base : Heap} {hd : Nat → Addr → Prop} {Z : Zk S} {W : List Nat} {F : Sv (S × KV)}
theorem fn_okD {nm qual : Str} {st : Stmt} {fad : Addr} {fd : FuncData} {N ps : List Str} {k n m i : Nat} {x : Str} {px pd pa : Pos} {rest : List Stmt} (U : Fun K nm qual st fad fd) (sc : FnScope N ps (defScope st)) (hn : N.length = n) (hm : ps.length = m) (hmn : m ≤ n) (hW : ∀ i ∈ W, m ≤ i) (hi : W.contains i = false)
    (hbody : defBody st = .Assign [.Name x px] (.Dict [] [] pd) pa :: rest)
    (h0 : ∀ (cdv : Value) (A : Around) (outer : List Env) (s : Shared) (H : Hp) (E : XK), PS (cxOf CX0 P w K mg base N qual (defScope st) fad cdv A outer s H E).nox (.Assign [.Name x px] (.Dict [] [] pd) pa) (tAsg tDNewK (gName i)))
    (hb : ∀ (p : Addr) (cdv : Value) (A : Around) (outer : List Env) (s : Shared) (H : Hp) (E : XK), Room k (A.deeper (envOfC qual (defScope st) s.heap.objs.size fad cdv)) → PSs (cxOf CX0 P w K mg base N qual (defScope st) fad cdv A outer s H E).nox rest (tSt ⟨K, hdc hd p⟩ (Zdc Z p) W F)) :
    FnOk P w K mg base CX0 (k + 1) fad fd ps (spD ⟨K, hd⟩ Z m (fnDk n i F)) := by
  refine U.ok sc (fun vs H Q E h => ?_) (fun cdv A outer s H vs Q E hr h => ?_)
  · obtain ⟨B, ds, s, d, s', h1, _, _, h2, _⟩ := h
    rw [h2.len, h1, hm]
  · rw [hbody]
    refine ⟨_, pss_cons (h0 cdv A outer s H E) (⟨fun pins s' σ H' D I ⟨p, q⟩ => (hb p cdv A outer s H E hr).run pins s' σ H' D I q⟩ : PSs _ rest (fun E σ H => ∃ p, tSt ⟨K, hdc hd p⟩ (Zdc Z p) W F E σ H)), ?_⟩
    obtain ⟨B, ds, s0, d, s', h1, bd, mb, h2, R0, hF, q⟩ := h
    intro p np
    have zp : ¬ Z.M p := fun z => bd p (mb p z) np
    unfold fnDk at hF
    split at hF
    · rename_i hno
      have e1 : (upd H p (.dK [])) p = some (.dK []) := upd_same
      have sm := Lc.same_new (o := .dK []) np
      have bd1 : ∀ a, (B a ∨ a = p) → (upd H p (.dK [])) a ≠ none := fun a z => z.elim (fun z => by
        obtain ⟨o, e⟩ := some_of_ne (bd a z)
        rw [sm a o e]
        simp) fun z => by rw [z, e1]; simp
      have r1 : Reps ⟨K, hdc hd p⟩ (fun a => B a ∨ a = p) (upd H p (.dK [])) ds vs := ((reps_h ds vs hno).mp h2).mv fun a o e nb => ⟨sm a o e, fun z => z.elim nb fun z => by rw [z, np] at e; cases e⟩
      have eo := eo_start (W := W) (Z := Zdc Z p) (N := N) hn bd1 (fun a z => z.imp (mb a) id) r1 (by omega) (by rw [h1]; exact hW)
      have eo2 := eo.set (i := i) (d := hnd 1) (v := .ref p) (by simpa using hi) (by
        unfold hnd
        simp only [Rep]
        exact ⟨p, rfl, .inl ⟨1, rfl, by unfold hdc; rw [if_pos rfl]⟩⟩)
      have R1 : (Zdc Z p).R (upd H p (.dK [])) (s0, []) := ⟨Z.same R0 sm, e1, zp⟩
      have sr : Sr ⟨K, hdc hd p⟩ (Zdc Z p) W (fun a => B a ∨ a = p) (upd H p (.dK [])) (fun _ => False) (upd H p (.dK [])) ((L2.start N vs).set i (some (.ref p))) ((startR n ds).set i (some (hnd 1))) (s0, []) := ⟨eo2, Lc.Fr.refl _, bd1, fun _ z => z.elim, R1⟩
      have frb : ∀ H', Lc.Fr (Zdc Z p).M (upd H p (.dK [])) H' → Lc.Fr Z.M H H' := fun H' f b o e => by
        obtain ⟨o', e2, e3⟩ := f b o (sm b o e)
        refine ⟨o', e2, fun nb => e3 fun z => z.elim nb fun z => ?_⟩
        rw [z, np] at e
        cases e
      split at hF
      · rename_i d' s1 e9
        split at hF
        · rename_i hnd'
          cases hF
          refine ⟨p, fun a => B a ∨ a = p, _, fun _ => False, _, _, .rt d, _, sr, e9, fun v H' f1 r3 R3 => ?_⟩
          exact q v H' (frb H' f1) (((rep_h d v hnd').mpr r3).sub fun a z _ => .inl z) R3.1
        · cases hF
      · rename_i ρ' s1 e9
        cases hF
        refine ⟨p, fun a => B a ∨ a = p, _, fun _ => False, _, _, .nx ρ', _, sr, e9, fun O' σ' H' sr' _ => ?_⟩
        exact q .non H' (frb H' sr'.fr) (by simp only [Rep]) sr'.r.1
      · cases hF
    · cases hF
end
end Dl
set_option Elab.async false
set_option linter.all false
set_option maxRecDepth 100000
set_option maxHeartbeats 4000000
/-! the dict that a def makes: read, stored, sorted -/
namespace Dl
open PySem PySem.Spec PyProof.Rows L2 Ds
def isH (ρ : Rho) (i : Nat) : Bool := match ρ[i]? with
  | some (some (.dict [(.int 1, .none)])) => true
  | _ => false
section
variable {S : Type}
def cDg2 (i : Nat) (f g : Ev (S × KV)) : Ev (S × KV) := fun ρ s => if isH ρ i = true then bnd (f ρ s) fun k s => bnd (g ρ s) fun z s => match k with
  | .str k => some ((match kvGet s.2 k with | some n => .int n | none => z), s)
  | _ => none else none
def cDi (i : Nat) (f : Ev (S × KV)) : Ev (S × KV) := fun ρ s => if isH ρ i = true then bnd (f ρ s) fun k s => match k with
  | .str k => match kvGet s.2 k with
    | some n => some (.int n, s)
    | none => none
  | _ => none else none
def sDp (i : Nat) (f g : Ev (S × KV)) : Sv (S × KV) := fun ρ s => if isH ρ i = true then bnd (g ρ s) fun v s => bnd (f ρ s) fun k s => match k, v with
  | .str k, .int n => if s.2.length < 1000 then some (.nx ρ, (s.1, kvPut s.2 k n)) else none
  | _, _ => none else none
def aSd (i : Nat) : Ea (S × KV) := fun ρ s => if isH ρ i = true ∧ s.2.length < 64 then some ((sortS (s.2.map (·.1))).map .str, s) else none
variable {X : Cx} {K : PySem.W.Frag} {hd : Nat → Addr → Prop} {p : Addr} {Z : Zk S} {W : List Nat} {f g : Ev (S × KV)} {e e2 : Expr} {x : Str} {px apos cpos pos pos' : Pos} {i : Nat}
theorem isH_at {B O : Bar} {H : Hp} {σ : L2.St} {ρ : Rho} (eo : Eo ⟨K, hdc hd p⟩ (Zdc Z p) W B O H σ ρ) (h : isH ρ i = true) (hi : W.contains i = false) : σ[i]? = some (some (.ref p)) := by
  unfold isH at h
  split at h
  · rename_i e
    obtain ⟨v, h1, h2⟩ := eo.er.pl i _ (by simpa using hi) e
    simp only [Rep] at h2
    obtain ⟨a, rfl, ⟨n, e1, h3⟩ | ⟨e1, _⟩ | ho⟩ := h2
    · have : n = 1 := by
        have := e1
        simp at this
        omega
      subst this
      have h3 : a = p := by simpa [hdc] using h3
      rw [h1, h3]
    · cases e1
    · rcases ho with ⟨_, e1, _⟩ | ⟨_, e1, _⟩ | ⟨_, e1, _⟩ <;> cases e1
  · cases h
theorem ex_dg2 (hu : X.A.units + 1 < cLine) (hx : PE X (.Name x px) (tVar i)) (he : PE X e (tEx ⟨K, hdc hd p⟩ (Zdc Z p) W f)) (hf : PE X e2 (tEx ⟨K, hdc hd p⟩ (Zdc Z p) W g)) (m : M2 X (.Name x px) "get" apos e e2 cpos) (hi : W.contains i = false := by rfl) :
    PE X (.Call (.Attribute (.Name x px) "get" apos) [e, e2] [] cpos) (tEx ⟨K, hdc hd p⟩ (Zdc Z p) W (cDg2 i f g)) :=
  imp_pe (pe_dget2 hu hx he hf m) fun σ H Q ⟨B, O, ρ, s, d, s', eo, hR, hF, q⟩ => by
    unfold cDg2 at hF
    split at hF
    · rename_i hh
      obtain ⟨k, s1, h1, hF⟩ := bnd_some hF
      obtain ⟨z, s2, h2, hF⟩ := bnd_some hF
      have hv := isH_at eo hh hi
      refine ⟨.ref p, hv, p, rfl, .inl ⟨_, .inl hR.2.1⟩, B, O, ρ, s, k, s1, eo, hR, h1, fun v1 H1 f1 r1 R1 => ?_⟩
      refine ⟨B, O, ρ, s1, z, s2, eo.fr f1, R1, h2, fun v2 H2 f2 r2 R2 => ?_⟩
      cases k with
      | str k =>
        cases hF
        have r1 := r1.fr f2 fun a z => .inl (eo.mb a z)
        simp only [Rep] at r1
        subst r1
        refine ⟨_, DGet.k (k := Sum.inr k) R2.2.1, ?_⟩
        rw [kv_get]
        cases hk : kvGet s'.2 k with
        | none =>
          rw [hk] at q
          exact q _ H2 (f1.trans f2) r2 R2
        | some n =>
          rw [hk] at q
          exact q _ H2 (f1.trans f2) (by simp only [Rep]; rfl) R2
      | _ => cases hF
    · cases hF
theorem ex_di (hu : X.A.units + 1 < cLine) (hx : PE X (.Name x px) (tVar i)) (he : PE X e (tEx ⟨K, hdc hd p⟩ (Zdc Z p) W f)) (hs : NoSl e) (hi : W.contains i = false := by rfl) :
    PE X (.Subscript (.Name x px) e pos) (tEx ⟨K, hdc hd p⟩ (Zdc Z p) W (cDi i f)) :=
  imp_pe (pe_dget hu hx he hs) fun σ H Q ⟨B, O, ρ, s, d, s', eo, hR, hF, q⟩ => by
    unfold cDi at hF
    split at hF
    · rename_i hh
      obtain ⟨k, s1, h1, hF⟩ := bnd_some hF
      have hv := isH_at eo hh hi
      refine ⟨.ref p, hv, B, O, ρ, s, k, s1, eo, hR, h1, fun v1 H1 f1 r1 R1 => ?_⟩
      split at hF
      · rename_i k
        split at hF
        · rename_i n hn
          cases hF
          simp only [Rep] at r1
          subst r1
          have := DGet.k (k := Sum.inr k) R1.2.1
          rw [kv_get, hn] at this
          exact ⟨p, .int n, rfl, this, q _ H1 f1 (by simp only [Rep]) R1⟩
        · cases hF
      · cases hF
    · cases hF
theorem nl_sortD (hc : X.calm = true) (hg : Gl X "sorted") (hm : X.mg "sorted" = none) (hx : PE X (.Name x px) (tVar i)) (hs : starEach [.Name x px] X.env = (false, eval (.Name x px) X.env) :: starEach [] X.env := by rfl) (hi : W.contains i = false := by rfl) :
    PE X (.Call (.Name "sorted" pos') [.Name x px] [] pos) (tNl ⟨K, hdc hd p⟩ (Zdc Z p) W (aSd i)) :=
  imp_pe (pe_callB (call_sortedD hc) hg hm (by decide +kernel) (pa_cons hx pa_nil hs) (he := hs)) fun σ H Q ⟨B, O, ρ, s, l, s', eo, hR, hF, q⟩ => by
    unfold aSd at hF
    split at hF
    · rename_i hh
      cases hF
      have hv := isH_at eo hh.1 hi
      refine ⟨.ref p, hv, p, _, s.2.map (·.1), rfl, .inl hR.2.1, ?_, by rw [List.length_map]; exact hh.2, fun ys p2 hp hso np => ?_⟩
      · unfold kvV
        rw [List.map_map, List.map_map]
        rfl
      · have e := sortS_eq hp hso
        subst e
        exact q p2 _ _ np (Lc.Fr.new np) upd_same reps_strs ((Zdc Z p).same hR (Lc.same_new np))
    · cases hF
theorem es_dput {value : Expr} (hu : X.A.units + 1 < cLine) (hx : PE X (.Name x px) (tVar i)) (he : PE X e (tEx ⟨K, hdc hd p⟩ (Zdc Z p) W f)) (hv : PE X value (tEx ⟨K, hdc hd p⟩ (Zdc Z p) W g)) (hs : swapsWith value (some (.Subscript (.Name x px) e pos')) pos.line X.env = pure false := by rfl) (hi : W.contains i = false := by rfl) :
    PS X (.Assign [.Subscript (.Name x px) e pos'] value pos) (tSt ⟨K, hdc hd p⟩ (Zdc Z p) W (sDp i f g)) :=
  imp_ps (ps_dput hu hx he hv hs) fun E σ H ⟨B, H0, O, ρ, s, r, s', sr, hF, q⟩ => by
    unfold sDp at hF
    split at hF
    · rename_i hh
      obtain ⟨v, s1, h1, hF⟩ := bnd_some hF
      obtain ⟨k, s2, h2, hF⟩ := bnd_some hF
      refine ⟨B, O, ρ, s, v, s1, sr.eo, sr.r, h1, fun v1 H1 f1 r1 R1 => ?_⟩
      have eo1 := sr.eo.fr f1
      refine ⟨.ref p, isH_at eo1 hh hi, B, O, ρ, s1, k, s2, eo1, R1, h2, fun v2 H2 f2 r2 R2 => ?_⟩
      split at hF
      case _ k n _ =>
        split at hF
        · rename_i hl
          cases hF
          have r1 := r1.fr f2 fun a z => .inl (sr.eo.mb a z)
          simp only [Rep] at r1 r2
          subst r1 r2
          refine ⟨p, _, rfl, DPut.k (k := Sum.inr _) R2.2.1 (by unfold kvV; rw [List.length_map]; exact Nat.lt_of_lt_of_le hl (by decide)), ?_⟩
          rw [kv_put]
          have f3 : Lc.Fr (Zdc Z p).M H (upd H2 p (.dK (kvV (kvPut s2.2 k n)))) := (f1.trans f2).trans (Lc.Fr.mut (.inr rfl))
          have R3 : (Zdc Z p).R (upd H2 p (.dK (kvV (kvPut s2.2 k n)))) (s2.1, kvPut s2.2 k n) := by
            refine ⟨Z.loc H2 _ s2.1 R2.1 fun a m => ?_, upd_same, R2.2.2⟩
            rw [upd_ne]
            intro z
            exact R2.2.2 (z ▸ m)
          exact q O σ _ (sr.step f3 R3) (Ch.of f3)
        · cases hF
      case _ => cases hF
    · cases hF
end
end Dl
set_option Elab.async false
set_option linter.all false
set_option maxRecDepth 100000
set_option maxHeartbeats 4000000
/-! a def's own dict of texts to scalars of one kind: as LcDct, LcDcu -/
namespace Dg
open PySem PySem.Spec PyProof.Rows L2 Ds Dl
/-- what a dict may hold as values: a kind of scalar data -/
class DV (A : Type) where
  v : A → V
  d : A → D
  of : D → Option A
  rep : ∀ (G : Kx) (B : Bar) (H : Hp) (a : A), Rep G B H (d a) (v a)
  back : ∀ x a, of x = some a → x = d a
  only : ∀ (G : Kx) (B : Bar) (H : Hp) (a : A) (u : V), Rep G B H (d a) u → u = v a
instance : DV Int := ⟨V.int, .int, fun x => match x with | .int n => some n | _ => none, fun G B H a => by simp only [Rep], fun x a h => by split at h <;> cases h; rfl, fun G B H a u h => by simpa only [Rep] using h⟩
instance : DV Bool := ⟨V.bl, .bool, fun x => match x with | .bool n => some n | _ => none, fun G B H a => by simp only [Rep], fun x a h => by split at h <;> cases h; rfl, fun G B H a u h => by simpa only [Rep] using h⟩
abbrev KV (B : Type) := List (Str × B)
variable {VA : Type} [DV VA]
def kvV (m : KV VA) : List (Key × V) := m.map fun p => (Sum.inr p.1, DV.v p.2)
def kvGet (m : KV VA) (k : Str) : Option VA := (m.find? fun p => decide (p.1 = k)).map (·.2)
def kvPut (m : KV VA) (k : Str) (v : VA) : KV VA := if (m.any fun p => decide (p.1 = k)) = true then m.map (fun p => if p.1 = k then (p.1, v) else p) else m ++ [(k, v)]
theorem kv_get (k : Str) : ∀ m : KV VA, valV (kvV m) (Sum.inr k : Key) = (kvGet m k).map DV.v
  | [] => rfl
  | (a, n) :: m => by
    have ih := kv_get k m
    by_cases e : a = k
    · subst e
      simp [valV, kvV, kvGet]
    · unfold valV kvV kvGet at ih ⊢
      simp only [List.map_cons, List.find?_cons]
      have e2 : decide ((Sum.inr a : Key) = Sum.inr k) = false := decide_eq_false fun z => e (Sum.inr.inj z)
      rw [e2, decide_eq_false e]
      exact ih
theorem kv_put (m : KV VA) (k : Str) (v : VA) : putK (kvV m) (Sum.inr k : Key) (DV.v v) = kvV (kvPut m k v) := by
  have h1 : ((kvV m).any fun p => decide (p.1 = (Sum.inr k : Key))) = m.any fun p => decide (p.1 = k) := by
    unfold kvV
    rw [List.any_map]
    congr 1
    funext p
    simp
  unfold putK kvPut
  rw [h1]
  split
  · unfold kvV
    rw [List.map_map, List.map_map]
    refine List.map_congr_left fun p _ => ?_
    by_cases e : p.1 = k
    · simp [e]
    · simp [e]
  · simp [kvV]
/-- what is shared, and the dict at p -/
def Zdc {S : Type} (Z : Zk S) (p : Addr) : Zk (S × KV VA) where
  M := fun a => Z.M a ∨ a = p
  R := fun H s => Z.R H s.1 ∧ H p = some (.dK (kvV s.2)) ∧ ¬ Z.M p
  dom := fun H s a h m => m.elim (Z.dom H s.1 a h.1) fun e => by
    rw [e, h.2.1]
    simp
  loc := fun H H' s h k => ⟨Z.loc H H' s.1 h.1 fun a m => k a (.inl m), (k p (.inr rfl)).trans h.2.1, h.2.2⟩
def fnDk {S : Type} (n i : Nat) (F : Sv (S × KV VA)) : Fn S := fun ds s => if noHs ds = true then match F ((startR n ds).set i (some (hnd 1))) (s, []) with
  | some (.rt d, s') => if noH d = true then some (d, s'.1) else none
  | some (.nx _, s') => some (.none, s'.1)
  | _ => none else none
section
variable {S : Type} {P : Program} {w : World} {K : PySem.W.Frag} {mg : Str → Option Value} {base : Heap} {hd : Nat → Addr → Prop} {Z : Zk S} {W : List Nat} {F : Sv (S × KV VA)}
theorem fn_okD {nm qual : Str} {st : Stmt} {fad : Addr} {fd : FuncData} {N ps : List Str} {k n m i : Nat} {x : Str} {px pd pa : Pos} {rest : List Stmt} (U : Fun K nm qual st fad fd) (sc : FnScope N ps (defScope st)) (hn : N.length = n) (hm : ps.length = m) (hmn : m ≤ n) (hW : ∀ i ∈ W, m ≤ i) (hi : W.contains i = false)
    (hbody : defBody st = .Assign [.Name x px] (.Dict [] [] pd) pa :: rest)
    (h0 : ∀ (cdv : Value) (A : Around) (outer : List Env) (s : Shared) (H : Hp) (E : XK), PS (cxOf CX0 P w K mg base N qual (defScope st) fad cdv A outer s H E).nox (.Assign [.Name x px] (.Dict [] [] pd) pa) (tAsg tDNewK (gName i)))
    (hb : ∀ (p : Addr) (cdv : Value) (A : Around) (outer : List Env) (s : Shared) (H : Hp) (E : XK), Room k (A.deeper (envOfC qual (defScope st) s.heap.objs.size fad cdv)) → PSs (cxOf CX0 P w K mg base N qual (defScope st) fad cdv A outer s H E).nox rest (tSt ⟨K, hdc hd p⟩ (Zdc (VA := VA) Z p) W F)) :
    FnOk P w K mg base CX0 (k + 1) fad fd ps (spD ⟨K, hd⟩ Z m (fnDk n i F)) := by
  refine U.ok sc (fun vs H Q E h => ?_) (fun cdv A outer s H vs Q E hr h => ?_)
  · obtain ⟨B, ds, s, d, s', h1, _, _, h2, _⟩ := h
    rw [h2.len, h1, hm]
  · rw [hbody]
    refine ⟨_, pss_cons (h0 cdv A outer s H E) (⟨fun pins s' σ H' D I ⟨p, q⟩ => (hb p cdv A outer s H E hr).run pins s' σ H' D I q⟩ : PSs _ rest (fun E σ H => ∃ p, tSt ⟨K, hdc hd p⟩ (Zdc (VA := VA) Z p) W F E σ H)), ?_⟩
    obtain ⟨B, ds, s0, d, s', h1, bd, mb, h2, R0, hF, q⟩ := h
    intro p np
    have zp : ¬ Z.M p := fun z => bd p (mb p z) np
    unfold fnDk at hF
    split at hF
    · rename_i hno
      have e1 : (upd H p (.dK [])) p = some (.dK []) := upd_same
      have sm := Lc.same_new (o := .dK []) np
      have bd1 : ∀ a, (B a ∨ a = p) → (upd H p (.dK [])) a ≠ none := fun a z => z.elim (fun z => by
        obtain ⟨o, e⟩ := some_of_ne (bd a z)
        rw [sm a o e]
        simp) fun z => by rw [z, e1]; simp
      have r1 : Reps ⟨K, hdc hd p⟩ (fun a => B a ∨ a = p) (upd H p (.dK [])) ds vs := ((reps_h ds vs hno).mp h2).mv fun a o e nb => ⟨sm a o e, fun z => z.elim nb fun z => by rw [z, np] at e; cases e⟩
      have eo := eo_start (W := W) (Z := Zdc (VA := VA) Z p) (N := N) hn bd1 (fun a z => z.imp (mb a) id) r1 (by omega) (by rw [h1]; exact hW)
      have eo2 := eo.set (i := i) (d := hnd 1) (v := .ref p) (by simpa using hi) (by
        unfold hnd
        simp only [Rep]
        exact ⟨p, rfl, .inl ⟨1, rfl, by unfold hdc; rw [if_pos rfl]⟩⟩)
      have R1 : (Zdc (VA := VA) Z p).R (upd H p (.dK [])) (s0, []) := ⟨Z.same R0 sm, e1, zp⟩
      have sr : Sr ⟨K, hdc hd p⟩ (Zdc (VA := VA) Z p) W (fun a => B a ∨ a = p) (upd H p (.dK [])) (fun _ => False) (upd H p (.dK [])) ((L2.start N vs).set i (some (.ref p))) ((startR n ds).set i (some (hnd 1))) (s0, []) := ⟨eo2, Lc.Fr.refl _, bd1, fun _ z => z.elim, R1⟩
      have frb : ∀ H', Lc.Fr (Zdc (VA := VA) Z p).M (upd H p (.dK [])) H' → Lc.Fr Z.M H H' := fun H' f b o e => by
        obtain ⟨o', e2, e3⟩ := f b o (sm b o e)
        refine ⟨o', e2, fun nb => e3 fun z => z.elim nb fun z => ?_⟩
        rw [z, np] at e
        cases e
      split at hF
      · rename_i d' s1 e9
        split at hF
        · rename_i hnd'
          cases hF
          refine ⟨p, fun a => B a ∨ a = p, _, fun _ => False, _, _, .rt d, _, sr, e9, fun v H' f1 r3 R3 => ?_⟩
          exact q v H' (frb H' f1) (((rep_h d v hnd').mpr r3).sub fun a z _ => .inl z) R3.1
        · cases hF
      · rename_i ρ' s1 e9
        cases hF
        refine ⟨p, fun a => B a ∨ a = p, _, fun _ => False, _, _, .nx ρ', _, sr, e9, fun O' σ' H' sr' _ => ?_⟩
        exact q .non H' (frb H' sr'.fr) (by simp only [Rep]) sr'.r.1
      · cases hF
    · cases hF
end
def isH (ρ : Rho) (i : Nat) : Bool := match ρ[i]? with
  | some (some (.dict [(.int 1, .none)])) => true
  | _ => false
section
variable {S : Type}
def cDg2 (i : Nat) (f g : Ev (S × KV VA)) : Ev (S × KV VA) := fun ρ s => if isH ρ i = true then bnd (f ρ s) fun k s => bnd (g ρ s) fun z s => match k with
  | .str k => some ((match kvGet s.2 k with | some n => DV.d n | none => z), s)
  | _ => none else none
def cDi (i : Nat) (f : Ev (S × KV VA)) : Ev (S × KV VA) := fun ρ s => if isH ρ i = true then bnd (f ρ s) fun k s => match k with
  | .str k => match kvGet s.2 k with
    | some n => some (DV.d n, s)
    | none => none
  | _ => none else none
def sDp (i : Nat) (f g : Ev (S × KV VA)) : Sv (S × KV VA) := fun ρ s => if isH ρ i = true then bnd (g ρ s) fun v s => bnd (f ρ s) fun k s => match k, DV.of (A := VA) v with
  | .str k, some n => if s.2.length < 1000 then some (.nx ρ, (s.1, kvPut s.2 k n)) else none
  | _, _ => none else none
def aSd (i : Nat) : Ea (S × KV VA) := fun ρ s => if isH ρ i = true ∧ s.2.length < 64 then some ((sortS (s.2.map (·.1))).map .str, s) else none
variable {X : Cx} {K : PySem.W.Frag} {hd : Nat → Addr → Prop} {p : Addr} {Z : Zk S} {W : List Nat} {f g : Ev (S × KV VA)} {e e2 : Expr} {x : Str} {px apos cpos pos pos' : Pos} {i : Nat}
theorem isH_at {B O : Bar} {H : Hp} {σ : L2.St} {ρ : Rho} (eo : Eo ⟨K, hdc hd p⟩ (Zdc (VA := VA) Z p) W B O H σ ρ) (h : isH ρ i = true) (hi : W.contains i = false) : σ[i]? = some (some (.ref p)) := by
  unfold isH at h
  split at h
  · rename_i e
    obtain ⟨v, h1, h2⟩ := eo.er.pl i _ (by simpa using hi) e
    simp only [Rep] at h2
    obtain ⟨a, rfl, ⟨n, e1, h3⟩ | ⟨e1, _⟩ | ho⟩ := h2
    · have : n = 1 := by
        have := e1
        simp at this
        omega
      subst this
      have h3 : a = p := by simpa [hdc] using h3
      rw [h1, h3]
    · cases e1
    · rcases ho with ⟨_, e1, _⟩ | ⟨_, e1, _⟩ | ⟨_, e1, _⟩ <;> cases e1
  · cases h
theorem ex_dg2 (hu : X.A.units + 1 < cLine) (hx : PE X (.Name x px) (tVar i)) (he : PE X e (tEx ⟨K, hdc hd p⟩ (Zdc (VA := VA) Z p) W f)) (hf : PE X e2 (tEx ⟨K, hdc hd p⟩ (Zdc (VA := VA) Z p) W g)) (m : M2 X (.Name x px) "get" apos e e2 cpos) (hi : W.contains i = false := by rfl) :
    PE X (.Call (.Attribute (.Name x px) "get" apos) [e, e2] [] cpos) (tEx ⟨K, hdc hd p⟩ (Zdc (VA := VA) Z p) W (cDg2 i f g)) :=
  imp_pe (pe_dget2 hu hx he hf m) fun σ H Q ⟨B, O, ρ, s, d, s', eo, hR, hF, q⟩ => by
    unfold cDg2 at hF
    split at hF
    · rename_i hh
      obtain ⟨k, s1, h1, hF⟩ := bnd_some hF
      obtain ⟨z, s2, h2, hF⟩ := bnd_some hF
      have hv := isH_at eo hh hi
      refine ⟨.ref p, hv, p, rfl, .inl ⟨_, .inl hR.2.1⟩, B, O, ρ, s, k, s1, eo, hR, h1, fun v1 H1 f1 r1 R1 => ?_⟩
      refine ⟨B, O, ρ, s1, z, s2, eo.fr f1, R1, h2, fun v2 H2 f2 r2 R2 => ?_⟩
      cases k with
      | str k =>
        cases hF
        have r1 := r1.fr f2 fun a z => .inl (eo.mb a z)
        simp only [Rep] at r1
        subst r1
        refine ⟨_, DGet.k (k := Sum.inr k) R2.2.1, ?_⟩
        rw [kv_get]
        cases hk : kvGet s'.2 k with
        | none =>
          rw [hk] at q
          exact q _ H2 (f1.trans f2) r2 R2
        | some n =>
          rw [hk] at q
          exact q _ H2 (f1.trans f2) (DV.rep _ _ _ n) R2
      | _ => cases hF
    · cases hF
theorem ex_di (hu : X.A.units + 1 < cLine) (hx : PE X (.Name x px) (tVar i)) (he : PE X e (tEx ⟨K, hdc hd p⟩ (Zdc (VA := VA) Z p) W f)) (hs : NoSl e) (hi : W.contains i = false := by rfl) :
    PE X (.Subscript (.Name x px) e pos) (tEx ⟨K, hdc hd p⟩ (Zdc (VA := VA) Z p) W (cDi i f)) :=
  imp_pe (pe_dget hu hx he hs) fun σ H Q ⟨B, O, ρ, s, d, s', eo, hR, hF, q⟩ => by
    unfold cDi at hF
    split at hF
    · rename_i hh
      obtain ⟨k, s1, h1, hF⟩ := bnd_some hF
      have hv := isH_at eo hh hi
      refine ⟨.ref p, hv, B, O, ρ, s, k, s1, eo, hR, h1, fun v1 H1 f1 r1 R1 => ?_⟩
      split at hF
      · rename_i k
        split at hF
        · rename_i n hn
          cases hF
          simp only [Rep] at r1
          subst r1
          have := DGet.k (k := Sum.inr k) R1.2.1
          rw [kv_get, hn] at this
          exact ⟨p, DV.v n, rfl, this, q _ H1 f1 (DV.rep _ _ _ n) R1⟩
        · cases hF
      · cases hF
    · cases hF
theorem nl_sortD (hc : X.calm = true) (hg : Gl X "sorted") (hm : X.mg "sorted" = none) (hx : PE X (.Name x px) (tVar i)) (hs : starEach [.Name x px] X.env = (false, eval (.Name x px) X.env) :: starEach [] X.env := by rfl) (hi : W.contains i = false := by rfl) :
    PE X (.Call (.Name "sorted" pos') [.Name x px] [] pos) (tNl ⟨K, hdc hd p⟩ (Zdc (VA := VA) Z p) W (aSd i)) :=
  imp_pe (pe_callB (call_sortedD hc) hg hm (by decide +kernel) (pa_cons hx pa_nil hs) (he := hs)) fun σ H Q ⟨B, O, ρ, s, l, s', eo, hR, hF, q⟩ => by
    unfold aSd at hF
    split at hF
    · rename_i hh
      cases hF
      have hv := isH_at eo hh.1 hi
      refine ⟨.ref p, hv, p, _, s.2.map (·.1), rfl, .inl hR.2.1, ?_, by rw [List.length_map]; exact hh.2, fun ys p2 hp hso np => ?_⟩
      · unfold kvV
        rw [List.map_map, List.map_map]
        rfl
      · have e := sortS_eq hp hso
        subst e
        exact q p2 _ _ np (Lc.Fr.new np) upd_same reps_strs ((Zdc (VA := VA) Z p).same hR (Lc.same_new np))
    · cases hF
theorem es_dput {value : Expr} (hu : X.A.units + 1 < cLine) (hx : PE X (.Name x px) (tVar i)) (he : PE X e (tEx ⟨K, hdc hd p⟩ (Zdc (VA := VA) Z p) W f)) (hv : PE X value (tEx ⟨K, hdc hd p⟩ (Zdc (VA := VA) Z p) W g)) (hs : swapsWith value (some (.Subscript (.Name x px) e pos')) pos.line X.env = pure false := by rfl) (hi : W.contains i = false := by rfl) :
    PS X (.Assign [.Subscript (.Name x px) e pos'] value pos) (tSt ⟨K, hdc hd p⟩ (Zdc (VA := VA) Z p) W (sDp i f g)) :=
  imp_ps (ps_dput hu hx he hv hs) fun E σ H ⟨B, H0, O, ρ, s, r, s', sr, hF, q⟩ => by
    unfold sDp at hF
    split at hF
    · rename_i hh
      obtain ⟨v, s1, h1, hF⟩ := bnd_some hF
      obtain ⟨k, s2, h2, hF⟩ := bnd_some hF
      refine ⟨B, O, ρ, s, v, s1, sr.eo, sr.r, h1, fun v1 H1 f1 r1 R1 => ?_⟩
      have eo1 := sr.eo.fr f1
      refine ⟨.ref p, isH_at eo1 hh hi, B, O, ρ, s1, k, s2, eo1, R1, h2, fun v2 H2 f2 r2 R2 => ?_⟩
      split at hF
      case _ k n hof =>
        split at hF
        · rename_i hl
          cases hF
          have r1 := r1.fr f2 fun a z => .inl (sr.eo.mb a z)
          have hv9 := DV.back _ _ hof
          subst hv9
          have r1 := DV.only _ _ _ _ _ r1
          simp only [Rep] at r2
          subst r1 r2
          refine ⟨p, _, rfl, DPut.k (k := Sum.inr _) R2.2.1 (by unfold kvV; rw [List.length_map]; exact Nat.lt_of_lt_of_le hl (by decide)), ?_⟩
          rw [kv_put]
          have f3 : Lc.Fr (Zdc (VA := VA) Z p).M H (upd H2 p (.dK (kvV (kvPut s2.2 k n)))) := (f1.trans f2).trans (Lc.Fr.mut (.inr rfl))
          have R3 : (Zdc (VA := VA) Z p).R (upd H2 p (.dK (kvV (kvPut s2.2 k n)))) (s2.1, kvPut s2.2 k n) := by
            refine ⟨Z.loc H2 _ s2.1 R2.1 fun a m => ?_, upd_same, R2.2.2⟩
            rw [upd_ne]
            intro z
            exact R2.2.2 (z ▸ m)
          exact q O σ _ (sr.step f3 R3) (Ch.of f3)
        · cases hF
      case _ => cases hF
    · cases hF
end
end Dg
set_option Elab.async false
set_option linter.all false
set_option maxRecDepth 100000
set_option maxHeartbeats 4000000
/-! a def's own dict: len, list; defs called beside it -/
namespace Dg
open PySem PySem.Spec PyProof.Rows L2 Ds Dl
section
variable {VA : Type} [DV VA] {S : Type}
def cDlen (i : Nat) : Ev (S × KV VA) := fun ρ s => if isH ρ i = true then some (.int s.2.length, s) else none
def aDk (i : Nat) : Ea (S × KV VA) := fun ρ s => if isH ρ i = true then some ((s.2.map (·.1)).map .str, s) else none
variable {X : Cx} {K : PySem.W.Frag} {hd : Nat → Addr → Prop} {p : Addr} {Z : Zk S} {W : List Nat} {x : Str} {px pos pos' : Pos} {i : Nat}
/-- a def that knows nothing of the dict, called beside it -/
def upK (F : Fn S) : Fn (S × KV VA) := fun ds s => if noHs ds = true then match F ds s.1 with
  | some (d, s') => if noH d = true then some (d, (s', s.2)) else none
  | none => none else none
variable {P : Program} {w : World} {mg : Str → Option Value} {base : Heap} {n k : Nat} {ps : List Str} {F : Fn S}
end
end Dg
set_option Elab.async false
set_option linter.all false
set_option maxRecDepth 100000
set_option maxHeartbeats 4000000
/-! list(d.items()), dict(list of pairs), x[i] = e of an own list, << -/
namespace Dl
open PySem PySem.Spec PyProof.Rows L2
section
variable {G : Kx} {B : Bar} {H : Hp}
end
section
variable {S : Type} {X : Cx} {G : Kx} {Z : Zk S} {W : List Nat} {f g : Ev S} {fk : Ek S} {a b c e tg : Expr} {es : List Expr} {st : Stmt} {pos p apos cpos : Pos} {x : Str}
theorem Reps.set {B : Bar} {H : Hp} : ∀ {ds : List D} {vs : List V} {j : Nat} {d : D} {v : V}, Reps G B H ds vs → Rep G B H d v → Reps G B H (ds.set j d) (vs.set j v)
  | [], _, j, d, v, h, hv => by simp only [Reps] at h; subst h; cases j <;> exact Reps.nil
  | a :: ds, vs, 0, d, v, h, hv => by
    simp only [Reps] at h
    obtain ⟨u, r, rfl, h1, h2⟩ := h
    exact Reps.cons hv h2
  | a :: ds, vs, j + 1, d, v, h, hv => by
    simp only [Reps] at h
    obtain ⟨u, r, rfl, h1, h2⟩ := h
    exact Reps.cons h1 (Reps.set h2 hv)
end
end Dl
set_option Elab.async false
set_option linter.all false
set_option maxRecDepth 100000
set_option maxHeartbeats 4000000
/-! dict(t) of a tuple of pairs -/
namespace Dl
open PySem PySem.Spec PyProof.Rows L2
/-- a tuple whose object has no dict -/
def PT (K : PySem.W.Frag) (H : Hp) (a : Addr) (vs : List V) : Prop := (∃ o : Obj, H a = some (.frz o (.tup vs)) ∧ o.dict = none) ∨ KT K a vs
theorem PT.sq {K : PySem.W.Frag} {H : Hp} {a : Addr} {vs : List V} (h : PT K H a vs) : SqT K H a vs := by
  rcases h with ⟨o, h, _⟩ | h
  · exact .inl (.inr ⟨o, h⟩)
  · exact h.sq
theorem PT.plain {X : Cx} {pins : List (Addr × Obj)} {σ : L2.St} {H : Hp} {s : Shared} {a : Addr} {vs : List V} (I : Inv X pins σ H s) (h : PT X.K H a vs) : ∃ its : List Value, Vals vs its ∧ PlainSeq "tuple" s.heap a its.toArray ∧ vs.length ≤ sizeLine := by
  rcases h with ⟨o, h, hd⟩ | ⟨o, its, n, hk, hc, hs, hz, r, hd⟩
  · obtain ⟨e1, z, its, r, o2, e2, c2, n, d2⟩ := (show ObjOk X.prog X.w H s.heap a (.frz o (.tup vs)) from I.hok a _ h)
    rw [e1] at e2
    cases e2
    exact ⟨its, r, ⟨o, n, e1, c2, hd, d2⟩, z⟩
  · have := r.length
    refine ⟨its.toList, r, ⟨o, n, I.kIn a o hk, hc, hd, by simpa using hs⟩, ?_⟩
    simp only [Array.length_toList] at this
    omega
section
variable {S : Type} {X : Cx} {G : Kx} {Z : Zk S} {W : List Nat} {f : Ev S} {e : Expr} {pos p : Pos}
end
end Dl
set_option Elab.async false
set_option linter.all false
set_option maxRecDepth 100000
set_option maxHeartbeats 4000000
/-! sorted(d) of a dict whose keys are texts -/
namespace Dl
open PySem PySem.Spec PyProof.Rows L2
section
variable {S : Type} {X : Cx} {G : Kx} {Z : Zk S} {W : List Nat} {fk : Ek S} {e : Expr} {pos p : Pos}
end
end Dl
set_option Elab.async false
set_option linter.all false
set_option maxRecDepth 100000
set_option maxHeartbeats 4000000
namespace Lw42
open PySem PySem.Spec PyProof.Rows L2 Dl
-- sum_of: slots totals 0, times 1, number 2, parts 3, more 4, kind 5, often 6; cells times
def B_sum_of {S : Type} : Sv (S × KV) :=
    (sSeq (sSet 2 (cK (.int 0)))
    (sSeq (sFor (iOf asL (cVar 0)) (gTp (gC (gNm 3) (gC (gNm 4) gN0)))
    (sSeq (sAug 2 (pI0 fun i j => .int (i + j)) (cVar 4))
      (sFor (iOf asT (cVar 3)) (gTp (gC (gNm 5) (gC (gNm 6) gN0)))
      (sDp 1 (cVar 5) (cB pAdd (cDg2 1 (cVar 5) (cK (.int 0))) (cVar 6))))))
    (sRet (cN pTup (aCons (cN pTuple (aCons (cNl (lcF (iOf asL (cNl (aSd 1))) (gNm 5) qYes (cN pTup (aCons (cVar 5) (aCons (cDi 1 (cVar 5)) aNil))) [5])) aNil)) (aCons (cVar 2) aNil))))))
def K_sum_of {S : Type} : Fn S := fnDk 7 1 B_sum_of

-- so_often: slots total 0, often 1, parts 2, number 3, kind 4, times 5; cells often
def B_w_word {S : Type} (F_w_draw : Fn S) : Sv S :=
    (sSeq (sSet 3 (cK (.str "abcdefghijklmnopqrstuvwxyz")))
    (sSeq (sSet 4 (cK (.str "")))
    (sSeq (sFor (iOfA pR1 (aCons (cB pAdd (cVar 1) (cCall 2 F_w_draw (aCons (cVar 0) (aCons (cB pAdd (cB pSub (cVar 2) (cVar 1)) (cK (.int 1))) aNil)))) aNil)) (gNm 5)
    (sSet 4 (cB pAdd (cVar 4) (cB pIx (cVar 3) (cCall 2 F_w_draw (aCons (cVar 0) (aCons (cK (.int 26)) aNil)))))))
    (sRet (cVar 4)))))
def K_w_word {S : Type} (F_w_draw : Fn S) : Fn S := fnD 6 (B_w_word F_w_draw)

-- _law_kinds: slots _law_deck_here 0, _law_many 1, _law_taken 2, _law_kinds_here 3, _law_k 4, _law_word_here 5, _law_way 6, _law_at 7, _law_one 8, _law_sign 9; cells _law_kinds_here; own [3]
def B_w_kinds {S : Type} (F_w_word : Fn S) (F_w_draw : Fn S) : Sv S :=
    (sSeq (sSet 2 (cK (.str "absurd all an and any are as at be by false if is least many more no not only or same some than")))
    (sSeq (sSet 2 (cNl (aSplit (cB pAdd (cVar 2) (cK (.str " the then there every either unless"))) (cK (.str " ")))))
    (sSeq (sOwn 3 (aN lenOk aNil))
    (sSeq (sFor (iOfA pR1 (aCons (cVar 1) aNil)) (gNm 4)
    (sSeq (sSet 5 (cCall 3 F_w_word (aCons (cVar 0) (aCons (cK (.int 2)) (aCons (cK (.int 8)) aNil)))))
      (sSeq (sSet 6 (cCall 2 F_w_draw (aCons (cVar 0) (aCons (cK (.int 3)) aNil))))
      (sSeq (sIf (qAnd (qT (cB pEq (cVar 6) (cK (.int 1)))) (qT (cB pNe (cVar 3) (cN pLst aNil))))
      (sSet 5 (cFl (cSl pSl (cB pAdd (cB pIx (cVar 3) (cK (.int 0))) (cVar 5)) oNo (oOf (cK (.int 8))))))
      sNx)
      (sSeq (sIf (qAnd (qT (cB pEq (cVar 6) (cK (.int 2)))) (qT (cB pNe (cVar 3) (cN pLst aNil))))
      (sSeq (sSet 7 (cFl (cCall 2 F_w_draw (aCons (cVar 0) (aCons (cN pLen (aCons (cB pIx (cVar 3) (cK (.int 0))) aNil)) aNil)))))
        (sSet 5 (cFl (cB pAdd (cB pAdd (cSl pSl (cB pIx (cVar 3) (cK (.int 0))) oNo (oOf (cVar 7))) (cB pIx (cVar 5) (cK (.int 0)))) (cSl pSl (cB pIx (cVar 3) (cK (.int 0))) (oOf (cB pAdd (cVar 7) (cK (.int 1)))) oNo)))))
      sNx)
      (sSeq (sIf (qOr (qT (cB pIn (cVar 5) (cVar 2))) (qT (cB pIn (cVar 5) (cVar 3))))
      (sSet 5 (cFl (cB pIx (cNl (lcF (iOf asL (cNl (lcF (iOf asS (cK (.str "abcdefghijklmnopqrst"))) (gNm 9) qYes (cB pAdd (cK (.str "q")) (cVar 9)) [9]))) (gNm 8) (qT (cB pNotIn (cVar 8) (cVar 3))) (cVar 8) [8])) (cK (.int 0)))))
      sNx)
      (sApp 3 (cVar 5))))))))
    (sRet (cVar 3))))))
def K_w_kinds {S : Type} (F_w_word : Fn S) (F_w_draw : Fn S) : Fn S := fnD 10 (B_w_kinds F_w_word F_w_draw)

-- _law_names: slots _law_deck_here 0, _law_many 1, _law_names_here 2, _law_k 3, _law_name 4, _law_one 5; cells _law_names_here; own [2]
def B_w_names {S : Type} (F_w_draw : Fn S) (F_w_word : Fn S) : Sv S :=
    (sSeq (sOwn 2 (aN lenOk aNil))
    (sSeq (sFor (iOfA pR1 (aCons (cVar 1) aNil)) (gNm 3)
    (sSeq (sSet 4 (cB pAdd (cB pIx (cK (.str "ABCDEFGHIJKLMNOPQRSTUVWXYZ")) (cCall 2 F_w_draw (aCons (cVar 0) (aCons (cK (.int 26)) aNil)))) (cCall 3 F_w_word (aCons (cVar 0) (aCons (cK (.int 0)) (aCons (cK (.int 7)) aNil))))))
      (sSeq (sIf (qT (cB pIn (cVar 4) (cVar 2)))
      (sSet 4 (cFl (cB pIx (cNl (lcF (iOf asL (cN pLst (aCons (cK (.str "Qa")) (aCons (cK (.str "Qb")) (aCons (cK (.str "Qc")) (aCons (cK (.str "Qd")) (aCons (cK (.str "Qe")) (aCons (cK (.str "Qf")) (aCons (cK (.str "Qg")) aNil))))))))) (gNm 5) (qT (cB pNotIn (cVar 5) (cVar 2))) (cVar 5) [5])) (cK (.int 0)))))
      sNx)
      (sApp 2 (cVar 4)))))
    (sRet (cVar 2))))
def K_w_names {S : Type} (F_w_draw : Fn S) (F_w_word : Fn S) : Fn S := fnD 6 (B_w_names F_w_draw F_w_word)

-- _law_sum: slots _law_deck_here 0, _law_kinds_here 1, _law_great 2, _law_parts 3, _law_kind 4; own [3]
def B_w_sum {S : Type} (F_w_draw : Fn S) : Sv S :=
    (sSeq (sOwn 3 (aN lenOk aNil))
    (sSeq (sFor (iOf asL (cNl (aN pSorted (aCons (cVar 1) aNil)))) (gNm 4)
    (sIf (qT (cB pEq (cCall 2 F_w_draw (aCons (cVar 0) (aCons (cK (.int 2)) aNil))) (cK (.int 1))))
      (sApp 3 (cN pTup (aCons (cVar 4) (aCons (cB pAdd (cK (.int 1)) (cCall 2 F_w_draw (aCons (cVar 0) (aCons (cB pIx (cN pLst (aCons (cK (.int 3)) (aCons (cVar 2) aNil))) (cCall 2 F_w_draw (aCons (cVar 0) (aCons (cK (.int 2)) aNil)))) aNil)))) aNil))))
      sNx))
    (sRet (cN pTup (aCons (cN pTuple (aCons (cVar 3) aNil)) (aCons (cCall 2 F_w_draw (aCons (cVar 0) (aCons (cB pIx (cN pLst (aCons (cK (.int 4)) (aCons (cVar 2) aNil))) (cCall 2 F_w_draw (aCons (cVar 0) (aCons (cK (.int 2)) aNil)))) aNil))) aNil))))))
def K_w_sum {S : Type} (F_w_draw : Fn S) : Fn S := fnD 5 (B_w_sum F_w_draw)

-- _law_count: slots _law_total 0, _law_counts 1, _law_kind 2, _law_times 3; cells _law_counts
def B_w_due {S : Type} (F_w_over : Fn S) : Sv S :=
    (sSeq (sIf (qT (cB pNe (cNl (lcF (iOf asT (cB pAdd (cN pTup (aCons (cVar 0) aNil)) (cVar 1))) (gNm 5) (qT (cB pNe (cB pIx (cVar 5) (cK (.int 0))) (cK (.str "least")))) (cVar 5) [5])) (cN pLst aNil)))
    (sRet (cK (.bool false)))
    sNx)
    (sSeq (sSet 4 (cCall 4 F_w_over (aCons (cVar 0) (aCons (cVar 1) (aCons (cVar 2) (aCons (cNd kNew) aNil))))))
    (sSeq (sIf (qT (cB pLt (cVar 4) (cK (.int 0))))
    (sRet (cK (.bool false)))
    sNx)
    (sRet (cB pEq (cNl (lcF (iOf asL (cVar 3)) (gNm 6) (qT (cB pLt (cCall 4 F_w_over (aCons (cVar 0) (aCons (cVar 1) (aCons (cVar 2) (aCons (cNd (kDisp (kCons (cVar 6) (cK (.int 1)) kNil))) aNil))))) (cVar 4))) (cVar 6) [6])) (cN pLst aNil))))))
def K_w_due {S : Type} (F_w_over : Fn S) : Fn S := fnD 7 (B_w_due F_w_over)

-- _law_side: slots _law_parts 0, _law_number 1, _law_kind 2; cells _law_parts
def B_w_built {S : Type} (F_w_more : Fn S) (F_w_draw : Fn S) (F_w_side : Fn S) : Sv S :=
    (sSeq (sSet 4 (cN pSum (aCons (cNl (lcF (iOfA pR1 (aCons (cN pLen (aCons (cVar 2) aNil)) aNil)) (gNm 11) qYes (cB pMul (cB pIx (cVar 3) (cVar 11)) (cCall 2 F_w_more (aCons (cB pIx (cVar 2) (cVar 11)) (aCons (cNd kNew) aNil)))) [11])) aNil)))
    (sSeq (sOwnD 5 kNew)
    (sSeq (sOwnD 6 kNew)
    (sSeq (sFor (iOf asL (cVar 1)) (gNm 7)
    (sSeq (sSet 8 (cB pSub (cN pSum (aCons (cNl (lcF (iOfA pR1 (aCons (cN pLen (aCons (cVar 2) aNil)) aNil)) (gNm 11) qYes (cB pMul (cB pIx (cVar 3) (cVar 11)) (cCall 2 F_w_more (aCons (cB pIx (cVar 2) (cVar 11)) (aCons (cNd (kDisp (kCons (cVar 7) (cK (.int 1)) kNil))) aNil)))) [11])) aNil)) (cVar 4)))
      (sSeq (sSet 9 (cB pIx (cN pLst (aCons (cK (.int 0)) (aCons (cK (.int 1)) (aCons (cK (.int 5)) aNil)))) (cCall 2 F_w_draw (aCons (cVar 0) (aCons (cK (.int 3)) aNil)))))
      (sSeq (sPutO 5 (cVar 7) (cB pAdd (cN pMax2 (aCons (cK (.int 0)) (aCons (cVar 8) aNil))) (cVar 9)))
      (sSeq (sPutO 6 (cVar 7) (cB pAdd (cN pMax2 (aCons (cK (.int 0)) (aCons (cB pSub (cK (.int 0)) (cVar 8)) aNil))) (cVar 9)))
      (sIf (qT (cB pEq (cCall 2 F_w_draw (aCons (cVar 0) (aCons (cK (.int 4)) aNil))) (cK (.int 1))))
      (sPutO 5 (cVar 7) (cB pAdd (cB pAdd (cDx (kOwn 5) (cVar 7)) (cK (.int 1))) (cCall 2 F_w_draw (aCons (cVar 0) (aCons (cK (.int 3)) aNil)))))
      sNx))))))
    (sSeq (sSet 9 (cB pIx (cN pLst (aCons (cK (.int 0)) (aCons (cK (.int 1)) (aCons (cK (.int 7)) aNil)))) (cCall 2 F_w_draw (aCons (cVar 0) (aCons (cK (.int 3)) aNil)))))
    (sSeq (sSet 10 (cB pAdd (cB pAdd (cN pMax2 (aCons (cK (.int 0)) (aCons (cVar 4) aNil))) (cVar 9)) (cB pIx (cN pLst (aCons (cK (.int 0)) (aCons (cK (.int 0)) (aCons (cK (.int 2)) aNil)))) (cCall 2 F_w_draw (aCons (cVar 0) (aCons (cK (.int 3)) aNil))))))
    (sRet (cN pTup (aCons (cK (.str "least")) (aCons (cCall 2 F_w_side (aCons (cVar 5) (aCons (cVar 10) aNil))) (aCons (cCall 2 F_w_side (aCons (cVar 6) (aCons (cB pAdd (cN pMax2 (aCons (cK (.int 0)) (aCons (cB pSub (cK (.int 0)) (cVar 4)) aNil))) (cVar 9)) aNil))) aNil)))))))))))
def K_w_built {S : Type} (F_w_more : Fn S) (F_w_draw : Fn S) (F_w_side : Fn S) : Fn S := fnD 12 (B_w_built F_w_more F_w_draw F_w_side)

-- _law_bent_sum: slots _law_deck_here 0, _law_total 1, _law_kinds_here 2, _law_parts 3, _law_step 4, _law_at 5; own [3]
def B_w_bent {S : Type} (F_w_draw : Fn S) (F_w_bent_sum : Fn S) : Sv S :=
    (sSeq (sSet 3 (cCall 2 F_w_draw (aCons (cVar 0) (aCons (cK (.int 5)) aNil))))
    (sSeq (sIf (qT (cB pLt (cVar 3) (cK (.int 2))))
    (sRet (cN pTup (aCons (cK (.str "least")) (aCons (cCall 3 F_w_bent_sum (aCons (cVar 0) (aCons (cB pIx (cVar 1) (cK (.int 1))) (aCons (cVar 2) aNil)))) (aCons (cB pIx (cVar 1) (cK (.int 2))) aNil)))))
    sNx)
    (sSeq (sIf (qT (cB pLt (cVar 3) (cK (.int 4))))
    (sRet (cN pTup (aCons (cK (.str "least")) (aCons (cB pIx (cVar 1) (cK (.int 1))) (aCons (cCall 3 F_w_bent_sum (aCons (cVar 0) (aCons (cB pIx (cVar 1) (cK (.int 2))) (aCons (cVar 2) aNil)))) aNil)))))
    sNx)
    (sRet (cN pTup (aCons (cK (.str "least")) (aCons (cB pIx (cVar 1) (cK (.int 2))) (aCons (cB pIx (cVar 1) (cK (.int 1))) aNil))))))))
def K_w_bent {S : Type} (F_w_draw : Fn S) (F_w_bent_sum : Fn S) : Fn S := fnD 4 (B_w_bent F_w_draw F_w_bent_sum)

-- _law_told: slots _law_form 0, _law_forms 1, _law_times 2, _law_due_here 3, _law_found 4
def B_w_told {S : Type} (F_summed : Fn S) : Sv S :=
    (sSeq (sSet 4 (cCall 3 F_summed (aCons (cVar 0) (aCons (cVar 1) (aCons (cVar 2) aNil)))))
    (sRet (cAnd (cU (pIsi "bool") (cVar 4)) (cB pEq (cVar 4) (cVar 3)))))
def K_w_told {S : Type} (F_summed : Fn S) : Fn S := fnD 5 (B_w_told F_summed)

end Lw42
set_option Elab.async false
set_option linter.all false
set_option maxRecDepth 100000
set_option maxHeartbeats 4000000
namespace Lw41
open PySem PySem.Spec PyProof.Rows L2 Dl
-- sum_of: slots totals 0, times 1, number 2, parts 3, more 4, kind 5, often 6; cells times
def B_sum_of {S : Type} : Sv (S × KV) :=
    (sSeq (sSet 2 (cK (.int 0)))
    (sSeq (sFor (iOf asT (cVar 0)) (gTp (gC (gNm 3) (gC (gNm 4) gN0)))
    (sSeq (sAug 2 (pI0 fun i j => .int (i + j)) (cVar 4))
      (sFor (iOf asT (cVar 3)) (gTp (gC (gNm 5) (gC (gNm 6) gN0)))
      (sDp 1 (cVar 5) (cB pAdd (cDg2 1 (cVar 5) (cK (.int 0))) (cVar 6))))))
    (sRet (cN pTup (aCons (cN pTuple (aCons (cNl (lcF (iOf asL (cNl (aSd 1))) (gNm 5) qYes (cN pTup (aCons (cVar 5) (aCons (cDi 1 (cVar 5)) aNil))) [5])) aNil)) (aCons (cVar 2) aNil))))))
def K_sum_of {S : Type} : Fn S := fnDk 7 1 B_sum_of

-- _law_word: slots _law_deck_here 0, _law_least 1, _law_most 2, _law_letters 3, _law_word_here 4, _law_k 5
def B_w_word {S : Type} (F_w_draw : Fn S) : Sv S :=
    (sSeq (sSet 3 (cK (.str "abcdefghijklmnopqrstuvwxyz")))
    (sSeq (sSet 4 (cK (.str "")))
    (sSeq (sFor (iOfA pR1 (aCons (cB pAdd (cVar 1) (cCall 2 F_w_draw (aCons (cVar 0) (aCons (cB pAdd (cB pSub (cVar 2) (cVar 1)) (cK (.int 1))) aNil)))) aNil)) (gNm 5)
    (sSet 4 (cB pAdd (cVar 4) (cB pIx (cVar 3) (cCall 2 F_w_draw (aCons (cVar 0) (aCons (cK (.int 26)) aNil)))))))
    (sRet (cVar 4)))))
def K_w_word {S : Type} (F_w_draw : Fn S) : Fn S := fnD 6 (B_w_word F_w_draw)

-- _law_kinds: slots _law_deck_here 0, _law_many 1, _law_taken 2, _law_kinds_here 3, _law_k 4, _law_word_here 5, _law_way 6, _law_at 7, _law_one 8, _law_sign 9; cells _law_kinds_here; own [3]
def B_w_kinds {S : Type} (F_w_word : Fn S) (F_w_draw : Fn S) : Sv S :=
    (sSeq (sSet 2 (cK (.str "absurd all an and any are as at be by false if is least many more no not only or same some than")))
    (sSeq (sSet 2 (cNl (aSplit (cB pAdd (cVar 2) (cK (.str " the then there every either unless"))) (cK (.str " ")))))
    (sSeq (sOwn 3 (aN lenOk aNil))
    (sSeq (sFor (iOfA pR1 (aCons (cVar 1) aNil)) (gNm 4)
    (sSeq (sSet 5 (cCall 3 F_w_word (aCons (cVar 0) (aCons (cK (.int 2)) (aCons (cK (.int 8)) aNil)))))
      (sSeq (sSet 6 (cCall 2 F_w_draw (aCons (cVar 0) (aCons (cK (.int 3)) aNil))))
      (sSeq (sIf (qAnd (qT (cB pEq (cVar 6) (cK (.int 1)))) (qT (cB pNe (cVar 3) (cN pLst aNil))))
      (sSet 5 (cFl (cSl pSl (cB pAdd (cB pIx (cVar 3) (cK (.int 0))) (cVar 5)) oNo (oOf (cK (.int 8))))))
      sNx)
      (sSeq (sIf (qAnd (qT (cB pEq (cVar 6) (cK (.int 2)))) (qT (cB pNe (cVar 3) (cN pLst aNil))))
      (sSeq (sSet 7 (cFl (cCall 2 F_w_draw (aCons (cVar 0) (aCons (cN pLen (aCons (cB pIx (cVar 3) (cK (.int 0))) aNil)) aNil)))))
        (sSet 5 (cFl (cB pAdd (cB pAdd (cSl pSl (cB pIx (cVar 3) (cK (.int 0))) oNo (oOf (cVar 7))) (cB pIx (cVar 5) (cK (.int 0)))) (cSl pSl (cB pIx (cVar 3) (cK (.int 0))) (oOf (cB pAdd (cVar 7) (cK (.int 1)))) oNo)))))
      sNx)
      (sSeq (sIf (qOr (qT (cB pIn (cVar 5) (cVar 2))) (qT (cB pIn (cVar 5) (cVar 3))))
      (sSet 5 (cFl (cB pIx (cNl (lcF (iOf asL (cNl (lcF (iOf asS (cK (.str "abcdefghijklmnopqrst"))) (gNm 9) qYes (cB pAdd (cK (.str "q")) (cVar 9)) [9]))) (gNm 8) (qT (cB pNotIn (cVar 8) (cVar 3))) (cVar 8) [8])) (cK (.int 0)))))
      sNx)
      (sApp 3 (cVar 5))))))))
    (sRet (cVar 3))))))
def K_w_kinds {S : Type} (F_w_word : Fn S) (F_w_draw : Fn S) : Fn S := fnD 10 (B_w_kinds F_w_word F_w_draw)

-- _law_times: slots _law_deck_here 0
def B_w_times {S : Type} (F_w_draw : Fn S) : Sv S :=
    (sRet (cB pAdd (cK (.int 1)) (cCall 2 F_w_draw (aCons (cVar 0) (aCons (cB pIx (cN pLst (aCons (cK (.int 3)) (aCons (cB pPow (cK (.int 10)) (cK (.int 8))) aNil))) (cCall 2 F_w_draw (aCons (cVar 0) (aCons (cK (.int 2)) aNil)))) aNil)))))
def K_w_times {S : Type} (F_w_draw : Fn S) : Fn S := fnD 1 (B_w_times F_w_draw)

-- _law_sum: slots _law_deck_here 0, _law_kinds_here 1, _law_parts 2, _law_kind 3; own [2]
def B_w_sum {S : Type} (F_w_draw : Fn S) (F_w_times : Fn S) : Sv S :=
    (sSeq (sOwn 2 (aN lenOk aNil))
    (sSeq (sFor (iOf asL (cNl (aN pSorted (aCons (cVar 1) aNil)))) (gNm 3)
    (sIf (qT (cB pEq (cCall 2 F_w_draw (aCons (cVar 0) (aCons (cK (.int 2)) aNil))) (cK (.int 1))))
      (sApp 2 (cN pTup (aCons (cVar 3) (aCons (cCall 1 F_w_times (aCons (cVar 0) aNil)) aNil))))
      sNx))
    (sRet (cN pTup (aCons (cN pTuple (aCons (cVar 2) aNil)) (aCons (cCall 2 F_w_draw (aCons (cVar 0) (aCons (cB pIx (cN pLst (aCons (cK (.int 4)) (aCons (cB pPow (cK (.int 10)) (cK (.int 8))) aNil))) (cCall 2 F_w_draw (aCons (cVar 0) (aCons (cK (.int 2)) aNil)))) aNil))) aNil))))))
def K_w_sum {S : Type} (F_w_draw : Fn S) (F_w_times : Fn S) : Fn S := fnD 4 (B_w_sum F_w_draw F_w_times)

-- _law_whole: slots _law_found 0
def B_w_whole {S : Type}  : Sv S :=
    (sRet (cAnd (cU (pIsi "int") (cVar 0)) (cNot (cU (pIsi "bool") (cVar 0)))))
def K_w_whole {S : Type}  : Fn S := fnD 1 (B_w_whole )

-- _law_is_sum: slots _law_found 0, _law_part 1, _law_kind 2, _law_times_here 3
def B_w_of {S : Type}  : Sv S :=
    (sRet (cN pSum (aCons (cNl (lcF (iOf asT (cB pIx (cVar 0) (cK (.int 0)))) (gTp (gC (gNm 2) (gC (gNm 3) gN0))) (qT (cB pEq (cVar 2) (cVar 1))) (cVar 3) [2, 3])) aNil)))
def K_w_of {S : Type}  : Fn S := fnD 4 (B_w_of )

-- _law_right: slots _law_found 0, _law_totals 1, _law_kinds_here 2, _law_kind 3, _law_total 4, _law_part 5; cells _law_kind, _law_kinds_here
def B_w_right {S : Type} (F_w_is_sum : Fn S) (F_w_of : Fn S) : Sv S :=
    (sSeq (sIf (qOr (qNot (qT (cCall 1 F_w_is_sum (aCons (cVar 0) aNil)))) (qT (cB pNe (cB pIx (cVar 0) (cK (.int 1))) (cN pSum (aCons (cNl (lcF (iOf asT (cVar 1)) (gNm 4) qYes (cB pIx (cVar 4) (cK (.int 1))) [4])) aNil)))))
    (sRet (cK (.bool false)))
    sNx)
    (sSeq (sIf (qT (cB pNe (cNl (lcF (iOf asT (cB pIx (cVar 0) (cK (.int 0)))) (gNm 5) (qOr (qT (cB pLt (cB pIx (cVar 5) (cK (.int 1))) (cK (.int 1)))) (qT (cB pNotIn (cB pIx (cVar 5) (cK (.int 0))) (cVar 2)))) (cVar 5) [5])) (cN pLst aNil)))
    (sRet (cK (.bool false)))
    sNx)
    (sSeq (sFor (iOf asL (cVar 2)) (gNm 3)
    (sIf (qT (cB pNe (cCall 2 F_w_of (aCons (cVar 0) (aCons (cVar 3) aNil))) (cN pSum (aCons (cNl (lcF (iOf asT (cVar 1)) (gNm 4) qYes (cCall 2 F_w_of (aCons (cVar 4) (aCons (cVar 3) aNil))) [4])) aNil))))
      (sRet (cK (.bool false)))
      sNx))
    (sRet (cK (.bool true))))))
def K_w_right {S : Type} (F_w_is_sum : Fn S) (F_w_of : Fn S) : Fn S := fnD 6 (B_w_right F_w_is_sum F_w_of)

end Lw41
set_option Elab.async false
set_option linter.all false
set_option maxRecDepth 100000
set_option maxHeartbeats 1000000
/-! sums of kinds and times: what a dict holds after them, and in which form they are told -/
namespace Lw41
open PySem PySem.Spec L2 Dl Mx Ds Lw01
abbrev Pt := Str × Int
abbrev Tot := List Pt × Int
def ptD (p : Pt) : D := .tuple [.str p.1, .int p.2]
def totD (t : Tot) : D := .tuple [.tuple (t.1.map ptD), .int t.2]
def add (m : KV) (p : Pt) : KV := kvPut m p.1 ((kvGet m p.1).getD 0 + p.2)
def cntP (ps : List Pt) (k : Str) : Int := ((ps.filter fun p => decide (p.1 = k)).map (·.2)).sum
def sumT (ps : List Pt) (n : Int) : Tot := ((sortS (gath (ps.map (·.1)))).map fun k => (k, cntP ps k), n)
def sumOf (ts : List Tot) : Tot := sumT (ts.flatMap (·.1)) ((ts.map (·.2)).sum)
theorem sort_cg {a b : List Str} (h : a.Perm b) : sortS a = sortS b := pw_unique (le := leS) (fun a b => leS_anti) (((sortS_perm a).trans h).trans (sortS_perm b).symm) (sortS_pw a) (sortS_pw b)
theorem sort_set {a b : List Str} (ha : a.Nodup) (hb : b.Nodup) (h : ∀ x, x ∈ a ↔ x ∈ b) : sortS a = sortS b := sort_cg (perm_nd a b ha hb h)
theorem sort_mem {a : List Str} {x : Str} : x ∈ sortS a ↔ x ∈ a := (sortS_perm a).mem_iff
theorem sort_nd {a : List Str} (h : a.Nodup) : (sortS a).Nodup := (sortS_perm a).nodup_iff.mpr h
theorem get_cons (a : Str) (n : Int) (m : KV) (k : Str) : kvGet ((a, n) :: m) k = if a = k then some n else kvGet m k := by
  unfold kvGet
  by_cases e : a = k
  · simp [e]
  · simp [e]
theorem get_some : ∀ (m : KV) (k : Str), k ∈ m.map (·.1) → ∃ n, kvGet m k = some n
  | [], k, h => by simp at h
  | (a, n) :: m, k, h => by
    rw [get_cons]
    by_cases e : a = k
    · exact ⟨n, if_pos e⟩
    · rw [if_neg e]
      refine get_some m k ?_
      rcases List.mem_cons.mp (by simpa using h : k ∈ a :: m.map (·.1)) with z | z
      · exact (e z.symm).elim
      · exact z
theorem any_key (m : KV) (a : Str) : (m.any fun p => decide (p.1 = a)) = decide (a ∈ m.map (·.1)) := by
  rw [Bool.eq_iff_iff, List.any_eq_true, decide_eq_true_eq, List.mem_map]
  constructor
  · rintro ⟨p, h1, h2⟩
    exact ⟨p, h1, of_decide_eq_true h2⟩
  · rintro ⟨p, h1, h2⟩
    exact ⟨p, h1, decide_eq_true h2⟩
theorem get_mapP (a : Str) (v : Int) (k : Str) : ∀ m : KV, a ∈ m.map (·.1) → kvGet (m.map fun p => if p.1 = a then (p.1, v) else p) k = if a = k then some v else kvGet m k
  | [], h => by simp at h
  | (b, n) :: m, h => by
    rw [List.map_cons]
    by_cases e : b = a
    · subst e
      simp only [if_true]
      rw [get_cons, get_cons]
      by_cases e2 : b = k
      · rw [if_pos e2, if_pos e2]
      · rw [if_neg e2, if_neg e2, if_neg e2]
        by_cases hm : b ∈ m.map (·.1)
        · rw [get_mapP b v k m hm, if_neg e2]
        · congr 1
          refine (List.map_congr_left fun p hp => ?_).trans (List.map_id' m)
          exact if_neg fun z => hm (List.mem_map.mpr ⟨p, hp, z⟩)
    · simp only [e, if_false]
      rw [get_cons, get_cons]
      have hm : a ∈ m.map (·.1) := by
        rcases List.mem_cons.mp (by simpa using h : a ∈ b :: m.map (·.1)) with z | z
        · exact (e z.symm).elim
        · exact z
      rw [get_mapP a v k m hm]
      by_cases e2 : b = k
      · subst e2
        rw [if_pos rfl, if_neg (fun z => e z.symm)]
        simp
      · rw [if_neg e2, if_neg e2]
theorem get_snoc (a : Str) (v : Int) (k : Str) : ∀ m : KV, a ∉ m.map (·.1) → kvGet (m ++ [(a, v)]) k = if a = k then some v else kvGet m k
  | [], _ => by rw [List.nil_append, get_cons]
  | (b, n) :: m, h => by
    rw [List.cons_append, get_cons, get_cons, get_snoc a v k m fun z => h (by simp [z])]
    by_cases e2 : b = k
    · subst e2
      rw [if_pos rfl, if_neg (fun z => h (by simp [z]))]
      simp
    · rw [if_neg e2, if_neg e2]
theorem get_put (m : KV) (a k : Str) (v : Int) : kvGet (kvPut m a v) k = if a = k then some v else kvGet m k := by
  unfold kvPut
  rw [any_key]
  by_cases h : a ∈ m.map (·.1)
  · rw [decide_eq_true h, if_pos rfl, get_mapP a v k m h]
  · rw [decide_eq_false h, if_neg (by decide), get_snoc a v k m h]
theorem keys_put (m : KV) (a : Str) (v : Int) : (kvPut m a v).map (·.1) = if a ∈ m.map (·.1) then m.map (·.1) else m.map (·.1) ++ [a] := by
  unfold kvPut
  rw [any_key]
  by_cases h : a ∈ m.map (·.1)
  · rw [decide_eq_true h, if_pos rfl, if_pos h, List.map_map]
    refine List.map_congr_left fun p _ => ?_
    show (if p.1 = a then (p.1, v) else p).1 = p.1
    split <;> rfl
  · rw [decide_eq_false h, if_neg (by decide), if_neg h, List.map_append]
    rfl
theorem cnt_cons (p : Pt) (ps : List Pt) (k : Str) : cntP (p :: ps) k = (if p.1 = k then p.2 else 0) + cntP ps k := by
  unfold cntP
  by_cases e : p.1 = k
  · simp [e]
  · simp [e]
theorem cnt_app (a b : List Pt) (k : Str) : cntP (a ++ b) k = cntP a k + cntP b k := by
  induction a with
  | nil => simp [cntP]
  | cons p a ih => rw [List.cons_append, cnt_cons, cnt_cons, ih]; omega
structure Had (m : KV) (ps : List Pt) : Prop where
  nd : (m.map (·.1)).Nodup
  mem : ∀ k, k ∈ m.map (·.1) ↔ k ∈ ps.map (·.1)
  get : ∀ k, (kvGet m k).getD 0 = cntP ps k
  len : m.length ≤ ps.length
theorem Had.nil : Had [] [] := ⟨List.nodup_nil, fun k => by simp, fun k => rfl, Nat.le_refl _⟩
theorem Had.add {m : KV} {ps : List Pt} (h : Had m ps) (p : Pt) : Had (add m p) (ps ++ [p]) := by
  have e : (Lw41.add m p).map (·.1) = if p.1 ∈ m.map (·.1) then m.map (·.1) else m.map (·.1) ++ [p.1] := keys_put _ _ _
  refine ⟨?_, fun k => ?_, fun k => ?_, ?_⟩
  · rw [e]
    split
    · exact h.nd
    · exact nodup_snoc h.nd (by assumption)
  · rw [e, List.map_append, List.mem_append]
    split
    · rename_i hp
      rw [h.mem k]
      constructor
      · exact .inl
      · rintro (z | z)
        · exact z
        · have z : k = p.1 := by simpa using z
          rw [z]
          exact (h.mem _).mp hp
    · rw [List.mem_append, h.mem k]
      simp
  · rw [cnt_app]
    unfold Lw41.add
    rw [get_put, cnt_cons, ← h.get k]
    by_cases e : p.1 = k
    · subst e
      rw [if_pos rfl, if_pos rfl]
      show _ + p.2 = _ + (p.2 + 0)
      omega
    · rw [if_neg e, if_neg e]
      show _ = _ + ((0 : Int) + 0)
      omega
  · have l := congrArg List.length e
    rw [List.length_map] at l
    have h0 := h.len
    rw [l, List.length_append]
    split
    · rw [List.length_map]
      omega
    · rw [List.length_append, List.length_map]
      show _ + 1 ≤ _ + 1
      omega
theorem Had.all {m : KV} {ps : List Pt} (h : Had m ps) (qs : List Pt) : Had (qs.foldl Lw41.add m) (ps ++ qs) := by
  induction qs generalizing m ps with
  | nil => rw [List.append_nil]; exact h
  | cons q qs ih =>
    have := ih (h.add q)
    rw [List.append_assoc] at this
    exact this
theorem Had.one {m : KV} {ps : List Pt} (h : Had m ps) {k : Str} (hk : k ∈ m.map (·.1)) : kvGet m k = some (cntP ps k) := by
  obtain ⟨n, e⟩ := get_some m k hk
  have := h.get k
  rw [e] at this ⊢
  exact congrArg some this
theorem Had.keys {m : KV} {ps : List Pt} (h : Had m ps) : sortS (m.map (·.1)) = sortS (gath (ps.map (·.1))) := sort_set h.nd (gath_nd _) fun x => by rw [h.mem x, gath_mem]
/-! ### the form of a sum -/
def Canon (t : Tot) : Prop := (t.1.map (·.1)).Pairwise fun a b => ltS a b = true
end Lw41
set_option Elab.async false
set_option linter.all false
set_option maxRecDepth 100000
set_option maxHeartbeats 1000000
namespace Lw41
open PySem PySem.Spec L2 Dl Mx Ds Lw01
section
variable {S : Type} {s : S}
theorem take_snoc {α : Type} {l : List α} {j : Nat} {x : α} (h : l[j]? = some x) : l.take (j + 1) = l.take j ++ [x] := by
  rw [List.take_add_one, h]
  rfl
end
end Lw41
set_option Elab.async false
set_option linter.all false
set_option maxRecDepth 100000
set_option maxHeartbeats 1000000
namespace Lw41
open PySem PySem.Spec L2 Dl Mx Ds Lw01
/-! ### what is drawn -/
theorem cut_from {l : List Nat} (k : Nat) : cutS (mk l) (some (k : Int)) none = mk (l.drop k) := by
  apply cpl_inj
  rw [mk_cps]
  unfold cutS
  rw [HT.sIx_none, HT.sIx_nat, mk_len, mk_cps]
  simp only
  by_cases h : k ≤ l.length
  · rw [Nat.min_eq_left h, List.take_of_length_le (by rw [List.length_drop]; exact Nat.le_refl _)]
  · rw [Nat.min_eq_right (by omega), List.drop_of_length_le (Nat.le_refl _), List.take_nil, List.drop_of_length_le (by omega)]
structure Wd (l : List Nat) : Prop where
  lo : 1 ≤ l.length
  hi : l.length ≤ 8
  sm : inAll l smS = true
theorem wd_ok {x : Str} (h : Wd x.cps.toList) : PyData.strOk x = true := by
  unfold PyData.strOk
  rw [Array.all_eq_true_iff_forall_mem]
  intro c hc
  exact decide_eq_true (in_ok (b := smS) (by decide +kernel) h.sm c (by simpa using hc))
theorem nd_sub : ∀ {a b : List Str}, a.Nodup → (∀ x ∈ a, x ∈ b) → a.length ≤ b.length
  | [], b, _, _ => Nat.zero_le _
  | x :: a, b, nd, h => by
    rw [List.nodup_cons] at nd
    have hx := h x List.mem_cons_self
    have := nd_sub (a := a) (b := b.erase x) nd.2 fun y hy => (List.mem_erase_of_ne (fun (e : y = x) => nd.1 (by rw [← e]; exact hy))).mpr (h y (List.mem_cons_of_mem _ hy))
    rw [List.length_erase_of_mem hx] at this
    have hp : 0 < b.length := List.length_pos_of_mem hx
    rw [List.length_cons]
    omega
section
variable {S : Type} {s : S}
theorem fl_ix0 {G : Ea S} {ρ : Rho} {x : Str} {r : List D} (h : G ρ s = some (.str x :: r, s)) : cFl (cB pIx (cNl G) (cK (.int 0))) ρ s = some (.str x, s) := by
  unfold cFl cB cNl
  rw [h]
  show bnd (put (pIx (.list (.str x :: r)) (.int 0)) s) _ = _
  rw [v_ix0L]
  rfl
end
structure Kds (xs : List Str) (n : Nat) : Prop where
  len : xs.length = n
  nd : xs.Nodup
  wd : ∀ x ∈ xs, Wd x.cps.toList
abbrev Fword : Fn DS := K_w_word Fdraw8
end Lw41
set_option Elab.async false
set_option linter.all false
set_option maxRecDepth 100000
set_option maxHeartbeats 1000000
namespace Lw41
open PySem PySem.Spec L2 Dl Mx Ds Lw01
abbrev Ftimes : Fn DS := K_w_times Fdraw8
abbrev Fsum : Fn DS := K_w_sum Fdraw8 Ftimes
theorem pow8 : pPow (.int 10) (.int 8) = some (.int 100000000) := rfl
theorem ix_two {a b r : Int} (h0 : 0 ≤ r) (h1 : r < 2) : ∃ z, (z = a ∨ z = b) ∧ pIx (.list [.int a, .int b]) (.int r) = some (.int z) := by
  by_cases h : r = 0
  · subst h
    exact ⟨a, .inl rfl, v_ix0L⟩
  · have : r = 1 := by omega
    subst this
    exact ⟨b, .inr rfl, by simp only [pIx]; exact atI_nat (j := 1) rfl⟩
theorem ok_times {s : DS} {Q : D → DS → Prop} (q : ∀ (n : Int) s', 1 ≤ n → Q (.int n) s') : Ok (K_w_times Fdraw8 [hnd 0] s) Q := by
  unfold K_w_times B_w_times
  refine k_fn (k_ret ?_)
  simp_arith [pow8]
  refine k_draw8 (by omega) (by omega) fun r s1 r0 r1 => ?_
  obtain ⟨z, hz, e⟩ := ix_two (a := 3) (b := 100000000) r0 r1
  rw [e]
  walk_at "E"
  refine k_draw8 (by omega) (by omega) fun t s2 t0 t1 => ?_
  exact ⟨_, rfl, q _ _ (by omega)⟩
/-- a sum as it is drawn -/
structure Sm (xs : List Str) (t : Tot) : Prop where
  canon : Canon t
  sub : ∀ p ∈ t.1, p.1 ∈ xs
  pos : ∀ p ∈ t.1, 1 ≤ p.2
  len : t.1.length ≤ 6
theorem ok_sum {s : DS} {xs : List Str} (hk : Kds xs 6) {Q : D → DS → Prop} (q : ∀ t s', Sm xs t → Q (totD t) s') : Ok (K_w_sum Fdraw8 Ftimes [hnd 0, .list (xs.map .str)] s) Q := by
  unfold K_w_sum B_w_sum
  refine k_fn (k_seq (k_own ?_))
  walk_at "E"
  refine k_seq (k_forP (fun ds s' => ds = (sortS xs).map .str) ?_ ?_)
  · walk_at "E"
    rw [v_sorted (by rw [hk.len]; omega)]
    walk_at "E"
  · rintro ds s1 rfl
    refine ⟨fun j ρ _ => ∃ (ps : List Pt) (o : Option D), ρ = [some (hnd 0), some (.list (xs.map .str)), some (.list (ps.map ptD)), o] ∧ (ps.map (·.1)).Sublist ((sortS xs).take j) ∧ ∀ p ∈ ps, 1 ≤ p.2, ⟨[], none, rfl, by simp, by simp⟩, ?_, ?_⟩
    · rintro j d ρ s2 hd ⟨ps, o, rfl, hs, hp⟩
      rw [List.getElem?_map, Option.map_eq_some_iff] at hd
      obtain ⟨k, hk1, rfl⟩ := hd
      refine ⟨_, rfl, ?_⟩
      have htk := take_snoc hk1
      have hlen := hs.length_le
      rw [List.length_map, List.length_take, (sortS_perm _).length_eq, hk.len] at hlen
      refine k_sIf ?_
      walk_at "E"
      refine k_draw8 (by omega) (by omega) fun r s3 r0 r1 => ?_
      walk_at "E"
      by_cases hr : r = 1
      · rw [decide_eq_true hr]
        walk_at "E"
        refine k_app (ds := ps.map ptD) rfl (by rw [List.length_map]; exact szl (by omega)) ?_
        walk_at "E"
        refine ok_times fun n s4 hn => ?_
        refine ⟨ps ++ [(k, n)], some (.str k), ?_, ?_, ?_⟩
        · rw [List.map_append]
          rfl
        · rw [htk, List.map_append]
          exact hs.append (List.Sublist.refl _)
        · intro p hp2
          rcases List.mem_append.mp hp2 with hp2 | hp2
          · exact hp p hp2
          · rw [List.mem_singleton.mp hp2]
            exact hn
      · rw [decide_eq_false hr]
        walk_at "E"
        refine k_nx ⟨ps, some (.str k), rfl, ?_, hp⟩
        rw [htk]
        exact hs.trans (List.sublist_append_left _ _)
    · rintro ρ s2 ⟨ps, o, rfl, hs, hp⟩
      rw [List.length_map, List.take_length] at hs
      refine k_ret ?_
      simp_arith [pow8]
      refine k_draw8 (by omega) (by omega) fun r s3 r0 r1 => ?_
      obtain ⟨z, hz, e⟩ := ix_two (a := 4) (b := 100000000) r0 r1
      rw [e]
      walk_at "E"
      refine k_draw8 (by omega) (by omega) fun t s4 t0 t1 => ?_
      refine q (ps, t) _ ⟨?_, fun p hp2 => ?_, hp, ?_⟩
      · exact (pw_le_lt (sortS_pw xs) (sort_nd hk.nd)).sublist hs
      · exact sort_mem.mp (hs.subset (List.mem_map.mpr ⟨p, hp2, rfl⟩))
      · have := hs.length_le
        rw [List.length_map, (sortS_perm _).length_eq, hk.len] at this
        exact this
/-! ### equality of sums as data -/
end Lw41
set_option Elab.async false
set_option linter.all false
set_option maxRecDepth 100000
set_option maxHeartbeats 1000000
namespace Lw41
open PySem PySem.Spec L2 Dl Mx Ds Lw01
section
variable {S : Type} {s : S}
theorem ints_map : ∀ ns : List Int, dInts (ns.map .int) = some ns
  | [] => rfl
  | n :: ns => by
    show (dInts (ns.map PyData.int)).map (n :: ·) = _
    rw [ints_map ns]
    rfl
theorem v_sum (ns : List Int) : pSum [.list (ns.map .int)] = some (.int ns.sum) := by
  show (dInts (ns.map PyData.int)).map (fun ns => PyData.int ns.sum) = _
  rw [ints_map]
  rfl
theorem of_eq {t : Tot} {k : Str} (hl : t.1.length ≤ 1000) : K_w_of [totD t, .str k] s = some (.int (cntP t.1 k), s) := by
  refine ok_eq ?_
  unfold K_w_of B_w_of
  refine k_fn (k_ret ?_)
  have h := k_keep (S := S) (ds := t.1.map ptD) (q := qT (cB pEq (cVar 2) (cVar 1))) (f := cVar 3) (fi := iOf asT (cB pIx (cVar 0) (cK (.int 0)))) (t := gTp (gC (gNm 2) (gC (gNm 3) gN0))) (vs := [2, 3]) (ρ := [some (totD t), some (.str k), none, none]) (s := s) (fun d => match d with | .tuple [.str a, _] => decide (a = k) | _ => false) (fun d => match d with | .tuple [_, n] => n | _ => .none) (by rw [List.length_map]; exact szL (by omega)) rfl (fun d hd => by
    obtain ⟨p, hp, rfl⟩ := List.mem_map.mp hd
    exact ⟨_, rfl, rfl, fun _ => rfl⟩)
  have e : ((t.1.map ptD).filter (fun d => match d with | .tuple [.str a, _] => decide (a = k) | _ => false)).map (fun d => match d with | .tuple [_, n] => n | _ => .none) = ((t.1.filter fun p => decide (p.1 = k)).map (·.2)).map PyData.int := by
    rw [List.filter_map, List.map_map, List.map_map]
    rfl
  rw [e] at h
  walk_at "E"
  refine ⟨_, _, h, ?_⟩
  exact ⟨_, v_sum _, rfl, rfl⟩
theorem whole_eq {n : Int} : K_w_whole [.int n] s = some (.bool true, s) := rfl
theorem kinds_eq {t : Tot} (hl : t.1.length ≤ 1000) {a b c : Option D} : lcF (S := S) (iOf asT (cB pIx (cVar 0) (cK (.int 0)))) (gTp (gC (gNm 2) (gC (gNm 3) gN0))) qYes (cVar 2) [2, 3] [some (totD t), a, b, c] s = some ((t.1.map (·.1)).map .str, s) := by
  have h := k_keep (S := S) (ds := t.1.map ptD) (q := qYes) (f := cVar 2) (fi := iOf asT (cB pIx (cVar 0) (cK (.int 0)))) (t := gTp (gC (gNm 2) (gC (gNm 3) gN0))) (vs := [2, 3]) (ρ := [some (totD t), a, b, c]) (s := s) (fun _ => true) (fun d => match d with | .tuple [a, _] => a | _ => .none) (by rw [List.length_map]; exact szL (by omega)) rfl (fun d hd => by
    obtain ⟨p, hp, rfl⟩ := List.mem_map.mp hd
    exact ⟨_, rfl, rfl, fun _ => rfl⟩)
  rw [h, List.filter_eq_self.mpr (fun _ _ => rfl), List.map_map, List.map_map]
  rfl
theorem cnt_pos : ∀ {ps : List Pt}, (∀ p ∈ ps, 1 ≤ p.2) → ∀ k, 0 ≤ cntP ps k ∧ (k ∈ ps.map (·.1) → 1 ≤ cntP ps k)
  | [], _, k => ⟨Int.le_refl _, fun h => by simp at h⟩
  | p :: ps, h, k => by
    have ih := cnt_pos (ps := ps) (fun q hq => h q (List.mem_cons_of_mem _ hq)) k
    have hp := h p List.mem_cons_self
    rw [cnt_cons]
    by_cases e : p.1 = k
    · rw [if_pos e]
      exact ⟨by omega, fun _ => by omega⟩
    · rw [if_neg e]
      refine ⟨by omega, fun hm => ?_⟩
      have : k ∈ ps.map (·.1) := by
        rcases List.mem_cons.mp (by simpa using hm : k ∈ p.1 :: ps.map (·.1)) with z | z
        · exact (e z.symm).elim
        · exact z
      have := ih.2 this
      omega
structure Sms (xs : List Str) (ts : List Tot) : Prop where
  ks : Kds xs 6
  sm : ∀ t ∈ ts, Sm xs t
  few : ts.length ≤ 9
theorem flat_len : ∀ {ts : List Tot}, (∀ t ∈ ts, t.1.length ≤ 6) → (ts.flatMap (·.1)).length ≤ 6 * ts.length
  | [], _ => Nat.le_refl _
  | t :: ts, h => by
    have ih := flat_len (ts := ts) fun x hx => h x (List.mem_cons_of_mem _ hx)
    have h0 := h t List.mem_cons_self
    rw [List.flatMap_cons, List.length_append, List.length_cons]
    omega
theorem Sms.len {xs : List Str} {ts : List Tot} (h : Sms xs ts) : (ts.flatMap (·.1)).length < 64 := by
  have := flat_len fun t ht => (h.sm t ht).len
  have := h.few
  omega
theorem Sms.flat {xs : List Str} {ts : List Tot} (h : Sms xs ts) {p : Pt} (hp : p ∈ ts.flatMap (·.1)) : p.1 ∈ xs ∧ 1 ≤ p.2 := by
  obtain ⟨t, ht, hp⟩ := List.mem_flatMap.mp hp
  exact ⟨(h.sm t ht).sub p hp, (h.sm t ht).pos p hp⟩
theorem Sms.found {xs : List Str} {ts : List Tot} (h : Sms xs ts) {p : Pt} (hp : p ∈ (sumOf ts).1) : p.1 ∈ xs ∧ 1 ≤ p.2 := by
  obtain ⟨k, hk, rfl⟩ := List.mem_map.mp hp
  have hk := gath_mem.mp (sort_mem.mp hk)
  refine ⟨?_, (cnt_pos (fun p hp => (h.flat hp).2) k).2 hk⟩
  obtain ⟨q, hq, rfl⟩ := List.mem_map.mp hk
  exact (h.flat hq).1
theorem Sms.ok {xs : List Str} {ts : List Tot} (h : Sms xs ts) {p : Pt} (hp : p ∈ (sumOf ts).1) : PyData.strOk p.1 = true := wd_ok (h.ks.wd _ (h.found hp).1)
end
end Lw41
set_option Elab.async false
set_option linter.all false
set_option maxRecDepth 100000
set_option maxHeartbeats 4000000
/-! dicts as data: what the combinators come to -/
namespace Dl
open PySem PySem.Spec PyProof.Rows L2
section
variable {S : Type} {ρ : Rho} {s : S} {f g h : Ev S} {fk : Ek S}
end
end Dl
set_option Elab.async false
set_option linter.all false
set_option maxRecDepth 100000
set_option maxHeartbeats 4000000
/-! dicts as data: what the later combinators come to -/
namespace Dl
open PySem PySem.Spec PyProof.Rows L2
section
variable {S : Type} {ρ : Rho} {s : S} {f g h : Ev S} {fk : Ek S}
end
/-! ### dicts of texts and numbers -/
theorem put_new {m : KV} {k : Str} {v : Int} (h : k ∉ m.map (·.1)) : kvPut m k v = m ++ [(k, v)] := by
  unfold kvPut
  rw [if_neg]
  rw [List.any_eq_true]
  rintro ⟨p, hp, e⟩
  exact h (List.mem_map.mpr ⟨p, hp, of_decide_eq_true e⟩)
end Dl
set_option Elab.async false
set_option linter.all false
set_option maxRecDepth 100000
set_option maxHeartbeats 4000000
/-! comprehensions, all and any over rows told by a list of anything -/
namespace Mx
open PySem PySem.Spec L2 Dl
section
variable {S α : Type} {t : Tg} {q : Et S} {f : Ev S} {fi : Ea S} {vs : List Nat} {ρ : Rho} {s : S} {xs : List α} {F : α → D}
end
end Mx
set_option Elab.async false
set_option linter.all false
set_option maxRecDepth 100000
set_option maxHeartbeats 1000000
/-! k42: the program's sums and the law's counts, as equations -/
namespace Lw42
open PySem PySem.Spec L2 Dl Mx Ds Lw01 Lw41
section
variable {S : Type} {s : S}
/-- its numbers are not too great -/
structure Bd (B : Int) (t : Tot) : Prop where
  ps : ∀ p ∈ t.1, 0 ≤ p.2 ∧ p.2 ≤ B
  n : 0 ≤ t.2 ∧ t.2 ≤ B
theorem lg {z : Int} (h : z.natAbs < 2 ^ 100) : z.natAbs.log2 < 100 := by
  by_cases h0 : z.natAbs = 0
  · rw [h0]; decide
  · exact (Nat.log2_lt h0).mpr h
theorem v_mulB {a b : Int} (ha : a.natAbs < 2 ^ 100) (hb : b.natAbs < 2 ^ 100) : pMul (.int a) (.int b) = some (.int (a * b)) := by
  have := lg ha
  have := lg hb
  show (if decide (a.natAbs.log2 + b.natAbs.log2 < 1000000) = true then _ else _) = _
  rw [if_pos (decide_eq_true (by omega))]
theorem t_i0 (t : Tot) : pIx (totD t) (.int 0) = some (.tuple (t.1.map ptD)) := rfl
theorem t_i1 (t : Tot) : pIx (totD t) (.int 1) = some (.int t.2) := rfl
end
end Lw42
set_option Elab.async false
set_option linter.all false
set_option maxRecDepth 100000
set_option maxHeartbeats 4000000
namespace Lw04
open PySem PySem.Spec PyProof.Rows L2 Dl
def t_SHAPES : List (Str × Str) := [(("is" : Str), ("tk" : Str)), (("does" : Str), ("dtt" : Str)), (("same" : Str), ("tt" : Str)), (("least" : Str), ("ss" : Str)), (("false" : Str), ("" : Str)), (("not" : Str), ("F" : Str)), (("and" : Str), ("FF" : Str)), (("or" : Str), ("FF" : Str)), (("if" : Str), ("FF" : Str)), (("every" : Str), ("xF" : Str)), (("some" : Str), ("xF" : Str))]
-- is_whole: slots thing 0
def B_is_whole {S : Type}  : Sv S :=
    (sRet (cAnd (cU (pIsi "int") (cVar 0)) (cNot (cU (pIsi "bool") (cVar 0)))))
def K_is_whole {S : Type}  : Fn S := fnD 1 (B_is_whole )

-- is_whole_from: slots thing 0, least 1
def B_is_whole_from {S : Type} (F_is_whole : Fn S) : Sv S :=
    (sRet (cAnd (cCall 1 F_is_whole (aCons (cVar 0) aNil)) (cB pGe (cVar 0) (cVar 1))))
def K_is_whole_from {S : Type} (F_is_whole : Fn S) : Fn S := fnD 2 (B_is_whole_from F_is_whole)

-- is_letter: slots thing 0
def B_is_letter {S : Type} (F_is_all_of : Fn S) : Sv S :=
    (sSeq (sIf (qOr (qNot (qT (cU (pIsi "str") (cVar 0)))) (qNot (qT (cCh pLe pLe (cK (.int 1)) (cN pLen (aCons (cVar 0) aNil)) (cK (.int 2))))))
    (sRet (cK (.bool false)))
    sNx)
    (sRet (cAnd (cB pIn (cB pIx (cVar 0) (cK (.int 0))) (cK (.str "uvwxyz"))) (cCall 2 F_is_all_of (aCons (cSl pSl (cVar 0) (oOf (cK (.int 1))) oNo) (aCons (cK (.str "0123456789")) aNil))))))
def K_is_letter {S : Type} (F_is_all_of : Fn S) : Fn S := fnD 1 (B_is_letter F_is_all_of)

-- is_term: slots thing 0
def B_is_term {S : Type} (F_is_letter : Fn S) (F_is_name : Fn S) : Sv S :=
    (sRet (cOr (cCall 1 F_is_name (aCons (cVar 0) aNil)) (cCall 1 F_is_letter (aCons (cVar 0) aNil))))
def K_is_term {S : Type} (F_is_letter : Fn S) (F_is_name : Fn S) : Fn S := fnD 1 (B_is_term F_is_letter F_is_name)

-- is_share: slots thing 0
def B_is_share {S : Type} (F_is_whole_from : Fn S) (F_is_kind : Fn S) : Sv S :=
    (sSeq (sIf (qOr (qNot (qT (cU (pIsi "tuple") (cVar 0)))) (qT (cB pNe (cN pLen (aCons (cVar 0) aNil)) (cK (.int 2)))))
    (sRet (cK (.bool false)))
    sNx)
    (sRet (cAnd (cCall 1 F_is_kind (aCons (cB pIx (cVar 0) (cK (.int 0))) aNil)) (cCall 2 F_is_whole_from (aCons (cB pIx (cVar 0) (cK (.int 1))) (aCons (cK (.int 1)) aNil))))))
def K_is_share {S : Type} (F_is_whole_from : Fn S) (F_is_kind : Fn S) : Fn S := fnD 1 (B_is_share F_is_whole_from F_is_kind)

-- is_sum: slots thing 0, parts 1, number 2, part 3, kind 4, times 5
def B_is_sum {S : Type} (F_is_share : Fn S) (F_is_whole_from : Fn S) (F_rises : Fn S) : Sv S :=
    (sSeq (sIf (qOr (qNot (qT (cU (pIsi "tuple") (cVar 0)))) (qT (cB pNe (cN pLen (aCons (cVar 0) aNil)) (cK (.int 2)))))
    (sRet (cK (.bool false)))
    sNx)
    (sSeq (sAsg (cVar 0) (gTp (gC (gNm 1) (gC (gNm 2) gN0))))
    (sSeq (sIf (qOr (qNot (qT (cU (pIsi "tuple") (cVar 1)))) (qNot (qT (cQu false (iOf asT (cVar 1)) (gNm 3) qYes (cCall 1 F_is_share (aCons (cVar 3) aNil)) [3]))))
    (sRet (cK (.bool false)))
    sNx)
    (sRet (cAnd (cCall 1 F_rises (aCons (cNl (lcF (iOf asT (cVar 1)) (gTp (gC (gNm 4) (gC (gNm 5) gN0))) qYes (cVar 4) [4, 5])) aNil)) (cCall 2 F_is_whole_from (aCons (cVar 2) (aCons (cK (.int 0)) aNil))))))))
def K_is_sum {S : Type} (F_is_share : Fn S) (F_is_whole_from : Fn S) (F_rises : Fn S) : Fn S := fnD 6 (B_is_sum F_is_share F_is_whole_from F_rises)

-- fits: slots place 0, thing 1
def B_fits {S : Type} (F_is_form : Fn S) (F_is_term : Fn S) (F_is_letter : Fn S) (F_is_sum : Fn S) (F_is_kind : Fn S) : Sv S :=
    (sSeq (sIf (qT (cB pEq (cVar 0) (cK (.str "F"))))
    (sRet (cCall 1 F_is_form (aCons (cVar 1) aNil)))
    sNx)
    (sSeq (sIf (qT (cB pEq (cVar 0) (cK (.str "t"))))
    (sRet (cCall 1 F_is_term (aCons (cVar 1) aNil)))
    sNx)
    (sSeq (sIf (qT (cB pEq (cVar 0) (cK (.str "x"))))
    (sRet (cCall 1 F_is_letter (aCons (cVar 1) aNil)))
    sNx)
    (sSeq (sIf (qT (cB pEq (cVar 0) (cK (.str "s"))))
    (sRet (cCall 1 F_is_sum (aCons (cVar 1) aNil)))
    sNx)
    (sRet (cCall 1 F_is_kind (aCons (cVar 1) aNil)))))))
def K_fits {S : Type} (F_is_form : Fn S) (F_is_term : Fn S) (F_is_letter : Fn S) (F_is_sum : Fn S) (F_is_kind : Fn S) : Fn S := fnD 2 (B_fits F_is_form F_is_term F_is_letter F_is_sum F_is_kind)

-- is_form: slots thing 0, shape 1, place 2, piece 3
def B_is_form {S : Type} (F_fits : Fn S) : Sv S :=
    (sSeq (sIf (qOr (qNot (qT (cU (pIsi "tuple") (cVar 0)))) (qOr (qNot (qT (cVar 0))) (qNot (qT (cU (pIsi "str") (cB pIx (cVar 0) (cK (.int 0))))))))
    (sRet (cK (.bool false)))
    sNx)
    (sSeq (sSet 1 (cU (pDg t_SHAPES) (cB pIx (cVar 0) (cK (.int 0)))))
    (sSeq (sIf (qOr (qT (cB pIs (cVar 1) (cK .none))) (qT (cB pNe (cN pLen (aCons (cVar 1) aNil)) (cB pSub (cN pLen (aCons (cVar 0) aNil)) (cK (.int 1))))))
    (sRet (cK (.bool false)))
    sNx)
    (sRet (cQu false (iOfA pZipS (aCons (cVar 1) (aCons (cSl pSl (cVar 0) (oOf (cK (.int 1))) oNo) aNil))) (gTp (gC (gNm 2) (gC (gNm 3) gN0))) qYes (cCall 2 F_fits (aCons (cVar 2) (aCons (cVar 3) aNil))) [2, 3])))))
def K_is_form {S : Type} (F_fits : Fn S) : Fn S := fnD 4 (B_is_form F_fits)

-- pieces: slots form 0, wanted 1, place 2, piece 3; cells wanted
def B_pieces {S : Type}  : Sv S :=
    (sRet (cNl (lcF (iOfA pZipS (aCons (cU (pDt t_SHAPES) (cB pIx (cVar 0) (cK (.int 0)))) (aCons (cSl pSl (cVar 0) (oOf (cK (.int 1))) oNo) aNil))) (gTp (gC (gNm 2) (gC (gNm 3) gN0))) (qT (cB pEq (cVar 2) (cVar 1))) (cVar 3) [2, 3])))
def K_pieces {S : Type}  : Fn S := fnD 4 (B_pieces )

-- parts_of: slots form 0, told 1, inner 2; own [1]
def B_parts_of {S : Type} (F_pieces : Fn S) (F_parts_of : Fn S) : Sv S :=
    (sSeq (sOwn 1 (aN lenOk (aCons (cVar 0) aNil)))
    (sSeq (sFor (iOf asL (cCall 2 F_pieces (aCons (cVar 0) (aCons (cK (.str "F")) aNil)))) (gNm 2)
    (sExtT 1 (cCall 1 F_parts_of (aCons (cVar 2) aNil))))
    (sRet (cN pTuple (aCons (cVar 1) aNil)))))
def K_parts_of {S : Type} (F_pieces : Fn S) (F_parts_of : Fn S) : Fn S := fnD 3 (B_parts_of F_pieces F_parts_of)

-- all_pieces: slots form 0, wanted 1, part 2, piece 3; cells wanted
def B_all_pieces {S : Type} (F_parts_of : Fn S) (F_pieces : Fn S) : Sv S :=
    (sRet (cNl (lcF2 (iOf asT (cCall 1 F_parts_of (aCons (cVar 0) aNil))) (gNm 2) qYes (iOf asL (cCall 2 F_pieces (aCons (cVar 2) (aCons (cVar 1) aNil)))) (gNm 3) qYes (cVar 3) [2, 3] [3])))
def K_all_pieces {S : Type} (F_parts_of : Fn S) (F_pieces : Fn S) : Fn S := fnD 4 (B_all_pieces F_parts_of F_pieces)

-- free_letters: slots form 0, free 1, inner 2, bound 3, term 4, letter 5; cells bound; own [1]
def B_names_of {S : Type} (F_all_pieces : Fn S) (F_is_name : Fn S) : Sv S :=
    (sRet (cN pTuple (aCons (cNl (aSortX (xSc (iOf asL (cCall 2 F_all_pieces (aCons (cVar 0) (aCons (cK (.str "t")) aNil)))) (gNm 1) (qT (cCall 1 F_is_name (aCons (cVar 1) aNil))) (cVar 1) [1]))) aNil)))
def K_names_of {S : Type} (F_all_pieces : Fn S) (F_is_name : Fn S) : Fn S := fnD 2 (B_names_of F_all_pieces F_is_name)

-- put_for: slots form 0, x 1, name 2, put 3, place 4, piece 5; cells name, x
def B_put_for {S : Type} (F_pieces : Fn S) (F_put_at : Fn S) : Sv S :=
    (sSeq (sIf (qT (cB pIn (cVar 1) (cCall 2 F_pieces (aCons (cVar 0) (aCons (cK (.str "x")) aNil)))))
    (sRet (cVar 0))
    sNx)
    (sSeq (sSet 3 (cNl (lcF (iOfA pZipS (aCons (cU (pDt t_SHAPES) (cB pIx (cVar 0) (cK (.int 0)))) (aCons (cSl pSl (cVar 0) (oOf (cK (.int 1))) oNo) aNil))) (gTp (gC (gNm 4) (gC (gNm 5) gN0))) qYes (cCall 4 F_put_at (aCons (cVar 4) (aCons (cVar 5) (aCons (cVar 1) (aCons (cVar 2) aNil))))) [4, 5])))
    (sRet (cN pTup (aCons (cB pIx (cVar 0) (cK (.int 0))) (aStar (cVar 3) aNil))))))
def K_put_for {S : Type} (F_pieces : Fn S) (F_put_at : Fn S) : Fn S := fnD 6 (B_put_for F_pieces F_put_at)

-- put_at: slots place 0, piece 1, x 2, name 3
def B_put_at {S : Type} (F_put_for : Fn S) : Sv S :=
    (sSeq (sIf (qT (cB pEq (cVar 0) (cK (.str "F"))))
    (sRet (cCall 3 F_put_for (aCons (cVar 1) (aCons (cVar 2) (aCons (cVar 3) aNil)))))
    sNx)
    (sSeq (sIf (qAnd (qT (cB pEq (cVar 0) (cK (.str "t")))) (qT (cB pEq (cVar 1) (cVar 2))))
    (sRet (cVar 3))
    sNx)
    (sRet (cVar 1))))
def K_put_at {S : Type} (F_put_for : Fn S) : Fn S := fnD 4 (B_put_at F_put_for)

-- _law_letter: slots _law_deck_here 0
def B_w_letter {S : Type} (F_w_take : Fn S) : Sv S :=
    (sRet (cB pAdd (cB pIx (cK (.str "uvwxyz")) (cCall 2 F_w_take (aCons (cVar 0) (aCons (cK (.int 6)) aNil)))) (cB pIx (cN pLst (aCons (cK (.str "")) (aCons (cK (.str "")) (aCons (cK (.str "")) (aCons (cK (.str "0")) (aCons (cK (.str "7")) (aCons (cK (.str "9")) aNil))))))) (cCall 2 F_w_take (aCons (cVar 0) (aCons (cK (.int 6)) aNil))))))
def K_w_letter {S : Type} (F_w_take : Fn S) : Fn S := fnD 1 (B_w_letter F_w_take)

-- _law_term: slots _law_deck_here 0, _law_words_here 1, _law_bound 2, _law_some 3
def B_w_term {S : Type} (F_w_take : Fn S) (F_w_letter : Fn S) : Sv S :=
    (sSeq (sSet 3 (cB pAdd (cNl (aN pList (aCons (cB pIx (cVar 1) (cK (.int 0))) aNil))) (cVar 2)))
    (sSeq (sIf (qOr (qT (cB pEq (cVar 3) (cN pLst aNil))) (qT (cB pEq (cCall 2 F_w_take (aCons (cVar 0) (aCons (cK (.int 8)) aNil))) (cK (.int 7)))))
    (sRet (cCall 1 F_w_letter (aCons (cVar 0) aNil)))
    sNx)
    (sRet (cB pIx (cVar 3) (cCall 2 F_w_take (aCons (cVar 0) (aCons (cN pLen (aCons (cVar 3) aNil)) aNil)))))))
def K_w_term {S : Type} (F_w_take : Fn S) (F_w_letter : Fn S) : Fn S := fnD 4 (B_w_term F_w_take F_w_letter)

-- _law_sum: slots _law_deck_here 0, _law_words_here 1, _law_parts 2, _law_kind 3; own [2]
def B_w_sum {S : Type} (F_w_take : Fn S) : Sv S :=
    (sSeq (sOwn 2 (aN lenOk aNil))
    (sSeq (sFor (iOf asT (cB pIx (cVar 1) (cK (.int 1)))) (gNm 3)
    (sIf (qT (cB pEq (cCall 2 F_w_take (aCons (cVar 0) (aCons (cK (.int 3)) aNil))) (cK (.int 0))))
      (sApp 2 (cN pTup (aCons (cVar 3) (aCons (cB pAdd (cK (.int 1)) (cCall 2 F_w_take (aCons (cVar 0) (aCons (cB pIx (cN pLst (aCons (cK (.int 3)) (aCons (cB pSub (cB pPow (cK (.int 10)) (cK (.int 9))) (cK (.int 1))) aNil))) (cN pInt (aCons (cB pEq (cCall 2 F_w_take (aCons (cVar 0) (aCons (cK (.int 8)) aNil))) (cK (.int 7))) aNil))) aNil)))) aNil))))
      sNx))
    (sRet (cN pTup (aCons (cN pTuple (aCons (cVar 2) aNil)) (aCons (cCall 2 F_w_take (aCons (cVar 0) (aCons (cB pIx (cN pLst (aCons (cK (.int 4)) (aCons (cB pPow (cK (.int 10)) (cK (.int 9))) aNil))) (cN pInt (aCons (cB pEq (cCall 2 F_w_take (aCons (cVar 0) (aCons (cK (.int 8)) aNil))) (cK (.int 7))) aNil))) aNil))) aNil))))))
def K_w_sum {S : Type} (F_w_take : Fn S) : Fn S := fnD 4 (B_w_sum F_w_take)

-- _law_plain: slots _law_deck_here 0, _law_words_here 1, _law_bound 2, _law_way 3, _law_doing 4
def B_w_plain {S : Type} (F_w_take : Fn S) (F_w_term : Fn S) (F_w_sum : Fn S) : Sv S :=
    (sSeq (sSet 3 (cCall 2 F_w_take (aCons (cVar 0) (aCons (cK (.int 6)) aNil))))
    (sSeq (sIf (qAnd (qT (cB pLt (cVar 3) (cK (.int 2)))) (qT (cB pNe (cB pIx (cVar 1) (cK (.int 1))) (cN pTup aNil))))
    (sRet (cN pTup (aCons (cK (.str "is")) (aCons (cCall 3 F_w_term (aCons (cVar 0) (aCons (cVar 1) (aCons (cVar 2) aNil)))) (aCons (cB pIx (cB pIx (cVar 1) (cK (.int 1))) (cCall 2 F_w_take (aCons (cVar 0) (aCons (cN pLen (aCons (cB pIx (cVar 1) (cK (.int 1))) aNil)) aNil)))) aNil)))))
    sNx)
    (sSeq (sIf (qAnd (qT (cB pLt (cVar 3) (cK (.int 4)))) (qT (cB pNe (cB pIx (cVar 1) (cK (.int 2))) (cN pTup aNil))))
    (sSeq (sSet 4 (cB pIx (cB pIx (cVar 1) (cK (.int 2))) (cCall 2 F_w_take (aCons (cVar 0) (aCons (cN pLen (aCons (cB pIx (cVar 1) (cK (.int 2))) aNil)) aNil)))))
      (sRet (cN pTup (aCons (cK (.str "does")) (aCons (cVar 4) (aCons (cCall 3 F_w_term (aCons (cVar 0) (aCons (cVar 1) (aCons (cVar 2) aNil)))) (aCons (cCall 3 F_w_term (aCons (cVar 0) (aCons (cVar 1) (aCons (cVar 2) aNil)))) aNil)))))))
    sNx)
    (sSeq (sIf (qT (cB pEq (cVar 3) (cK (.int 4))))
    (sRet (cN pTup (aCons (cK (.str "least")) (aCons (cCall 2 F_w_sum (aCons (cVar 0) (aCons (cVar 1) aNil))) (aCons (cCall 2 F_w_sum (aCons (cVar 0) (aCons (cVar 1) aNil))) aNil)))))
    sNx)
    (sSeq (sIf (qT (cB pEq (cVar 3) (cK (.int 5))))
    (sRet (cN pTup (aCons (cK (.str "false")) aNil)))
    sNx)
    (sRet (cN pTup (aCons (cK (.str "same")) (aCons (cCall 3 F_w_term (aCons (cVar 0) (aCons (cVar 1) (aCons (cVar 2) aNil)))) (aCons (cCall 3 F_w_term (aCons (cVar 0) (aCons (cVar 1) (aCons (cVar 2) aNil)))) aNil))))))))))
def K_w_plain {S : Type} (F_w_take : Fn S) (F_w_term : Fn S) (F_w_sum : Fn S) : Fn S := fnD 5 (B_w_plain F_w_take F_w_term F_w_sum)

-- _law_form: slots _law_deck_here 0, _law_words_here 1, _law_bound 2, _law_deep 3, _law_way 4, _law_x 5, _law_one 6
def B_w_form {S : Type} (F_w_take : Fn S) (F_w_plain : Fn S) (F_w_form : Fn S) (F_w_letter : Fn S) : Sv S :=
    (sSeq (sSet 4 (cCall 2 F_w_take (aCons (cVar 0) (aCons (cK (.int 8)) aNil))))
    (sSeq (sIf (qOr (qT (cB pEq (cVar 3) (cK (.int 0)))) (qT (cB pLt (cVar 4) (cK (.int 2)))))
    (sRet (cCall 3 F_w_plain (aCons (cVar 0) (aCons (cVar 1) (aCons (cVar 2) aNil)))))
    sNx)
    (sSeq (sIf (qT (cB pEq (cVar 4) (cK (.int 2))))
    (sRet (cN pTup (aCons (cK (.str "not")) (aCons (cCall 4 F_w_form (aCons (cVar 0) (aCons (cVar 1) (aCons (cVar 2) (aCons (cB pSub (cVar 3) (cK (.int 1))) aNil))))) aNil))))
    sNx)
    (sSeq (sIf (qT (cB pGt (cVar 4) (cK (.int 5))))
    (sSeq (sSet 5 (cCall 1 F_w_letter (aCons (cVar 0) aNil)))
      (sRet (cN pTup (aCons (cB pIx (cN pLst (aCons (cK (.str "every")) (aCons (cK (.str "some")) aNil))) (cB pSub (cVar 4) (cK (.int 6)))) (aCons (cVar 5) (aCons (cCall 4 F_w_form (aCons (cVar 0) (aCons (cVar 1) (aCons (cB pAdd (cVar 2) (cN pLst (aCons (cVar 5) aNil))) (aCons (cB pSub (cVar 3) (cK (.int 1))) aNil))))) aNil))))))
    sNx)
    (sSeq (sSet 6 (cCall 4 F_w_form (aCons (cVar 0) (aCons (cVar 1) (aCons (cVar 2) (aCons (cB pSub (cVar 3) (cK (.int 1))) aNil))))))
    (sRet (cN pTup (aCons (cB pIx (cN pLst (aCons (cK (.str "and")) (aCons (cK (.str "or")) (aCons (cK (.str "if")) aNil)))) (cB pSub (cVar 4) (cK (.int 3)))) (aCons (cVar 6) (aCons (cCall 4 F_w_form (aCons (cVar 0) (aCons (cVar 1) (aCons (cVar 2) (aCons (cB pSub (cVar 3) (cK (.int 1))) aNil))))) aNil))))))))))
def K_w_form {S : Type} (F_w_take : Fn S) (F_w_plain : Fn S) (F_w_form : Fn S) (F_w_letter : Fn S) : Fn S := fnD 7 (B_w_form F_w_take F_w_plain F_w_form F_w_letter)

-- _law_put: slots _law_form_here 0, _law_x 1, _law_name 2, _law_found 3, _law_part 4; own [3]
def B_w_put {S : Type} (F_w_put : Fn S) : Sv S :=
    (sSeq (sIf (qT (cB pIn (cB pIx (cVar 0) (cK (.int 0))) (cN pTup (aCons (cK (.str "every")) (aCons (cK (.str "some")) aNil)))))
    (sSeq (sIf (qT (cB pEq (cB pIx (cVar 0) (cK (.int 1))) (cVar 1)))
      (sRet (cVar 0))
      sNx)
      (sRet (cB pAdd (cSl pSl (cVar 0) oNo (oOf (cK (.int 2)))) (cN pTup (aCons (cCall 3 F_w_put (aCons (cB pIx (cVar 0) (cK (.int 2))) (aCons (cVar 1) (aCons (cVar 2) aNil)))) aNil)))))
    sNx)
    (sSeq (sOwn 3 (aN lenOk (aCons (cB pIx (cVar 0) (cK (.int 0))) aNil)))
    (sSeq (sFor (iOf asT (cSl pSl (cVar 0) (oOf (cK (.int 1))) oNo)) (gNm 4)
    (sIf (qT (cB pIn (cB pIx (cVar 0) (cK (.int 0))) (cN pTup (aCons (cK (.str "not")) (aCons (cK (.str "and")) (aCons (cK (.str "or")) (aCons (cK (.str "if")) aNil)))))))
      (sApp 3 (cCall 3 F_w_put (aCons (cVar 4) (aCons (cVar 1) (aCons (cVar 2) aNil)))))
      (sIf (qOr (qT (cB pEq (cB pIx (cVar 0) (cK (.int 0))) (cK (.str "least")))) (qT (cB pNe (cVar 4) (cVar 1))))
        (sApp 3 (cVar 4))
        (sApp 3 (cVar 2)))))
    (sRet (cN pTuple (aCons (cVar 3) aNil))))))
def K_w_put {S : Type} (F_w_put : Fn S) : Fn S := fnD 5 (B_w_put F_w_put)

-- _law_wraps: slots _law_deck_here 0, _law_k 1; cells _law_deck_here
def B_w_right {S : Type} (F_free_letters : Fn S) (F_w_letter : Fn S) (F_w_take : Fn S) (F_w_tail : Fn S) (F_put_for : Fn S) (F_is_form : Fn S) (F_w_put : Fn S) (F_names_of : Fn S) : Sv S :=
    (sSeq (sSet 3 (cB pAdd (cNl (aN pList (aCons (cCall 1 F_free_letters (aCons (cVar 2) aNil)) aNil))) (cN pLst (aCons (cCall 1 F_w_letter (aCons (cVar 0) aNil)) (aCons (cCall 1 F_w_letter (aCons (cVar 0) aNil)) aNil)))))
    (sSeq (sSet 4 (cB pIx (cVar 3) (cCall 2 F_w_take (aCons (cVar 0) (aCons (cN pLen (aCons (cVar 3) aNil)) aNil)))))
    (sSeq (sSet 5 (cB pIx (cVar 3) (cCall 2 F_w_take (aCons (cVar 0) (aCons (cN pLen (aCons (cVar 3) aNil)) aNil)))))
    (sSeq (sSet 6 (cB pAdd (cNl (aN pList (aCons (cB pIx (cVar 1) (cK (.int 0))) aNil))) (cN pLst (aCons (cB pAdd (cK (.str "Q")) (cCall 2 F_w_tail (aCons (cVar 0) (aCons (cCall 2 F_w_take (aCons (cVar 0) (aCons (cK (.int 8)) aNil))) aNil)))) aNil))))
    (sSeq (sSet 7 (cB pIx (cVar 6) (cCall 2 F_w_take (aCons (cVar 0) (aCons (cN pLen (aCons (cVar 6) aNil)) aNil)))))
    (sSeq (sSet 8 (cB pIx (cVar 6) (cCall 2 F_w_take (aCons (cVar 0) (aCons (cN pLen (aCons (cVar 6) aNil)) aNil)))))
    (sSeq (sSet 9 (cCall 3 F_put_for (aCons (cVar 2) (aCons (cVar 4) (aCons (cVar 7) aNil)))))
    (sSeq (sIf (qOr (qT (cB pNe (cVar 9) (cCall 3 F_w_put (aCons (cVar 2) (aCons (cVar 4) (aCons (cVar 7) aNil)))))) (qT (cB pNotB (cCall 1 F_is_form (aCons (cVar 9) aNil)) (cK (.bool true)))))
    (sRet (cK (.bool false)))
    sNx)
    (sSeq (sIf (qT (cB pNe (cNl (aN pList (aCons (cCall 1 F_free_letters (aCons (cVar 9) aNil)) aNil))) (cNl (lcF (iOf asT (cCall 1 F_free_letters (aCons (cVar 2) aNil))) (gNm 12) (qT (cB pNe (cVar 12) (cVar 4))) (cVar 12) [12]))))
    (sRet (cK (.bool false)))
    sNx)
    (sSeq (sOwn 10 (aN pList (aCons (cCall 1 F_names_of (aCons (cVar 2) aNil)) aNil)))
    (sSeq (sIf (qT (cB pIn (cVar 4) (cCall 1 F_free_letters (aCons (cVar 2) aNil))))
    (sApp 10 (cVar 7))
    sNx)
    (sSeq (sIf (qT (cB pNe (cNl (aN pList (aCons (cCall 1 F_names_of (aCons (cVar 9) aNil)) aNil))) (cNl (aSortX (xSet (cVar 10))))))
    (sRet (cK (.bool false)))
    sNx)
    (sSeq (sSet 11 (cCall 3 F_put_for (aCons (cCall 3 F_put_for (aCons (cVar 2) (aCons (cVar 5) (aCons (cVar 8) aNil)))) (aCons (cVar 4) (aCons (cVar 7) aNil)))))
    (sSeq (sIf (qAnd (qT (cB pNe (cVar 4) (cVar 5))) (qT (cB pNe (cCall 3 F_put_for (aCons (cVar 9) (aCons (cVar 5) (aCons (cVar 8) aNil)))) (cVar 11))))
    (sRet (cK (.bool false)))
    sNx)
    (sRet (cOr (cB pIn (cVar 4) (cCall 1 F_free_letters (aCons (cVar 2) aNil))) (cB pEq (cVar 9) (cVar 2))))))))))))))))))
def K_w_right {S : Type} (F_free_letters : Fn S) (F_w_letter : Fn S) (F_w_take : Fn S) (F_w_tail : Fn S) (F_put_for : Fn S) (F_is_form : Fn S) (F_w_put : Fn S) (F_names_of : Fn S) : Fn S := fnD 13 (B_w_right F_free_letters F_w_letter F_w_take F_w_tail F_put_for F_is_form F_w_put F_names_of)

end Lw04
set_option Elab.async false
set_option linter.all false
set_option maxRecDepth 100000
set_option maxHeartbeats 4000000
/-! a table of a few members can be laid anew, for each mask of up to 127 -/
namespace Ds
open PySem PySem.Spec PyProof.Rows PySem.Froz
/-- from each slot each other comes round -/
def Full (m : Nat) : Prop := ∀ i j, i ≤ m → j ≤ m → ∃ k, k ≤ m ∧ L2.lcgI m i k = j
def ways (m : Nat) : Nat → Nat → List Nat
  | 0, _ => []
  | n + 1, i => i :: ways m n ((i * 5 + 1) % (m + 1))
theorem lcg_front (m i : Nat) : ∀ k, L2.lcgI m ((i * 5 + 1) % (m + 1)) k = L2.lcgI m i (k + 1)
  | 0 => rfl
  | k + 1 => by
    show (L2.lcgI m ((i * 5 + 1) % (m + 1)) k * 5 + 1) % (m + 1) = (L2.lcgI m i (k + 1) * 5 + 1) % (m + 1)
    rw [lcg_front m i k]
theorem ways_mem (m : Nat) : ∀ (n i j : Nat), j ∈ ways m n i → ∃ k, k < n ∧ L2.lcgI m i k = j
  | 0, _, _, h => by simp [ways] at h
  | n + 1, i, j, h => by
    rcases List.mem_cons.mp h with h | h
    · exact ⟨0, Nat.succ_pos _, h.symm⟩
    · obtain ⟨k, hk, e⟩ := ways_mem m n _ j h
      rw [lcg_front] at e
      exact ⟨k + 1, Nat.succ_lt_succ hk, e⟩
theorem full_of {m : Nat} (h : ((List.range (m + 1)).all fun i => (List.range (m + 1)).all fun j => (ways m (m + 1) i).contains j) = true) : Full m := fun i j hi hj => by
  have h1 := List.all_eq_true.mp h i (List.mem_range.mpr (Nat.lt_succ_of_le hi))
  have h2 := List.all_eq_true.mp h1 j (List.mem_range.mpr (Nat.lt_succ_of_le hj))
  obtain ⟨k, hk, e⟩ := ways_mem m _ i j (List.contains_iff_mem.mp h2)
  exact ⟨k, Nat.le_of_lt_succ hk, e⟩
theorem full15 : Full 15 := full_of (by decide +kernel)
theorem full63 : Full 63 := full_of (by decide +kernel)
theorem full_ok {m : Nat} (h : L2.MaskOk m) : Full m := fun _ _ hi hj => L2.lcgI_all h hi hj
/-- the masks that come -/
def Msk (m : Nat) : Prop := m = 7 ∨ m = 15 ∨ m = 31 ∨ m = 63 ∨ m = 127
theorem Msk.full {m : Nat} (h : Msk m) : Full m := by
  rcases h with rfl | rfl | rfl | rfl | rfl
  · exact full_ok (.inl rfl)
  · exact full15
  · exact full_ok (.inr (.inl rfl))
  · exact full63
  · exact full_ok (.inr (.inr rfl))
theorem meets {m : Nat} (F : Full m) (h : Int) {j : Nat} (hj : j ≤ m) : ∃ n, n ≤ m + 12 ∧ L2.runI m (SetTable.bits h) n = j := by
  obtain ⟨k, hk, e⟩ := F _ j (L2.runI_le m (SetTable.bits h) 12) hj
  exact ⟨12 + k, by omega, by rw [L2.runI_tail (L2.bits_lt h)]; exact e⟩
theorem leap_le (m i b : Nat) : (SetTable.leap m i b).1 ≤ m := Nat.le_of_lt_succ (Nat.mod_lt _ (Nat.succ_pos m))
theorem free_some (m : Nat) (owner : Array (Option Nat)) : ∀ (f n i b : Nat), n < f → i ≤ m → L2.oAt owner (L2.itL m i b n).1 = none → ∃ r, SetTable.layClean.free m owner f i b = some r ∧ r ≤ m ∧ L2.oAt owner r = none
  | 0, _, _, _, h, _, _ => absurd h (Nat.not_lt_zero _)
  | f + 1, n, i, b, hn, hi, hf => by
    rw [L2.free_succ]
    have hr := L2.runEnd_bd hi
    cases e : (List.range (SetTable.runEnd m i + 1 - i)).find? fun k => (L2.oAt owner (i + k)).isNone with
    | some k =>
      have h1 := List.find?_some e
      have h2 := List.mem_range.mp (List.mem_of_find?_eq_some e)
      exact ⟨i + k, rfl, by omega, Option.isNone_iff_eq_none.mp h1⟩
    | none =>
      have h1 := List.find?_eq_none.mp e
      cases n with
      | zero =>
        have := h1 0 (List.mem_range.mpr (by omega))
        rw [Nat.add_zero] at this
        rw [show L2.oAt owner i = none from hf] at this
        exact absurd rfl this
      | succ n => exact free_some m owner f n _ _ (by omega) (leap_le m i b) hf
theorem free_any {m : Nat} (F : Full m) (owner : Array (Option Nat)) (h : Int) {j : Nat} (hj : j ≤ m) (hf : L2.oAt owner j = none) :
    ∃ r, SetTable.layClean.free m owner (SetTable.turns m) (SetTable.bits h % (m + 1)) (SetTable.bits h) = some r ∧ r ≤ m ∧ L2.oAt owner r = none := by
  obtain ⟨n, hn, e⟩ := meets F h hj
  refine free_some m owner (SetTable.turns m) n _ _ (by unfold SetTable.turns; omega) (Nat.le_of_lt_succ (Nat.mod_lt _ (Nat.succ_pos m))) ?_
  rw [L2.itL_run]
  show L2.oAt owner (L2.runI m (SetTable.bits h) n) = none
  rw [e]
  exact hf
theorem fm_set {f g : Nat → Option Nat} {j k : Nat} (hj : f j = none) (hg : g j = some k) (ho : ∀ i, i ≠ j → g i = f i) : ∀ L : List Nat, L.Nodup → j ∈ L → (L.filterMap g).Perm (k :: L.filterMap f)
  | [], _, h => by cases h
  | a :: L, nd, h => by
    obtain ⟨n1, n2⟩ := List.nodup_cons.mp nd
    by_cases c : a = j
    · subst c
      rw [List.filterMap_cons_some hg, List.filterMap_cons_none hj]
      have : L.filterMap g = L.filterMap f := by
        clear n2 nd h
        induction L with
        | nil => rfl
        | cons b L ih =>
          have hb : b ≠ a := fun z => n1 (z ▸ List.mem_cons_self)
          rw [List.filterMap_cons, List.filterMap_cons, ho b hb, ih fun z => n1 (List.mem_cons_of_mem _ z)]
      rw [this]
    · have ih := fm_set hj hg ho L n2 ((List.mem_cons.mp h).resolve_left fun z => c z.symm)
      rw [List.filterMap_cons, List.filterMap_cons, ho a c]
      cases f a with
      | none => exact ih
      | some x => exact (List.Perm.cons x ih).trans (List.Perm.swap _ _ _)
theorem fm_full {f : Nat → Option Nat} : ∀ L : List Nat, (∀ j ∈ L, f j ≠ none) → (L.filterMap f).length = L.length
  | [], _ => rfl
  | a :: L, h => by
    cases e : f a with
    | none => exact absurd e (h a List.mem_cons_self)
    | some x => rw [List.filterMap_cons_some e, List.length_cons, List.length_cons, fm_full L fun j hj => h j (List.mem_cons_of_mem _ hj)]
/-- the first k are laid -/
structure Laid (m k : Nat) (owner : Array (Option Nat)) : Prop where
  sz : owner.size = m + 1
  pm : ((List.range (m + 1)).filterMap fun j => L2.oAt owner j).Perm (List.range k)
theorem Laid.step {m k : Nat} {owner : Array (Option Nat)} (F : Full m) (W : Laid m k owner) (hk : k ≤ m) (h : Int) : ∃ j, SetTable.layClean.free m owner (SetTable.turns m) (SetTable.bits h % (m + 1)) (SetTable.bits h) = some j ∧ Laid m (k + 1) (owner.setIfInBounds j (some k)) := by
  have hf : ∃ j, j ≤ m ∧ L2.oAt owner j = none := by
    refine Classical.byContradiction fun n => ?_
    have h1 := fm_full (f := fun j => L2.oAt owner j) (List.range (m + 1)) fun j hj e => n ⟨j, Nat.le_of_lt_succ (List.mem_range.mp hj), e⟩
    rw [W.pm.length_eq, List.length_range, List.length_range] at h1
    omega
  obtain ⟨j, hj, e⟩ := hf
  obtain ⟨r, e1, e2, e3⟩ := free_any F owner h hj e
  refine ⟨r, e1, by rw [Array.size_setIfInBounds]; exact W.sz, ?_⟩
  have p1 := fm_set (f := fun j => L2.oAt owner j) (g := fun j => L2.oAt (owner.setIfInBounds r (some k)) j) (k := k) e3 (L2.oAt_set_self (some k) (by rw [W.sz]; omega)) (fun i hi => L2.oAt_set_ne _ hi) (List.range (m + 1)) List.nodup_range (List.mem_range.mpr (by omega))
  refine p1.trans ?_
  rw [show List.range (k + 1) = List.range k ++ [k] from List.range_succ]
  exact (List.Perm.cons k W.pm).trans (List.perm_append_singleton k _).symm
theorem laid_fold {m : Nat} (F : Full m) : ∀ (rest : List Int) (k : Nat) (owner : Array (Option Nat)), Laid m k owner → k + rest.length ≤ m → ∃ owner', rest.foldl (L2.stepF m) (some (owner, k)) = some (owner', k + rest.length) ∧ Laid m (k + rest.length) owner'
  | [], k, owner, W, _ => ⟨owner, rfl, W⟩
  | h :: rest, k, owner, W, hl => by
    rw [List.length_cons] at hl
    obtain ⟨j, e, W'⟩ := W.step F (by omega) h
    obtain ⟨owner', f, W2⟩ := laid_fold F rest (k + 1) _ W' (by omega)
    rw [show k + (h :: rest).length = k + 1 + rest.length by rw [List.length_cons]; omega]
    refine ⟨owner', ?_, W2⟩
    rw [List.foldl_cons, L2.stepF_some e]
    exact f
theorem laid_ok {m : Nat} (F : Full m) {hs : Array Int} (hn : hs.size ≤ m) (fi mo : Nat) (le pl : Bool) :
    ∃ t order, SetTable.laid m fi mo le pl hs = some (t, order) ∧ order.toList.Perm (List.range hs.size) ∧ L2.Ris t.place.toList ∧ t.mask = m ∧ t.led = le ∧ t.dummies = #[] ∧ t.place.size = hs.size := by
  have W0 : Laid m 0 (Array.replicate (m + 1) none) := ⟨by simp, by
    have : ((List.range (m + 1)).filterMap fun j => L2.oAt (Array.replicate (m + 1) none) j) = [] := by
      rw [List.filterMap_eq_nil_iff]
      exact fun j hj => L2.oAt_init (Nat.le_of_lt_succ (List.mem_range.mp hj))
    rw [this]
    exact List.Perm.refl _⟩
  obtain ⟨owner, f, W⟩ := laid_fold F hs.toList 0 _ W0 (by rw [Array.length_toList, Nat.zero_add]; exact hn)
  have e : SetTable.layClean m hs = some owner := by
    rw [L2.layClean_eq, f]
    rfl
  have hr : SetTable.laid m fi mo le pl hs = some ({ mask := m, place := ((L2.liveOf m owner).map (·.1)).toArray, dummies := #[], finger := fi, led := le, moves := mo, plain := pl }, ((L2.liveOf m owner).map (·.2)).toArray) := by
    unfold SetTable.laid
    rw [e]
    rfl
  have ris : L2.Ris ((L2.liveOf m owner).map (·.1)) := (L2.ris_live (fun j => owner.getD j none) (List.range (m + 1)) (by
    unfold L2.Ris
    first | exact List.pairwise_lt_range | exact List.pairwise_lt_range _)).1
  have pm : ((L2.liveOf m owner).map (·.2)).Perm (List.range hs.size) := by
    have p := W.pm
    rw [Nat.zero_add, Array.length_toList] at p
    refine (List.Perm.of_eq ?_).trans p
    unfold L2.liveOf
    have hin : ∀ j ∈ List.range (m + 1), owner.getD j none = L2.oAt owner j := fun j hj => L2.oAt_none (by rw [W.sz]; exact List.mem_range.mp hj)
    generalize List.range (m + 1) = L at hin ⊢
    clear p ris hr e f W0 W
    induction L with
    | nil => rfl
    | cons a L ih =>
      have ih := ih fun j hj => hin j (List.mem_cons_of_mem _ hj)
      rw [List.filterMap_cons, List.filterMap_cons, hin a List.mem_cons_self]
      cases L2.oAt owner a with
      | none => exact ih
      | some x => exact congrArg (x :: ·) ih
  refine ⟨_, _, hr, pm, ris, rfl, rfl, rfl, ?_⟩
  show ((L2.liveOf m owner).map (·.1)).toArray.size = hs.size
  have := pm.length_eq
  rw [List.length_map, List.length_range] at this
  rw [List.size_toArray, List.length_map, this]
/-- in another order -/
theorem fm_order (es : Array (Int × Value)) (order : Array Nat) (hp : order.toList.Perm (List.range es.size)) : (order.filterMap (es[·]?)).toList.Perm es.toList ∧ (order.filterMap (es[·]?)).size = es.size := by
  have h1 : (order.filterMap (es[·]?)).toList.Perm es.toList := by
    have e1 : (order.filterMap (es[·]?)).toList = order.toList.filterMap (fun i => es[i]?) := by first | (rw [Array.toList_filterMap]) | simp
    rw [e1]
    refine (hp.filterMap _).trans (List.Perm.of_eq ?_)
    have : ∀ n, n ≤ es.size → (List.range n).filterMap (fun i => es[i]?) = es.toList.take n := by
      intro n
      induction n with
      | zero => intro _; rfl
      | succ n ih =>
        intro hn
        have hl : n < es.toList.length := by rw [Array.length_toList]; omega
        rw [List.range_succ, List.filterMap_append, ih (by omega), List.take_succ, List.getElem?_eq_getElem hl]
        congr 1
        have : es[n]? = some es.toList[n] := by rw [← Array.getElem?_toList, List.getElem?_eq_getElem hl]
        rw [List.filterMap_cons_some this]
        rfl
    rw [this es.size (Nat.le_refl _), List.take_of_length_le (by rw [Array.length_toList]; exact Nat.le_refl _)]
  refine ⟨h1, ?_⟩
  have := h1.length_eq
  rwa [Array.length_toList, Array.length_toList] at this
end Ds
set_option Elab.async false
set_option linter.all false
set_option maxRecDepth 100000
set_option maxHeartbeats 4000000
/-! a set of texts merged with another -/
namespace Ds
open PySem PySem.Spec PyProof.Rows PySem.Froz
section
variable {P : Program} {w : World} {A : Around} {E : Value → Shared → Prop} {s : Shared} {a b r x : Addr} {l lr lx la lb : List Str}
theorem fit_of {t : SetTable} {n : Nat} (h1 : t.place.size = n) (h2 : t.fill ≤ t.mask) : t.fits n = true := by
  unfold SetTable.fits
  rw [Bool.and_eq_true, beq_iff_eq, decide_eq_true_eq]
  exact ⟨h1, h2⟩
theorem fit_sz {t : SetTable} {n : Nat} (h : t.fits n = true) : t.place.size = n ∧ t.fill ≤ t.mask := by
  unfold SetTable.fits at h
  rwa [Bool.and_eq_true, beq_iff_eq, decide_eq_true_eq] at h
theorem tx_order {D : SD} (F : TxOk P w D l) {es' : Array (Int × Value)} {ep' : Nat} {t' : SetTable} (hp : es'.toList.Perm D.1.toList) (hs : t'.place.size = D.1.size) (hf : t'.fill ≤ t'.mask) : TxOk P w (es', ep', t') l := by
  have hz : es'.size = D.1.size := by
    have := hp.length_eq
    rwa [Array.length_toList, Array.length_toList] at this
  refine ⟨fun e he => F.el e (hp.mem_iff.mp he), fun k => (F.mem k).trans ⟨fun ⟨e, he, q⟩ => ⟨e, hp.mem_iff.mpr he, q⟩, fun ⟨e, he, q⟩ => ⟨e, hp.mem_iff.mp he, q⟩⟩, hz.trans F.sz, fit_of (hs.trans hz.symm) hf⟩
/-- what is known of the table: few members, no marks, one of the masks -/
def TMsk (P : Program) (w : World) (h : Heap) (a : Addr) (l : List Str) : Prop :=
  ∃ D : SD, h.get? a = some (sObj "set" D) ∧ TxOk P w D l ∧ l.Nodup ∧ l.length < scanBound ∧ Wlk w D.2.2 ∧ D.2.2.dummies = #[] ∧ Msk D.2.2.mask
theorem TMsk.t {h : Heap} (T : TMsk P w h a l) : TSet P w h a l := by
  obtain ⟨D, e, F, nd, hl, wk, _⟩ := T
  exact ⟨D, e, F, nd, hl, wk⟩
theorem TMsk.nu {h : Heap} (e : h.get? a = some (sObj "set" (nuD w))) : TMsk P w h a [] := by
  obtain ⟨D, e2, F, nd, hl, wk⟩ := TSet.nu (P := P) (w := w) e
  have : D = nuD w := by
    have := e2.symm.trans e
    have h2 := congrArg Obj.data (Option.some.inj this)
    obtain ⟨d1, d2, d3⟩ := D
    simp only [sObj, nuD] at h2
    cases h2
    rfl
  subst this
  exact ⟨_, e, F, nd, hl, wk, rfl, .inl rfl⟩
theorem above_ok {n : Nat} (h : n ≤ 120) : Msk (SetTable.sizeAbove n - 1) ∧ SetTable.sizeAbove n ≤ 128 ∧ n ≤ SetTable.sizeAbove n - 1 := by
  have key : ((List.range 121).all fun n => (decide (SetTable.sizeAbove n - 1 = 7) || decide (SetTable.sizeAbove n - 1 = 15) || decide (SetTable.sizeAbove n - 1 = 31) || decide (SetTable.sizeAbove n - 1 = 63) || decide (SetTable.sizeAbove n - 1 = 127)) && decide (SetTable.sizeAbove n ≤ 128) && decide (n ≤ SetTable.sizeAbove n - 1)) = true := by decide +kernel
  have := List.all_eq_true.mp key n (List.mem_range.mpr (by omega))
  simp only [Bool.and_eq_true, Bool.or_eq_true, decide_eq_true_eq] at this
  refine ⟨?_, this.1.2, this.2⟩
  rcases this.1.1 with (((h | h) | h) | h) | h
  · exact .inl h
  · exact .inr (.inl h)
  · exact .inr (.inr (.inl h))
  · exact .inr (.inr (.inr (.inl h)))
  · exact .inr (.inr (.inr (.inr h)))
theorem put_new {D : SD} (e : s.heap.get? r = some (sObj "set" D)) (es' : Array (Int × Value)) (t' : SetTable) : (s.heap.update r (Obj.putSet es' t')).get? r = some (sObj "set" (es', D.2.1 + 1, t')) := by
  have e3 : s.heap.update r (Obj.putSet es' t') = s.heap.update r (fun _ => sObj "set" (es', D.2.1 + 1, t')) := (upd_const _ e).trans rfl
  rw [e3]
  exact get_upd _ e rfl
/-- the table laid anew -/
theorem relay_t {D : SD} {Q : Unit → Shared → Prop} (e : s.heap.get? r = some (sObj "set" D)) (F : TxOk P w D l) (wk : Wlk w D.2.2) {wanted : Nat} (hw : wanted ≤ 120) (hl : l.length ≤ wanted)
    (q : ∀ h' D', Heap.SameBut r s.heap h' → h'.get? r = some (sObj "set" D') → TxOk P w D' l → Wlk w D'.2.2 → D'.2.2.mask = SetTable.sizeAbove wanted - 1 → D'.2.2.dummies = #[] → Q () { s with heap := h' }) : wpAny (model P w) A (setRelay r wanted) Q E s := by
  obtain ⟨es, ep, t⟩ := D
  obtain ⟨hM, h1, h2⟩ := above_ok hw
  have hsz : es.size = l.length := F.sz
  obtain ⟨t', order, e1, hp, ris, em, el, ed, ep1⟩ := laid_ok hM.full (hs := es.map (·.1)) (by rw [Array.size_map]; omega) t.finger (t.movedTo (SetTable.sizeAbove wanted - 1)) t.led t.plain
  rw [Array.size_map] at hp ep1
  obtain ⟨p1, p2⟩ := fm_order es order hp
  have hr : t.relaid (es.map (·.1)) wanted = some (t', order) := e1
  have sz128 : sizeLine ≥ 128 := by decide
  rw [L2.setRelay_eq]
  refine wpAny_bind (wpAny_setState_of e rfl F.fit ?_)
  dsimp only
  refine L2.wp_if_neg (by omega) ?_
  try refine wpAny_bind (wpAny_pure ?_)
  rw [hr]
  dsimp only
  refine wpAny_bind ?_
  refine L2.wp_if_neg (by rw [p2]; simp) ?_
  try refine wpAny_bind (wpAny_pure ?_)
  refine wpAny_pure ?_
  dsimp only
  refine wpAny_storeSet_of e rfl ?_ (by rw [p2]; omega)
  refine q _ (order.filterMap (es[·]?), ep + 1, t') (Heap.SameBut.update ..) (put_new (D := (es, ep, t)) e _ _) (tx_order F p1 ep1 ?_) ⟨ris, wk.2.imp id fun z => el.trans z⟩ em ed
  show t'.fill ≤ t'.mask
  unfold SetTable.fill
  rw [ed, em, ep1]
  show es.size + 0 ≤ _
  omega
theorem walk_unseen2 {D : SD} {Q : Array (Int × Value) → Shared → Prop} (e : s.heap.get? a = some (sObj "set" D)) (F : TxOk P w D l) (nd : l.Nodup) (hl : l.length < scanBound) (wk : Wlk w D.2.2) (Tr : TSet P w s.heap r lr)
    (q : ∀ es' h' d', es'.toList.Perm D.1.toList → Heap.SameBut r s.heap h' → TSet P w h' r lr → Q es' { s with heap := h', drawn := d' }) :
    wpAny (model P w) A (setWalkUnseen a [r] (some r)) Q E s := by
  obtain ⟨es, ep, t⟩ := D
  have hd : (sObj "set" (es, ep, t)).data = .set es ep t := rfl
  unfold setWalkUnseen
  refine wpAny_bind (wpAny_setState_of e hd F.fit ?_)
  refine wpAny_bind (L2.wpAny_byText ?_)
  by_cases c : (w.params.followText "set-order" || t.led && t.plain || decide (es.size ≤ 1)) = true
  · exact L2.wp_if_pos c (walk_some e F.fit wk.2 fun es' d hp => q es' s.heap d hp (Heap.SameBut.refl r s.heap) Tr)
  refine L2.wp_if_neg c (wpAny_bind (quiet_all _ (fun x hx => ?_) ?_))
  · rcases List.mem_cons.mp hx with rfl | hx
    · exact ⟨l, _, e, F, nd, hl, wk⟩
    · rw [List.mem_singleton.mp hx]
      exact ⟨lr, Tr⟩
  refine L2.wp_if_neg (by decide) (wpAny_bind (wpAny_rule ?_))
  have Tr0 := Tr
  obtain ⟨⟨ef, epf, tf⟩, e2, F2, nd2, hl2, wk2⟩ := Tr
  refine wpAny_bind (wpAny_setState_of e2 rfl F2.fit ?_)
  dsimp only
  by_cases c2 : (tf.led && !t.led || tf.plain && !t.plain) = true
  · have hz : ef.size ≤ sizeLine := by
      have h1 : ef.size = lr.length := F2.sz
      have h2 : scanBound ≤ sizeLine := by decide
      omega
    refine L2.wp_if_pos c2 (wpAny_bind (wpAny_storeSet_of e2 rfl (wpAny_pure (q es _ s.drawn (List.Perm.refl _) (Heap.SameBut.update s.heap r _) ?_)) hz))
    refine ⟨_, put_new (D := (ef, epf, tf)) e2 _ _, tx_order F2 (List.Perm.refl _) (fit_sz F2.fit).1 (fit_sz F2.fit).2, nd2, hl2, wk2.1, ?_⟩
    rcases wk.2 with z | z
    · exact .inl z
    · exact wk2.2.imp id fun y => by show (tf.led && t.led) = true; rw [show tf.led = true from y, show t.led = true from z]; rfl
  · exact L2.wp_if_neg c2 (wpAny_pure (q es s.heap s.drawn (List.Perm.refl _) (Heap.SameBut.refl r s.heap) Tr0))
/-- one by one -/
theorem or_loop {es' : Array (Int × Value)} {D : SD} {h0 : Heap} {each : Sem Unit} {Q : PUnit → Shared → Prop} (ex : h0.get? x = some (sObj "set" D)) (F : TxOk P w D lx) (nd : lx.Nodup) (hx : x ≠ r) (hp : es'.toList.Perm D.1.toList) (hb : lr.length + lx.length + 1 < scanBound)
    (sb : Heap.SameBut r h0 s.heap) (Tr : TSet P w s.heap r lr) (hE : ∀ (s' : Shared) (Q : Unit → Shared → Prop), s'.heap.get? x = some (sObj "set" D) → Q () s' → wpAny (model P w) A each Q E s')
    (q : ∀ h' l', Heap.SameBut r h0 h' → TSet P w h' r l' → (∀ k, k ∈ l' ↔ k ∈ lr ∨ k ∈ lx) → Q PUnit.unit { s with heap := h' }) :
    wpAny (model P w) A (forIn es' PUnit.unit fun (z : Int × Value) (_ : PUnit) => match z with
      | (h, v) => do
        let _ ← holding [v] (setAddHashed r v h)
        each
        let st ← setState x
        if (st.2.1 != D.2.1) = true then do
          unsupported "set.changed-during-merge"
          pure (ForInStep.yield PUnit.unit)
        else pure (ForInStep.yield PUnit.unit)) Q E s := by
  have kp := keys_perm F nd
  have hk : (es'.toList.map fun e => strOf e.2).Perm lx := (hp.map _).trans kp.symm
  have hgood : ∀ e ∈ es'.toList, ∃ k t, e.2 = Value.str k t ∧ e.1 = hashStr w k := fun e he => elem_str F.el e (hp.mem_iff.mp he)
  refine MeetsSeq2.wpAny_forIn_array _ (fun ys (u : PUnit) s' => ∃ done l', es'.toList = done ++ ys ∧ s' = { s with heap := s'.heap } ∧ Heap.SameBut r h0 s'.heap ∧ TSet P w s'.heap r l' ∧ l'.length ≤ lr.length + done.length ∧ ∀ k, k ∈ l' ↔ k ∈ lr ∨ k ∈ done.map fun e => strOf e.2) _ (fun e rest u s' ⟨dn, l', h1, h2, h3, h4, h5, h6⟩ => ?_) (fun u s' ⟨dn, l', h1, h2, h3, h4, h5, h6⟩ => ?_) es' PUnit.unit ⟨[], lr, rfl, rfl, sb, Tr, Nat.le_refl _, fun k => by simp⟩
  · obtain ⟨hh, v⟩ := e
    obtain ⟨k, t, e1, e2⟩ := hgood (hh, v) (by rw [h1]; simp)
    have e1 : v = .str k t := e1
    have e2 : hh = hashStr w k := e2
    subst e1 e2
    have hlen : dn.length + (rest.length + 1) = lx.length := by
      have z1 := congrArg List.length h1
      rw [List.length_append, List.length_cons] at z1
      have z2 := hk.length_eq
      rw [List.length_map] at z2
      omega
    dsimp only
    refine wpAny_bind (wpAny_holding (TSet.add h4 (by omega) fun b1 h7 sb7 T7 => ?_))
    have sb8 : Heap.SameBut r h0 h7 := ⟨sb7.1.trans h3.1, fun c hc => (sb7.2 c hc).trans (h3.2 c hc)⟩
    have ex7 : h7.get? x = some (sObj "set" D) := (sb8.2 x hx).trans ex
    refine wpAny_bind (hE _ _ ex7 ?_)
    refine wpAny_bind (wpAny_setState_of ex7 rfl F.fit ?_)
    refine L2.wp_if_neg (by simp) (wpAny_pure ⟨dn ++ [(hashStr w k, Value.str k t)], plus l' k, by rw [h1]; simp, ?_, sb8, T7, ?_, fun z => ?_⟩)
    · show ({ s' with heap := h7 } : Shared) = { s with heap := h7 }
      rw [h2]
    · have := plus_len l' k
      rw [List.length_append, List.length_singleton]
      omega
    · rw [List.map_append, List.mem_append]
      have hs : (z ∈ [(hashStr w k, Value.str k t)].map fun e => strOf e.2) ↔ z = k := by simp [strOf]
      rw [hs]
      unfold plus
      by_cases c2 : k ∈ l'
      · rw [if_pos c2, h6 z]
        constructor
        · exact fun z1 => z1.imp id .inl
        · rintro (z1 | z1 | z1)
          · exact .inl z1
          · exact .inr z1
          · rw [z1]
            exact (h6 k).mp c2
      · rw [if_neg c2, List.mem_cons, h6 z]
        constructor
        · rintro (z1 | z1 | z1)
          · exact .inr (.inr z1)
          · exact .inl z1
          · exact .inr (.inl z1)
        · rintro (z1 | z1 | z1)
          · exact .inr (.inl z1)
          · exact .inr (.inr z1)
          · exact .inl z1
  · rw [List.append_nil] at h1
    have hd : (dn.map fun e => strOf e.2).Perm lx := by rw [← h1]; exact hk
    rw [h2]
    exact q s'.heap l' h3 h4 fun k => by rw [h6 k, hd.mem_iff]
/-- a set taken into another -/
theorem merge_ok {each : Sem Unit} {Q : Unit → Shared → Prop} (hx : x ≠ r) (Tr : TMsk P w s.heap r lr) (Tx : TSet P w s.heap x lx) (hz : lr.length + lx.length ≤ 60)
    (hE : ∀ (D : SD) (s' : Shared) (Q : Unit → Shared → Prop), s.heap.get? x = some (sObj "set" D) → s'.heap.get? x = some (sObj "set" D) → D.2.2.fits D.1.size = true → Q () s' → wpAny (model P w) A each Q E s')
    (q : ∀ h' d' l', Heap.SameBut r s.heap h' → TSet P w h' r l' → (lr = [] → TMsk P w h' r l') → (∀ k, k ∈ l' ↔ k ∈ lr ∨ k ∈ lx) → Q () { s with heap := h', drawn := d' }) :
    wpAny (model P w) A (setMerge r x each) Q E s := by
  obtain ⟨⟨eo, epo, to⟩, e, F, nd, hl, wk⟩ := Tx
  have Tr0 := Tr
  obtain ⟨⟨er, epr, tr⟩, e2, F2, nd2, hl2, wk2, dm2, mk2⟩ := Tr
  have so : eo.size = lx.length := F.sz
  have sr : er.size = lr.length := F2.sz
  unfold setMerge
  refine L2.wp_if_neg (by simpa using Ne.symm hx) ?_
  refine wpAny_bind (wpAny_setState_of e rfl F.fit ?_)
  dsimp only
  by_cases c0 : eo.isEmpty = true
  · have z0 : lx = [] := by
      rw [Array.isEmpty_iff_size_eq_zero] at c0
      exact List.length_eq_zero_iff.mp (by omega)
    subst z0
    refine L2.wp_if_pos c0 (wpAny_pure (q s.heap s.drawn lr (Heap.SameBut.refl r s.heap) Tr0.t (fun _ => Tr0) fun k => by simp))
  refine L2.wp_if_neg c0 ?_
  have ne0 : 0 < lx.length := by
    rw [Array.isEmpty_iff_size_eq_zero] at c0
    omega
  -- behind the room
  have rest : ∀ (h1 : Heap) (D1 : SD), Heap.SameBut r s.heap h1 → h1.get? r = some (sObj "set" D1) → TxOk P w D1 lr → Wlk w D1.2.2 → D1.2.2.dummies = #[] → Msk D1.2.2.mask → lx.length ≤ D1.2.2.mask →
      wpAny (model P w) A (do
        let __x ← setState r
        match __x with
          | (fst, fst_1, ts) =>
            match ts.road to with
            | SetTable.Road.slotForSlot =>
              storeSet r eo { mask := to.mask, place := to.place, dummies := to.dummies, finger := ts.finger, led := ts.led && to.led, moves := ts.moves, plain := ts.plain && to.plain }
            | SetTable.Road.clean => do
              let __x ← (do
                let some (t, order) := SetTable.laid ts.mask ts.finger ts.moves (ts.led && to.led) (ts.plain && to.plain) (Array.map (fun (x : Int × Value) => x.fst) eo) | unsupported "internal:set-table-without-room"
                let es' := order.filterMap (eo[·]?)
                if es'.size != eo.size then unsupported "internal:set-table-lost-an-element"
                pure (es', t) : Sem (Array (Int × Value) × SetTable))
              match __x with
                | (es, t) => storeSet r es t
            | SetTable.Road.oneByOne => do
              let __do_lift ← setWalkUnseen x [r] (some r)
              forIn __do_lift PUnit.unit fun (z : Int × Value) (__s : PUnit) =>
                  match z with
                  | (h, v) => do
                    let _ ← holding [v] (setAddHashed r v h)
                    each
                    let __do_lift ← setState x
                    if (__do_lift.snd.fst != epo) = true then do
                        unsupported "set.changed-during-merge"
                        pure (ForInStep.yield PUnit.unit)
                      else pure (ForInStep.yield PUnit.unit)
              pure ()) Q E { s with heap := h1 } := fun h1 D1 sb1 e1 F1 wk1 dm1 mk1 hm1 => by
    obtain ⟨es1, ep1, ts⟩ := D1
    have s1 : es1.size = lr.length := F1.sz
    have p1 : ts.place.size = es1.size := (fit_sz F1.fit).1
    have dm1 : ts.dummies = #[] := dm1
    have mk1 : Msk ts.mask := mk1
    have hm1 : lx.length ≤ ts.mask := hm1
    have ex1 : h1.get? x = some (sObj "set" (eo, epo, to)) := (sb1.2 x hx).trans e
    have led2 : ∀ t' : SetTable, t'.led = (ts.led && to.led) → w.params.followText "set-order" = true ∨ t'.led = true := fun t' ht => by
      rcases wk.2 with z | z
      · exact .inl z
      · exact wk1.2.imp id fun y => by rw [ht, show ts.led = true from y, show to.led = true from z]; rfl
    refine wpAny_bind (wpAny_setState_of (s := { s with heap := h1 }) e1 rfl F1.fit ?_)
    dsimp only
    have hfill : ts.fill = lr.length := by
      unfold SetTable.fill
      rw [dm1, p1, s1]
      rfl
    unfold SetTable.road
    cases lr with
    | cons k0 lr =>
      rw [if_pos (by rw [hfill]; simp)]
      dsimp only
      refine wpAny_bind (walk_unseen2 (s := { s with heap := h1 }) ex1 F nd hl wk ⟨_, e1, F1, nd2, hl2, wk1⟩ fun es' h2 d2 hp sb2 T2 => ?_)
      refine wpAny_bind (or_loop (s := { s with heap := h2, drawn := d2 }) (h0 := h1) ex1 F nd hx hp (by unfold scanBound; omega) sb2 T2 (fun s' Q' e' q' => hE _ s' Q' e e' F.fit q') fun h3 l3 sb3 T3 hk3 => ?_)
      refine wpAny_pure (q h3 d2 l3 ⟨sb3.1.trans sb1.1, fun c hc => (sb3.2 c hc).trans (sb1.2 c hc)⟩ T3 (fun z => by cases z) hk3)
    | nil =>
      rw [if_neg (by rw [hfill]; simp)]
      have fin : ∀ (es' : Array (Int × Value)) (t' : SetTable), es'.toList.Perm eo.toList → t'.place.size = eo.size → L2.Ris t'.place.toList → t'.led = (ts.led && to.led) → t'.dummies = #[] → t'.mask = ts.mask → wpAny (model P w) A (storeSet r es' t') Q E { s with heap := h1 } := fun es' t' hp hs hr hld hdm hmk => by
        have hz' : es'.size = eo.size := by
          have := hp.length_eq
          rwa [Array.length_toList, Array.length_toList] at this
        have sz128 : sizeLine ≥ 128 := by decide
        refine wpAny_storeSet_of (s := { s with heap := h1 }) e1 rfl ?_ (by omega)
        have T : TMsk P w (h1.update r (Obj.putSet es' t')) r lx := by
          refine ⟨_, put_new (s := { s with heap := h1 }) (D := (es1, ep1, ts)) e1 es' t', tx_order F hp hs ?_, nd, hl, ⟨hr, led2 t' hld⟩, hdm, by show Msk t'.mask; rw [hmk]; exact mk1⟩
          unfold SetTable.fill
          rw [hdm, hs, hmk]
          show eo.size + 0 ≤ ts.mask
          omega
        have sbu : Heap.SameBut r h1 (h1.update r (Obj.putSet es' t')) := Heap.SameBut.update ..
        exact q _ s.drawn lx ⟨sbu.1.trans sb1.1, fun c hc => (sbu.2 c hc).trans (sb1.2 c hc)⟩ T.t (fun _ => T) fun k => by simp
      by_cases c3 : (ts.mask == to.mask && to.dummies.isEmpty) = true
      · rw [if_pos c3]
        rw [Bool.and_eq_true, beq_iff_eq, Array.isEmpty_iff] at c3
        exact fin eo _ (List.Perm.refl _) (fit_sz F.fit).1 wk.1 rfl c3.2 c3.1.symm
      · rw [if_neg c3]
        dsimp only
        obtain ⟨t', order, g1, hp, ris, em, el, ed, ep2⟩ := laid_ok mk1.full (hs := eo.map (·.1)) (by rw [Array.size_map]; omega) ts.finger ts.moves (ts.led && to.led) (ts.plain && to.plain)
        rw [Array.size_map] at hp ep2
        obtain ⟨p3, p4⟩ := fm_order eo order hp
        rw [g1]
        dsimp only
        refine wpAny_bind ?_
        refine L2.wp_if_neg (by rw [p4]; simp) ?_
        try refine wpAny_bind (wpAny_pure ?_)
        refine wpAny_pure ?_
        exact fin _ t' p3 ep2 ris el ed em
  unfold setRoomFor
  refine wpAny_bind ?_
  refine wpAny_bind (wpAny_setState_of e2 rfl F2.fit ?_)
  dsimp only
  have hfr : tr.fill = lr.length := by
    unfold SetTable.fill
    rw [show tr.dummies = #[] from dm2, (fit_sz F2.fit).1, ← sr]
    rfl
  unfold SetTable.roomFor
  by_cases c1 : (tr.fill + eo.size) * 5 ≥ tr.mask * 3
  · rw [if_pos c1]
    dsimp only
    have hpl : tr.place.size = er.size := (fit_sz F2.fit).1
    refine relay_t e2 F2 wk2 (by omega) (by omega) fun h' D' sb' e' F' wk' em' ed' => ?_
    obtain ⟨hM, _, h2⟩ := above_ok (n := (tr.place.size + eo.size) * 2) (by omega)
    exact rest h' D' sb' e' F' wk' ed' (by rw [em']; exact hM) (by rw [em']; omega)
  · rw [if_neg c1]
    dsimp only
    refine wpAny_pure (rest s.heap (er, epr, tr) (Heap.SameBut.refl r s.heap) e2 F2 wk2 dm2 mk2 ?_)
    show lx.length ≤ tr.mask
    omega
end
end Ds
set_option Elab.async false
set_option linter.all false
set_option maxRecDepth 100000
set_option maxHeartbeats 4000000
/-! x | y of sets of texts -/
namespace Ds
open PySem PySem.Spec PyProof.Rows PySem.Froz L2
theorem entry_or : entryFor table "set.__or__" = some Builtin.«frozenset.__or__» := entryFor_alias (id' := "frozenset.__or__") (by kernel_rfl) rfl (by decide +kernel) (by kernel_rfl)
section
variable {P : Program} {w : World} {A : Around} {E : Value → Shared → Prop} {s : Shared} {a b r : Addr} {l la lb : List Str}
theorem same_epoch {id : String} {D : SD} {Q : Unit → Shared → Prop} (e : s.heap.get? a = some (sObj "set" D)) (hf : D.2.2.fits D.1.size = true) (q : Q () s) : wpAny (model P w) A (Builtin.Frozenset.unchanged id a D.2.1) Q E s := by
  unfold Builtin.Frozenset.unchanged setEpoch
  refine wpAny_bind (wpAny_bind (wpAny_setState_of e rfl hf (wpAny_pure ?_)))
  exact wp_if_neg (by simp) (wpAny_pure q)
theorem TSet.either {Q : Value → Shared → Prop} (Ta : TSet P w s.heap a la) (Tb : TSet P w s.heap b lb) (hab : a ≠ b) (hz : la.length + lb.length ≤ 60)
    (q : ∀ h' d' l', (∀ c o, s.heap.get? c = some o → h'.get? c = some o) → TSet P w h' s.heap.objs.size l' → (∀ k, k ∈ l' ↔ k ∈ la ∨ k ∈ lb) → Q (.ref s.heap.objs.size) { s with heap := h', drawn := d' }) :
    wpAny (model P w) A (binaryOp .BitOr (.ref a) (.ref b)) Q E s := by
  refine wpAny_binaryOp_same (T := "set") (id := "set.__or__") Ta.ty Tb.ty F.fills_set_or F.slot_set_or ?_
  refine wpAny_call_entry F.slot_set_or Ta.ty entry_or ?_ (F.args_set_or_2 _ _)
  show wpAny _ _ (do
    let (self, other) ← Builtin.Frozenset.slot1 "__or__" ⟨[.ref a, .ref b], []⟩
    let (l, r) := (self, other)
    if !(← Builtin.Frozenset.isAnySet l <&&> Builtin.Frozenset.isAnySet r) then
      rule s!"frozenset.{"__or__"}.declined"
      return ← ret .notImplemented
    let l ← Builtin.Frozenset.addrOf l
    let fin ← (do
      let result ← Builtin.Frozenset.copyOf l
      if r != .ref l then holding [result] (Builtin.Frozenset.updateFrom s!"frozenset.{"__or__"}" (← Builtin.Frozenset.addrOf result) r)
      return result)
    ret fin) _ _ _
  refine wpAny_bind (m := Builtin.Frozenset.slot1 "__or__" _) (wpAny_of_eq (a := (Value.ref a, Value.ref b)) (by rfl) ?_)
  dsimp only
  refine wpAny_bind ?_
  unfold andM
  refine wpAny_bind (any_set Ta.ty ?_)
  show wpAny _ _ (Builtin.Frozenset.isAnySet (.ref b)) _ _ _
  refine any_set Tb.ty ?_
  refine wp_if_neg (by decide) ?_
  refine wpAny_bind (wpAny_of_eq (a := a) rfl ?_)
  refine wpAny_bind ?_
  unfold Builtin.Frozenset.copyOf
  refine wpAny_bind (wpAny_bind (base_of Ta.ty ?_))
  refine wpAny_bind (wpAny_newSet_raw fun led hled => ?_)
  subst hled
  have k1 : ∀ c o, s.heap.get? c = some o → (s.heap.push (sObj "set" (nuD w))).get? c = some o := fun c o z => Heap.get?_push_of_some _ z
  have Tr : TMsk P w (s.heap.push (sObj "set" (nuD w))) s.heap.objs.size [] := TMsk.nu (Heap.get?_push_size _ rfl)
  have Ta1 : TSet P w (s.heap.push (sObj "set" (nuD w))) a la := Ta.mv fun o z => k1 _ o z
  have Tb1 : TSet P w (s.heap.push (sObj "set" (nuD w))) b lb := Tb.mv fun o z => k1 _ o z
  have na : a ≠ s.heap.objs.size := by
    obtain ⟨D, e, _⟩ := Ta
    exact Nat.ne_of_lt (Heap.lt_size e)
  have nb : b ≠ s.heap.objs.size := by
    obtain ⟨D, e, _⟩ := Tb
    exact Nat.ne_of_lt (Heap.lt_size e)
  change wpAny _ _ _ _ _ { s with heap := s.heap.push (sObj "set" (nuD w)) }
  have q2 : ∀ h' d' l', Heap.SameBut s.heap.objs.size (s.heap.push (sObj "set" (nuD w))) h' → TSet P w h' s.heap.objs.size l' → (∀ k, k ∈ l' ↔ k ∈ la ∨ k ∈ lb) → Q (.ref s.heap.objs.size) { s with heap := h', drawn := d' } := fun h' d' l' sb T hk =>
    q h' d' l' (fun c o z => (sb.2 c (Nat.ne_of_lt (Heap.lt_size z))).trans (k1 c o z)) T hk
  clear q
  generalize hh1 : s.heap.push (sObj "set" (nuD w)) = h1 at k1 Tr Ta1 Tb1 q2 ⊢
  generalize hn : s.heap.objs.size = n at Tr na nb q2 ⊢
  refine wpAny_bind (wpAny_of_eq (a := n) rfl ?_)
  refine wpAny_bind (merge_ok (s := { s with heap := h1 }) na Tr Ta1 (by show 0 + la.length ≤ 60; omega) (fun D s' Q' _ _ _ q' => wpAny_pure q') fun h2 d2 l2 sb2 _ T2 hk2 => ?_)
  have T2 := T2 rfl
  have hl2 : l2.length = la.length := by
    obtain ⟨D2, e2, F2, nd2, _⟩ := T2
    obtain ⟨Da, ea, Fa, nda, _⟩ := Ta1
    refine (perm_of l2 la nd2 (fun x hx => ((hk2 x).mp hx).resolve_left (by simp)) ?_).length_eq
    exact (perm_of la l2 nda (fun x hx => (hk2 x).mpr (.inr hx)) (by
      refine Classical.byContradiction fun c => ?_
      have := (perm_of (l2.take (la.length + 1)) la (nd2.sublist (List.take_sublist _ _)) (fun x hx => ((hk2 x).mp (List.mem_of_mem_take hx)).resolve_left (by simp)) (by rw [List.length_take]; omega)).length_eq
      rw [List.length_take] at this
      omega)).length_eq ▸ Nat.le_refl _
  refine wpAny_pure ?_
  refine wp_if_pos (by simpa using Ne.symm hab) ?_
  refine wpAny_bind (wpAny_of_eq (a := n) rfl ?_)
  refine wpAny_bind (wpAny_holding ?_)
  unfold Builtin.Frozenset.updateFrom
  have Tb2 : TSet P w h2 b lb := Tb1.mv fun o z => (sb2.2 b nb).trans z
  refine wpAny_bind (any_set (s := { s with heap := h2, drawn := d2 }) Tb2.ty ?_)
  refine wp_if_pos rfl ?_
  refine wpAny_bind (wpAny_of_eq (a := b) rfl ?_)
  unfold Builtin.Frozenset.merge
  have Tb3 := Tb2
  obtain ⟨Db, eb, Fb, ndb, hlb, wkb⟩ := Tb3
  unfold setEpoch
  refine wpAny_bind (wpAny_bind (wpAny_setState_of (s := { s with heap := h2, drawn := d2 }) eb rfl Fb.fit (wpAny_pure ?_)))
  refine merge_ok (s := { s with heap := h2, drawn := d2 }) nb T2 Tb2 (by omega) (fun D s' Q' e1 e2 hf q' => ?_) fun h3 d3 l3 sb3 T3 _ hk3 => ?_
  · have : D = Db := by
      have h1 := (Option.some.inj (e1.symm.trans eb))
      have h2 := congrArg Obj.data h1
      obtain ⟨x1, x2, x3⟩ := D
      obtain ⟨y1, y2, y3⟩ := Db
      simp only [sObj] at h2
      cases h2
      rfl
    subst this
    exact same_epoch e2 hf q'
  · refine wpAny_pure (wpAny_pure ⟨_, rfl, by simp, q2 h3 d3 l3 ⟨sb3.1.trans sb2.1, fun c hc => (sb3.2 c hc).trans (sb2.2 c hc)⟩ T3 fun k => ?_⟩)
    rw [hk3 k, hk2 k]
    simp
end
section
variable {X : Cx}
end
end Ds
set_option Elab.async false
set_option linter.all false
set_option maxRecDepth 100000
set_option maxHeartbeats 4000000
/-! {e for x in it if test for y in it1 if test1}, e a text -/
namespace Ds
open PySem PySem.Spec PyProof.Rows PySem.Froz L2
section
variable {prog : Program} {w : World} {A : Around} {R : Result → Shared → Prop} {s : Shared} {elt t0 i0 t1 i1 : Expr} {fs0 fs1 : List Expr} {scope : Scope} {pos : Pos} {it acc : Value} {env : Env}
abbrev sc2 (elt t0 i0 t1 i1 : Expr) (fs0 fs1 : List Expr) (scope : Scope) (pos : Pos) : Expr := .SetComp elt [⟨t0, i0, fs0, 0⟩, ⟨t1, i1, fs1, 0⟩] scope pos
abbrev tests (env : Env) (fs : List Expr) : Sem Bool := forIn fs true fun c r => if r = true then do let ok ← isTrue c env (eval c env); pure (ForInStep.yield ok) else pure (ForInStep.yield r)
theorem turn_out : compTurn (sc2 elt t0 i0 t1 i1 fs0 fs1 scope pos) 0 it acc env = (do
      standAt i0.pos
      match ← pyNext it with
      | none => pure (.done .next)
      | some v =>
        letOwnedTupleGo t0 it v
        assign t0 env v
        let ok ← tests env fs0
        if ok then
          let x ← eval i1 env
          standAt i1.pos
          let x ← foldedSetIterable i1 env x
          let _ ← runOwn (.compStart (sc2 elt t0 i0 t1 i1 fs0 fs1 scope pos) 1 (← holding [x] (pyIter x)) acc env) env
        again (.compLoop (sc2 elt t0 i0 t1 i1 fs0 fs1 scope pos) 0 it acc env)) := by rfl
theorem turn_in : compTurn (sc2 elt t0 i0 t1 i1 fs0 fs1 scope pos) 1 it acc env = (do
      standAt i1.pos
      match ← pyNext it with
      | none => pure (.done .next)
      | some v =>
        letOwnedTupleGo t1 it v
        assign t1 env v
        let ok ← tests env fs1
        if ok then
          (do let v ← eval elt env; standAt elt.pos; let _ ← call (.builtin "set.add") [acc, v])
        again (.compLoop (sc2 elt t0 i0 t1 i1 fs0 fs1 scope pos) 1 it acc env)) := by rfl
end
end Ds
set_option Elab.async false
set_option linter.all false
set_option maxRecDepth 100000
set_option maxHeartbeats 4000000
/-! x | y of sets of texts; {e for x in it if test for y in it1 if test1} on data, e a text -/
namespace Dl
open PySem PySem.Spec PyProof.Rows L2 Ds
/-- x | y -/
def xOr {S : Type} (f g : Es S) : Es S := fun ρ s => bnd (f ρ s) fun a s => bnd (g ρ s) fun b s => if a.length + b.length ≤ 60 then some (gath (a ++ b), s) else none
/-- {e for x in it if test for y in it1 if test1} -/
def xSc2 {S : Type} (fi : Ea S) (t : Tg) (q : Et S) (fi1 : Ea S) (t1 : Tg) (q1 : Et S) (f : Ev S) (vs vs1 : List Nat) : Es S := fun ρ s => bnd (lcF2 fi t q fi1 t1 q1 f vs vs1 ρ s) fun ds s => match dStrs ds with
  | some xs => if xs.length ≤ 1000 then some (gath xs, s) else none
  | none => none
section
variable {S : Type} {X : Cx} {G : Kx} {Z : Zk S} {W : List Nat} {f : Ev S} {F1 F2 : Es S} {a b e tg tg1 : Expr} {pos : Pos}
end
end Dl
set_option Elab.async false
set_option linter.all false
set_option maxRecDepth 100000
set_option maxHeartbeats 4000000
namespace Lw06
open PySem PySem.Spec PyProof.Rows L2 Dl
-- counted_kinds: slots form 0, total 1, kind 2, times 3
def B_counted_kinds {S : Type} (F_all_pieces : Fn S) : Sv S :=
    (sRet (cN pTuple (aCons (cNl (aSortX (xSc2 (iOf asL (cCall 2 F_all_pieces (aCons (cVar 0) (aCons (cK (.str "s")) aNil)))) (gNm 1) qYes (iOf asT (cB pIx (cVar 1) (cK (.int 0)))) (gTp (gC (gNm 2) (gC (gNm 3) gN0))) qYes (cVar 2) [1, 2, 3] [2, 3]))) aNil)))
def K_counted_kinds {S : Type} (F_all_pieces : Fn S) : Fn S := fnD 4 (B_counted_kinds F_all_pieces)

-- kinds_of: slots form 0
def B_kinds_of {S : Type} (F_all_pieces : Fn S) (F_counted_kinds : Fn S) : Sv S :=
    (sRet (cN pTuple (aCons (cNl (aSortX (xOr (xSet (cCall 2 F_all_pieces (aCons (cVar 0) (aCons (cK (.str "k")) aNil)))) (xSet (cCall 1 F_counted_kinds (aCons (cVar 0) aNil)))))) aNil)))
def K_kinds_of {S : Type} (F_all_pieces : Fn S) (F_counted_kinds : Fn S) : Fn S := fnD 1 (B_kinds_of F_all_pieces F_counted_kinds)

-- doings_of: slots form 0
def B_doings_of {S : Type} (F_all_pieces : Fn S) : Sv S :=
    (sRet (cN pTuple (aCons (cNl (aSortX (xSet (cCall 2 F_all_pieces (aCons (cVar 0) (aCons (cK (.str "d")) aNil)))))) aNil)))
def K_doings_of {S : Type} (F_all_pieces : Fn S) : Fn S := fnD 1 (B_doings_of F_all_pieces)

-- is_of: slots vocabulary 0, form 1, names 2, kinds 3, doings 4, name 5, kind 6, doing 7; cells doings, kinds, names
def B_is_of {S : Type} (F_is_form : Fn S) (F_is_vocabulary : Fn S) (F_doings_of : Fn S) (F_kinds_of : Fn S) (F_names_of : Fn S) : Sv S :=
    (sSeq (sIf (qOr (qNot (qT (cCall 1 F_is_vocabulary (aCons (cVar 0) aNil)))) (qNot (qT (cCall 1 F_is_form (aCons (cVar 1) aNil)))))
    (sRet (cK (.bool false)))
    sNx)
    (sSeq (sAsg (cVar 0) (gTp (gC (gNm 2) (gC (gNm 3) (gC (gNm 4) gN0)))))
    (sRet (cAnd (cQu false (iOf asT (cCall 1 F_names_of (aCons (cVar 1) aNil))) (gNm 5) qYes (cB pIn (cVar 5) (cVar 2)) [5]) (cAnd (cQu false (iOf asT (cCall 1 F_kinds_of (aCons (cVar 1) aNil))) (gNm 6) qYes (cB pIn (cVar 6) (cVar 3)) [6]) (cQu false (iOf asT (cCall 1 F_doings_of (aCons (cVar 1) aNil))) (gNm 7) qYes (cB pIn (cVar 7) (cVar 4)) [7]))))))
def K_is_of {S : Type} (F_is_form : Fn S) (F_is_vocabulary : Fn S) (F_doings_of : Fn S) (F_kinds_of : Fn S) (F_names_of : Fn S) : Fn S := fnD 8 (B_is_of F_is_form F_is_vocabulary F_doings_of F_kinds_of F_names_of)

-- _law_words_in: slots _law_form_here 0, _law_found 1, _law_inner 2, _law_part 3, _law_word 4
def B_w_told {S : Type}  : Sv S :=
    (sRet (cAnd (cU (pIsi "bool") (cVar 0)) (cB pEq (cVar 0) (cVar 1))))
def K_w_told {S : Type}  : Fn S := fnD 2 (B_w_told )

end Lw06
set_option Elab.async false
set_option linter.all false
set_option maxRecDepth 100000
set_option maxHeartbeats 4000000
namespace Lw23
open PySem PySem.Spec PyProof.Rows L2 Dl
def d_OPENERS : D := .tuple [.str "supposed", .str "any", .str "called"]
-- is_opener: slots line 0
def B_is_opener {S : Type}  : Sv S :=
    (sRet (cB pIn (cB pIx (cB pIx (cVar 0) (cK (.int 2))) (cK (.int 0))) (cK d_OPENERS)))
def K_is_opener {S : Type}  : Fn S := fnD 1 (B_is_opener )

-- has_opener: slots lines 0, i 1
def B_w_own {S : Type}  : Sv S :=
    (sSeq (sSet 0 (cK (.str "absurd all an and any are as at be by false if is least many more no not only or same")))
    (sRet (cNl (aSplit (cB pAdd (cVar 0) (cK (.str " some than the then there every either unless"))) (cK (.str " "))))))
def K_w_own {S : Type}  : Fn S := fnD 1 (B_w_own )

-- _law_signs: slots _law_deck_here 0, _law_many 1, _law_small 2, _law_k 3; cells _law_deck_here, _law_small
def B_w_signs {S : Type} (F_w_draw : Fn S) : Sv S :=
    (sSeq (sSet 2 (cK (.str "abcdefghijklmnopqrstuvwxyz")))
    (sRet (cB pJoin (cK (.str "")) (cNl (lcF (iOfA pR1 (aCons (cVar 1) aNil)) (gNm 3) qYes (cB pIx (cVar 2) (cCall 2 F_w_draw (aCons (cVar 0) (aCons (cK (.int 26)) aNil)))) [3])))))
def K_w_signs {S : Type} (F_w_draw : Fn S) : Fn S := fnD 4 (B_w_signs F_w_draw)

-- _law_unlike: slots _law_word 0, _law_there 1, _law_ahead 2, _law_small 3, _law_sign 4; cells _law_ahead, _law_there
def B_w_unlike {S : Type}  : Sv S :=
    (sSeq (sIf (qT (cB pNotIn (cVar 0) (cVar 1)))
    (sRet (cVar 0))
    sNx)
    (sSeq (sSet 3 (cK (.str "abcdefghijklmnopqrstuvwxyz")))
    (sRet (cB pIx (cNl (lcF (iOf asS (cVar 3)) (gNm 4) (qT (cB pNotIn (cB pAdd (cB pAdd (cVar 2) (cVar 4)) (cK (.str "qz"))) (cVar 1))) (cB pAdd (cB pAdd (cVar 2) (cVar 4)) (cK (.str "qz"))) [4])) (cK (.int 0))))))
def K_w_unlike {S : Type}  : Fn S := fnD 5 (B_w_unlike )

-- _law_vocabulary: slots _law_deck_here 0, _law_there 1, _law_great 2, _law_names 3, _law_k 4, _law_word 5, _law_kinds 6, _law_doings 7; own [3, 6, 7]
def B_w_vocabulary {S : Type} (F_w_own : Fn S) (F_w_draw : Fn S) (F_w_signs : Fn S) (F_w_unlike : Fn S) : Sv S :=
    (sSeq (sSet 1 (cCall 0 F_w_own aNil))
    (sSeq (sSet 2 (cN pInt (aCons (cB pEq (cCall 2 F_w_draw (aCons (cVar 0) (aCons (cK (.int 8)) aNil))) (cK (.int 5))) aNil)))
    (sSeq (sOwn 3 (aN lenOk aNil))
    (sSeq (sFor (iOfA pR1 (aCons (cCall 2 F_w_draw (aCons (cVar 0) (aCons (cB pIx (cN pLst (aCons (cK (.int 3)) (aCons (cK (.int 7)) aNil))) (cVar 2)) aNil))) aNil)) (gNm 4)
    (sSeq (sSet 5 (cB pAdd (cU pUpper (cCall 2 F_w_signs (aCons (cVar 0) (aCons (cK (.int 1)) aNil)))) (cCall 2 F_w_signs (aCons (cVar 0) (aCons (cB pIx (cN pLst (aCons (cK (.int 0)) (aCons (cK (.int 1)) (aCons (cK (.int 2)) (aCons (cK (.int 7)) aNil))))) (cCall 2 F_w_draw (aCons (cVar 0) (aCons (cK (.int 4)) aNil)))) aNil)))))
      (sApp 3 (cFl (cCall 3 F_w_unlike (aCons (cVar 5) (aCons (cVar 3) (aCons (cK (.str "Q")) aNil))))))))
    (sSeq (sOwn 6 (aN lenOk aNil))
    (sSeq (sFor (iOfA pR1 (aCons (cCall 2 F_w_draw (aCons (cVar 0) (aCons (cB pIx (cN pLst (aCons (cK (.int 3)) (aCons (cK (.int 7)) aNil))) (cVar 2)) aNil))) aNil)) (gNm 4)
    (sApp 6 (cFl (cCall 3 F_w_unlike (aCons (cCall 2 F_w_signs (aCons (cVar 0) (aCons (cB pAdd (cK (.int 2)) (cCall 2 F_w_draw (aCons (cVar 0) (aCons (cB pIx (cN pLst (aCons (cK (.int 2)) (aCons (cK (.int 7)) aNil))) (cVar 2)) aNil)))) aNil))) (aCons (cB pAdd (cVar 1) (cVar 6)) (aCons (cK (.str "q")) aNil)))))))
    (sSeq (sOwn 7 (aN lenOk aNil))
    (sSeq (sFor (iOfA pR1 (aCons (cCall 2 F_w_draw (aCons (cVar 0) (aCons (cB pIx (cN pLst (aCons (cK (.int 2)) (aCons (cK (.int 4)) aNil))) (cVar 2)) aNil))) aNil)) (gNm 4)
    (sApp 7 (cFl (cCall 3 F_w_unlike (aCons (cCall 2 F_w_signs (aCons (cVar 0) (aCons (cB pAdd (cK (.int 2)) (cCall 2 F_w_draw (aCons (cVar 0) (aCons (cK (.int 3)) aNil)))) aNil))) (aCons (cB pAdd (cB pAdd (cVar 1) (cVar 6)) (cVar 7)) (aCons (cK (.str "q")) aNil)))))))
    (sRet (cN pTup (aCons (cN pTuple (aCons (cNl (aN pSorted (aCons (cVar 3) aNil))) aNil)) (aCons (cN pTuple (aCons (cNl (aN pSorted (aCons (cVar 6) aNil))) aNil)) (aCons (cN pTuple (aCons (cNl (aN pSorted (aCons (cVar 7) aNil))) aNil)) aNil)))))))))))))
def K_w_vocabulary {S : Type} (F_w_own : Fn S) (F_w_draw : Fn S) (F_w_signs : Fn S) (F_w_unlike : Fn S) : Fn S := fnD 8 (B_w_vocabulary F_w_own F_w_draw F_w_signs F_w_unlike)

-- _law_total: slots _law_deck_here 0, _law_kinds 1, _law_parts 2, _law_kind 3; own [2]
def B_w_total {S : Type} (F_w_draw : Fn S) : Sv S :=
    (sSeq (sOwn 2 (aN lenOk aNil))
    (sSeq (sFor (iOf asL (cVar 1)) (gNm 3)
    (sIf (qT (cB pEq (cCall 2 F_w_draw (aCons (cVar 0) (aCons (cK (.int 3)) aNil))) (cK (.int 0))))
      (sApp 2 (cN pTup (aCons (cVar 3) (aCons (cB pAdd (cK (.int 1)) (cCall 2 F_w_draw (aCons (cVar 0) (aCons (cB pIx (cN pLst (aCons (cK (.int 2)) (aCons (cK (.int 30)) aNil))) (cN pInt (aCons (cB pEq (cCall 2 F_w_draw (aCons (cVar 0) (aCons (cK (.int 4)) aNil))) (cK (.int 3))) aNil))) aNil)))) aNil))))
      sNx))
    (sRet (cN pTup (aCons (cN pTuple (aCons (cVar 2) aNil)) (aCons (cCall 2 F_w_draw (aCons (cVar 0) (aCons (cB pIx (cN pLst (aCons (cK (.int 2)) (aCons (cK (.int 10)) (aCons (cB pPow (cK (.int 10)) (cK (.int 9))) aNil)))) (cCall 2 F_w_draw (aCons (cVar 0) (aCons (cK (.int 3)) aNil)))) aNil))) aNil))))))
def K_w_total {S : Type} (F_w_draw : Fn S) : Fn S := fnD 4 (B_w_total F_w_draw)

-- _law_atom: slots _law_deck_here 0, _law_stock 1, _law_terms 2, _law_kinds 3, _law_counts 4, _law_doings 5, _law_letters 6, _law_way 7, _law_one 8, _law_other 9
def B_w_atom {S : Type} (F_w_draw : Fn S) (F_w_total : Fn S) : Sv S :=
    (sSeq (sAsg (cVar 1) (gTp (gC (gNm 3) (gC (gNm 4) (gC (gNm 5) (gC (gNm 6) gN0))))))
    (sSeq (sSet 7 (cCall 2 F_w_draw (aCons (cVar 0) (aCons (cK (.int 6)) aNil))))
    (sSeq (sIf (qAnd (qT (cB pEq (cVar 7) (cK (.int 3)))) (qT (cB pIsNot (cVar 4) (cK .none))))
    (sRet (cN pTup (aCons (cK (.str "least")) (aCons (cCall 2 F_w_total (aCons (cVar 0) (aCons (cVar 4) aNil))) (aCons (cCall 2 F_w_total (aCons (cVar 0) (aCons (cVar 4) aNil))) aNil)))))
    sNx)
    (sSeq (sIf (qOr (qT (cB pEq (cVar 7) (cK (.int 4)))) (qT (cB pEq (cVar 2) (cN pLst aNil))))
    (sRet (cN pTup (aCons (cK (.str "false")) aNil)))
    sNx)
    (sSeq (sSet 8 (cB pIx (cVar 2) (cCall 2 F_w_draw (aCons (cVar 0) (aCons (cN pLen (aCons (cVar 2) aNil)) aNil)))))
    (sSeq (sSet 9 (cB pIx (cVar 2) (cCall 2 F_w_draw (aCons (cVar 0) (aCons (cN pLen (aCons (cVar 2) aNil)) aNil)))))
    (sSeq (sIf (qOr (qT (cB pEq (cVar 7) (cK (.int 2)))) (qOr (qAnd (qT (cB pEq (cVar 7) (cK (.int 5)))) (qT (cB pEq (cVar 5) (cN pLst aNil)))) (qAnd (qT (cB pNe (cVar 7) (cK (.int 5)))) (qT (cB pEq (cVar 3) (cN pLst aNil))))))
    (sRet (cN pTup (aCons (cK (.str "same")) (aCons (cVar 8) (aCons (cVar 9) aNil)))))
    sNx)
    (sSeq (sIf (qT (cB pEq (cVar 7) (cK (.int 5))))
    (sRet (cN pTup (aCons (cK (.str "does")) (aCons (cB pIx (cVar 5) (cCall 2 F_w_draw (aCons (cVar 0) (aCons (cN pLen (aCons (cVar 5) aNil)) aNil)))) (aCons (cVar 8) (aCons (cVar 9) aNil))))))
    sNx)
    (sRet (cN pTup (aCons (cK (.str "is")) (aCons (cVar 8) (aCons (cB pIx (cVar 3) (cCall 2 F_w_draw (aCons (cVar 0) (aCons (cN pLen (aCons (cVar 3) aNil)) aNil)))) aNil)))))))))))))
def K_w_atom {S : Type} (F_w_draw : Fn S) (F_w_total : Fn S) : Fn S := fnD 10 (B_w_atom F_w_draw F_w_total)

-- _law_form: slots _law_deck_here 0, _law_stock 1, _law_terms 2, _law_deep 3, _law_way 4, _law_one 5, _law_x 6
def B_w_form {S : Type} (F_w_draw : Fn S) (F_w_atom : Fn S) (F_w_form : Fn S) : Sv S :=
    (sSeq (sSet 4 (cCall 2 F_w_draw (aCons (cVar 0) (aCons (cK (.int 12)) aNil))))
    (sSeq (sIf (qOr (qT (cB pEq (cVar 3) (cK (.int 0)))) (qT (cB pLt (cVar 4) (cK (.int 4)))))
    (sRet (cCall 3 F_w_atom (aCons (cVar 0) (aCons (cVar 1) (aCons (cVar 2) aNil)))))
    sNx)
    (sSeq (sIf (qT (cB pEq (cVar 4) (cK (.int 4))))
    (sRet (cN pTup (aCons (cK (.str "not")) (aCons (cCall 4 F_w_form (aCons (cVar 0) (aCons (cVar 1) (aCons (cVar 2) (aCons (cB pSub (cVar 3) (cK (.int 1))) aNil))))) aNil))))
    sNx)
    (sSeq (sIf (qT (cB pLt (cVar 4) (cK (.int 9))))
    (sSeq (sSet 5 (cCall 4 F_w_form (aCons (cVar 0) (aCons (cVar 1) (aCons (cVar 2) (aCons (cB pSub (cVar 3) (cK (.int 1))) aNil))))))
      (sRet (cN pTup (aCons (cB pIx (cN pLst (aCons (cK (.str "and")) (aCons (cK (.str "or")) (aCons (cK (.str "if")) (aCons (cK (.str "if")) aNil))))) (cB pSub (cVar 4) (cK (.int 5)))) (aCons (cVar 5) (aCons (cCall 4 F_w_form (aCons (cVar 0) (aCons (cVar 1) (aCons (cVar 2) (aCons (cB pSub (cVar 3) (cK (.int 1))) aNil))))) aNil))))))
    sNx)
    (sSeq (sSet 6 (cB pIx (cB pIx (cVar 1) (cK (.int 3))) (cCall 2 F_w_draw (aCons (cVar 0) (aCons (cN pLen (aCons (cB pIx (cVar 1) (cK (.int 3))) aNil)) aNil)))))
    (sRet (cN pTup (aCons (cB pIx (cN pLst (aCons (cK (.str "every")) (aCons (cK (.str "every")) (aCons (cK (.str "some")) aNil)))) (cB pSub (cVar 4) (cK (.int 9)))) (aCons (cVar 6) (aCons (cCall 4 F_w_form (aCons (cVar 0) (aCons (cVar 1) (aCons (cB pAdd (cVar 2) (cN pLst (aCons (cVar 6) aNil))) (aCons (cB pSub (cVar 3) (cK (.int 1))) aNil))))) aNil))))))))))
def K_w_form {S : Type} (F_w_draw : Fn S) (F_w_atom : Fn S) (F_w_form : Fn S) : Fn S := fnD 7 (B_w_form F_w_draw F_w_atom F_w_form)

-- _law_reason: slots _law_deck_here 0, _law_count 1, _law_ones 2, _law_numbers_here 3, _law_few 4, _law_way 5, _law_k 6, _law_one 7; cells _law_count, _law_deck_here
def B_w_reason {S : Type} (F_w_draw : Fn S) (F_w_signs : Fn S) : Sv S :=
    (sSeq (sSet 2 (cK (.str "again left right orleft orright nothing meaning asmany one someof none nomore cover turned soif not")))
    (sSeq (sSet 2 (cNl (aSplit (cB pAdd (cVar 2) (cK (.str " contrary forany forsome"))) (cK (.str " ")))))
    (sSeq (sSet 3 (cN pTuple (aCons (cNl (lcF (iOfA pR1 (aCons (cK (.int 3)) aNil)) (gNm 6) qYes (cB pAdd (cK (.int 1)) (cCall 2 F_w_draw (aCons (cVar 0) (aCons (cVar 1) aNil)))) [6])) aNil)))
    (sSeq (sSet 4 (cSl pSl (cVar 3) oNo (oOf (cB pAdd (cK (.int 1)) (cCall 2 F_w_draw (aCons (cVar 0) (aCons (cK (.int 3)) aNil)))))))
    (sSeq (sSet 5 (cCall 2 F_w_draw (aCons (cVar 0) (aCons (cK (.int 8)) aNil))))
    (sSeq (sIf (qT (cB pEq (cVar 5) (cK (.int 0))))
    (sRet (cN pTup (aCons (cB pIx (cN pLst (aCons (cK (.str "given")) (aCons (cK (.str "itself")) (aCons (cK (.str "clearly")) aNil)))) (cCall 2 F_w_draw (aCons (cVar 0) (aCons (cK (.int 3)) aNil)))) aNil)))
    sNx)
    (sSeq (sIf (qT (cB pLt (cVar 5) (cK (.int 4))))
    (sRet (cN pTup (aCons (cB pIx (cVar 2) (cCall 2 F_w_draw (aCons (cVar 0) (aCons (cN pLen (aCons (cVar 2) aNil)) aNil)))) (aCons (cB pIx (cVar 3) (cK (.int 0))) aNil))))
    sNx)
    (sSeq (sIf (qT (cB pEq (cVar 5) (cK (.int 4))))
    (sRet (cB pAdd (cN pTup (aCons (cB pIx (cN pLst (aCons (cK (.str "both")) (aCons (cK (.str "then")) (aCons (cK (.str "absurd")) (aCons (cK (.str "put")) (aCons (cK (.str "apart")) aNil)))))) (cCall 2 F_w_draw (aCons (cVar 0) (aCons (cK (.int 5)) aNil)))) aNil)) (cSl pSl (cVar 3) oNo (oOf (cK (.int 2))))))
    sNx)
    (sSeq (sIf (qT (cB pEq (cVar 5) (cK (.int 5))))
    (sRet (cB pAdd (cN pTup (aCons (cB pIx (cN pLst (aCons (cK (.str "two")) (aCons (cK (.str "cases")) aNil))) (cCall 2 F_w_draw (aCons (cVar 0) (aCons (cK (.int 2)) aNil)))) aNil)) (cVar 3)))
    sNx)
    (sSeq (sIf (qT (cB pEq (cVar 5) (cK (.int 6))))
    (sRet (cN pTup (aCons (cB pIx (cN pLst (aCons (cK (.str "at")) (aCons (cK (.str "such")) aNil))) (cCall 2 F_w_draw (aCons (cVar 0) (aCons (cK (.int 2)) aNil)))) (aCons (cB pIx (cVar 3) (cK (.int 0))) (aCons (cB pAdd (cU pUpper (cCall 2 F_w_signs (aCons (cVar 0) (aCons (cK (.int 1)) aNil)))) (cCall 2 F_w_signs (aCons (cVar 0) (aCons (cK (.int 2)) aNil)))) aNil)))))
    sNx)
    (sSeq (sIf (qT (cB pEq (cB pMod (cB pIx (cVar 3) (cK (.int 0))) (cK (.int 3))) (cK (.int 0))))
    (sRet (cN pTup (aCons (cK (.str "by")) (aCons (cVar 4) aNil))))
    sNx)
    (sSeq (sIf (qT (cB pEq (cB pMod (cB pIx (cVar 3) (cK (.int 0))) (cK (.int 3))) (cK (.int 1))))
    (sRet (cN pTup (aCons (cK (.str "earlier")) (aCons (cCall 2 F_w_signs (aCons (cVar 0) (aCons (cB pAdd (cK (.int 1)) (cCall 2 F_w_draw (aCons (cVar 0) (aCons (cK (.int 8)) aNil)))) aNil))) (aCons (cSl pSl (cVar 4) (oOf (cK (.int 1))) oNo) aNil)))))
    sNx)
    (sRet (cN pTup (aCons (cK (.str "sums")) (aCons (cSl pSl (cVar 4) (oOf (cK (.int 1))) oNo) (aCons (cN pTuple (aCons (cNl (lcF (iOf asT (cSl pSl (cVar 4) (oOf (cK (.int 1))) oNo)) (gNm 7) qYes (cCall 2 F_w_draw (aCons (cVar 0) (aCons (cB pPow (cK (.int 10)) (cK (.int 9))) aNil))) [7])) aNil)) aNil)))))))))))))))))
def K_w_reason {S : Type} (F_w_draw : Fn S) (F_w_signs : Fn S) : Fn S := fnD 8 (B_w_reason F_w_draw F_w_signs)

-- _law_opener: slots _law_deck_here 0, _law_count 1, _law_name 2, _law_way 3
def B_w_opener {S : Type} (F_w_draw : Fn S) : Sv S :=
    (sSeq (sSet 3 (cCall 2 F_w_draw (aCons (cVar 0) (aCons (cK (.int 3)) aNil))))
    (sSeq (sIf (qT (cB pEq (cVar 3) (cK (.int 0))))
    (sRet (cN pTup (aCons (cN pTup (aCons (cK (.str "supposed")) aNil)) (aCons (cK .none) aNil))))
    sNx)
    (sSeq (sIf (qT (cB pEq (cVar 3) (cK (.int 1))))
    (sRet (cN pTup (aCons (cN pTup (aCons (cK (.str "any")) (aCons (cVar 2) aNil))) (aCons (cVar 2) aNil))))
    sNx)
    (sRet (cN pTup (aCons (cN pTup (aCons (cK (.str "called")) (aCons (cVar 2) (aCons (cB pAdd (cK (.int 1)) (cCall 2 F_w_draw (aCons (cVar 0) (aCons (cVar 1) aNil)))) aNil)))) (aCons (cVar 2) aNil)))))))
def K_w_opener {S : Type} (F_w_draw : Fn S) : Fn S := fnD 4 (B_w_opener F_w_draw)

-- _law_lines: slots _law_deck_here 0, _law_vocabulary_here 1, _law_meanings 2, _law_names 3, _law_kinds 4, _law_doings 5, _law_stock 6, _law_many 7, _law_lines_here 8, _law_boxes 9, _law_inside 10, _law_taken 11, _law_level 12, _law_k 13, _law_opens 14, _law_reason_here 15, _law_name 16, _law_there 17, _law_one 18; cells _law_level; own [8, 9, 11]
def B_w_lines {S : Type} (F_w_draw : Fn S) (F_w_unlike : Fn S) (F_w_opener : Fn S) (F_w_reason : Fn S) (F_w_form : Fn S) : Sv S :=
    (sSeq (sAsg (cVar 1) (gTp (gC (gNm 3) (gC (gNm 4) (gC (gNm 5) gN0)))))
    (sSeq (sSet 6 (cN pTup (aCons (cB pAdd (cNl (aN pList (aCons (cVar 4) aNil))) (cNl (lcF (iOf asT (cVar 2)) (gNm 18) qYes (cB pIx (cVar 18) (cK (.int 0))) [18]))) (aCons (cNl (aN pList (aCons (cVar 4) aNil))) (aCons (cNl (aN pList (aCons (cVar 5) aNil))) (aCons (cB pAdd (cNl (aN pListS1 (aCons (cK (.str "uvwxyz")) aNil))) (cN pLst (aCons (cK (.str "x9")) (aCons (cK (.str "u8")) aNil)))) aNil))))))
    (sSeq (sSet 7 (cCall 2 F_w_draw (aCons (cVar 0) (aCons (cB pIx (cN pLst (aCons (cK (.int 9)) (aCons (cK (.int 9)) (aCons (cK (.int 9)) (aCons (cK (.int 60)) aNil))))) (cCall 2 F_w_draw (aCons (cVar 0) (aCons (cK (.int 4)) aNil)))) aNil))))
    (sSeq (sOwn 8 (aN lenOk aNil))
    (sSeq (sOwn 9 (aN lenOk aNil))
    (sSeq (sSet 10 (cN pLst aNil))
    (sSeq (sOwn 11 (aN pList (aCons (cVar 3) aNil)))
    (sSeq (sSet 12 (cK (.int 0)))
    (sSeq (sFor (iOfA pR2 (aCons (cK (.int 1)) (aCons (cB pAdd (cVar 7) (cK (.int 1))) aNil))) (gNm 13)
    (sSeq (sSet 14 (cAnd (cB pLt (cVar 12) (cK (.int 8))) (cB pEq (cCall 2 F_w_draw (aCons (cVar 0) (aCons (cK (.int 3)) aNil))) (cK (.int 0)))))
      (sSeq (sIf (qT (cVar 14))
      (sSeq (sSet 12 (cB pIx (cN pLst (aCons (cB pAdd (cVar 12) (cK (.int 1))) (aCons (cB pAdd (cK (.int 1)) (cCall 2 F_w_draw (aCons (cVar 0) (aCons (cB pAdd (cVar 12) (cK (.int 1))) aNil)))) aNil))) (cCall 2 F_w_draw (aCons (cVar 0) (aCons (cK (.int 2)) aNil)))))
        (sSeq (sApp 11 (cFl (cCall 3 F_w_unlike (aCons (cB pAdd (cB pAdd (cK (.str "Zq")) (cB pIx (cK (.str "abcdefgh")) (cB pMod (cVar 13) (cK (.int 8))))) (cB pIx (cK (.str "abcdefgh")) (cB pFdiv (cVar 13) (cK (.int 8))))) (aCons (cVar 11) (aCons (cK (.str "W")) aNil))))))
        (sSeq (sAsg (cFl (cCall 3 F_w_opener (aCons (cVar 0) (aCons (cB pAdd (cVar 7) (cK (.int 1))) (aCons (cB pIx (cVar 11) (cU pNeg (cK (.int 1)))) aNil))))) (gTp (gC (gNm 15) (gC (gNm 16) gN0))))
        (sSet 10 (cB pAdd (cNl (lcF (iOf asL (cVar 10)) (gNm 18) (qT (cB pLt (cB pIx (cVar 18) (cK (.int 0))) (cVar 12))) (cVar 18) [18])) (cN pLst (aCons (cN pTup (aCons (cVar 12) (aCons (cVar 13) (aCons (cVar 16) aNil)))) aNil)))))))
      (sSeq (sSet 12 (cB pIx (cN pLst (aCons (cVar 12) (aCons (cVar 12) (aCons (cCall 2 F_w_draw (aCons (cVar 0) (aCons (cB pAdd (cVar 12) (cK (.int 1))) aNil))) aNil)))) (cCall 2 F_w_draw (aCons (cVar 0) (aCons (cK (.int 3)) aNil)))))
        (sSeq (sSet 15 (cCall 2 F_w_reason (aCons (cVar 0) (aCons (cB pAdd (cVar 7) (cK (.int 1))) aNil))))
        (sSet 10 (cNl (lcF (iOf asL (cVar 10)) (gNm 18) (qT (cB pLe (cB pIx (cVar 18) (cK (.int 0))) (cVar 12))) (cVar 18) [18]))))))
      (sSeq (sSet 17 (cB pAdd (cNl (aN pList (aCons (cVar 3) aNil))) (cNl (lcF (iOf asL (cVar 10)) (gNm 18) (qT (cB pIsNot (cB pIx (cVar 18) (cK (.int 2))) (cK .none))) (cB pIx (cVar 18) (cK (.int 2))) [18]))))
      (sSeq (sApp 8 (cN pTup (aCons (cVar 12) (aCons (cCall 4 F_w_form (aCons (cVar 0) (aCons (cVar 6) (aCons (cVar 17) (aCons (cK (.int 2)) aNil))))) (aCons (cVar 15) aNil)))))
      (sApp 9 (cN pTuple (aCons (cVar 10) aNil))))))))
    (sSeq (sApp 8 (cN pTup (aCons (cK (.int 0)) (aCons (cCall 4 F_w_form (aCons (cVar 0) (aCons (cVar 6) (aCons (cNl (aN pList (aCons (cVar 3) aNil))) (aCons (cK (.int 2)) aNil))))) (aCons (cCall 2 F_w_reason (aCons (cVar 0) (aCons (cB pAdd (cVar 7) (cK (.int 1))) aNil))) aNil)))))
    (sRet (cN pTup (aCons (cN pTuple (aCons (cVar 8) aNil)) (aCons (cB pAdd (cVar 9) (cN pLst (aCons (cN pTup aNil) aNil))) aNil))))))))))))))
def K_w_lines {S : Type} (F_w_draw : Fn S) (F_w_unlike : Fn S) (F_w_opener : Fn S) (F_w_reason : Fn S) (F_w_form : Fn S) : Fn S := fnD 19 (B_w_lines F_w_draw F_w_unlike F_w_opener F_w_reason F_w_form)

-- _law_numbers: slots _law_inside 0, _law_level 1, _law_number 2, _law_name 3
def B_w_numbers {S : Type}  : Sv S :=
    (sRet (cN pTuple (aCons (cNl (lcF (iOf asT (cVar 0)) (gTp (gC (gNm 1) (gC (gNm 2) (gC (gNm 3) gN0)))) qYes (cVar 2) [1, 2, 3])) aNil)))
def K_w_numbers {S : Type}  : Fn S := fnD 4 (B_w_numbers )

-- _law_last: slots _law_boxes 0, _law_i 1, _law_k 2; cells _law_boxes, _law_i
def B_w_whole {S : Type}  : Sv S :=
    (sRet (cAnd (cU (pIsi "int") (cVar 0)) (cNot (cU (pIsi "bool") (cVar 0)))))
def K_w_whole {S : Type}  : Fn S := fnD 1 (B_w_whole )

end Lw23
set_option Elab.async false
set_option linter.all false
set_option maxRecDepth 100000
set_option maxHeartbeats 4000000
/-! zip of a tuple and a list -/
namespace Dl
open PySem PySem.Spec PyProof.Rows L2
def pZipM : List D → Option (List D)
  | [.tuple a, .list b] => some (zipD a b)
  | _ => none
section
variable {S : Type} {X : Cx} {G : Kx} {Z : Zk S} {W : List Nat} {fa : Ea S} {e e2 : Expr} {p pos : Pos}
end
end Dl
set_option Elab.async false
set_option linter.all false
set_option maxRecDepth 100000
set_option maxHeartbeats 4000000
/-! in, not in, over a tuple of anything -/
namespace Dl
open PySem PySem.Spec PyProof.Rows L2 SeqAt
end Dl
set_option Elab.async false
set_option linter.all false
set_option maxRecDepth 100000
set_option maxHeartbeats 4000000
/-! any(elt for .. in row for ..) where the first row is empty -/
namespace Dl
open PySem PySem.Spec PyProof.Rows L2 GxR
section
variable {Y : Cx} {elt tg iter : Expr} {ifs : List Expr} {rest : List Comprehension} {scope : Scope} {pos : Pos} {it : Addr} {fp : List Addr} {tn : Nat → Heap → Prop} {J : It} {σw : L2.St} {Q : VK} {g0 : Nat} {A' : Around}
end
section
variable {X : Cx} {pins : List (Addr × Obj)} {σ : L2.St} {H : Hp} {s : Shared} {Q : VK} {c P : Addr} {elt tg iter : Expr} {ifs : List Expr} {rest : List Comprehension} {scope : Scope} {gp : Pos} {own : List (Str × Nat)} {wi : TI} {p pos : Pos} {k : Nat}
end
section
variable {S : Type}
def cQu0 (fi : Ea S) : Ev S := fun ρ s => bnd (fi ρ s) fun ds s => match ds with
  | [] => some (.bool false, s)
  | _ => none
variable {X : Cx} {G : Kx} {Z : Zk S} {W : List Nat} {c T : Addr} {elt tg iter : Expr} {ifs : List Expr} {rest : List Comprehension} {scope : Scope} {p gp pos : Pos} {own : List (Str × Nat)} {fi : Ea S} {k : Nat}
end
end Dl
set_option Elab.async false
set_option linter.all false
set_option maxRecDepth 100000
set_option maxHeartbeats 4000000
namespace Lw28
open PySem PySem.Spec PyProof.Rows L2 Dl
def t_REASONS : List (Str × Str) := [(("given" : Str), ("" : Str)), (("supposed" : Str), ("" : Str)), (("any" : Str), ("N" : Str)), (("called" : Str), ("Nk" : Str)), (("again" : Str), ("k" : Str)), (("itself" : Str), ("" : Str)), (("both" : Str), ("kk" : Str)), (("left" : Str), ("k" : Str)), (("right" : Str), ("k" : Str)), (("orleft" : Str), ("k" : Str)), (("orright" : Str), ("k" : Str)), (("then" : Str), ("kk" : Str)), (("absurd" : Str), ("kk" : Str)), (("nothing" : Str), ("k" : Str)), (("at" : Str), ("kN" : Str)), (("such" : Str), ("kN" : Str)), (("put" : Str), ("kk" : Str)), (("soif" : Str), ("k" : Str)), (("not" : Str), ("k" : Str)), (("contrary" : Str), ("k" : Str)), (("cases" : Str), ("kkk" : Str)), (("forany" : Str), ("k" : Str)), (("forsome" : Str), ("k" : Str)), (("meaning" : Str), ("k" : Str)), (("earlier" : Str), ("EK" : Str)), (("asmany" : Str), ("k" : Str)), (("one" : Str), ("k" : Str)), (("two" : Str), ("kkk" : Str)), (("someof" : Str), ("k" : Str)), (("none" : Str), ("k" : Str)), (("nomore" : Str), ("k" : Str)), (("apart" : Str), ("kk" : Str)), (("cover" : Str), ("k" : Str)), (("turned" : Str), ("k" : Str)), (("sums" : Str), ("KT" : Str)), (("by" : Str), ("B" : Str)), (("clearly" : Str), ("" : Str))]
def d_NAMING : D := .tuple [.str "any", .str "called"]
-- letters_of: slots form 0, terms 1, term 2
def B_letters_of {S : Type} (F_all_pieces : Fn S) (F_is_letter : Fn S) : Sv S :=
    (sSeq (sSet 1 (cNl (lcF (iOf asL (cCall 2 F_all_pieces (aCons (cVar 0) (aCons (cK (.str "t")) aNil)))) (gNm 2) (qT (cCall 1 F_is_letter (aCons (cVar 2) aNil))) (cVar 2) [2])))
    (sRet (cN pTuple (aCons (cNl (aSortX (xSet (cB pAdd (cVar 1) (cCall 2 F_all_pieces (aCons (cVar 0) (aCons (cK (.str "x")) aNil))))))) aNil))))
def K_letters_of {S : Type} (F_all_pieces : Fn S) (F_is_letter : Fn S) : Fn S := fnD 3 (B_letters_of F_all_pieces F_is_letter)

-- with_words: slots vocabulary 0, names 1, kinds 2
def B_with_words {S : Type}  : Sv S :=
    (sRet (cN pTup (aCons (cN pTuple (aCons (cNl (aSortX (xOr (xSet (cB pIx (cVar 0) (cK (.int 0)))) (xSet (cVar 1))))) aNil)) (aCons (cN pTuple (aCons (cNl (aSortX (xOr (xSet (cB pIx (cVar 0) (cK (.int 1)))) (xSet (cVar 2))))) aNil)) (aCons (cB pIx (cVar 0) (cK (.int 2))) aNil)))))
def K_with_words {S : Type}  : Fn S := fnD 3 (B_with_words )

-- is_line_number: slots thing 0, last 1
def B_is_line_number {S : Type} (F_is_whole : Fn S) : Sv S :=
    (sRet (cAnd (cCall 1 F_is_whole (aCons (cVar 0) aNil)) (cCh pLe pLe (cK (.int 1)) (cVar 0) (cVar 1))))
def K_is_line_number {S : Type} (F_is_whole : Fn S) : Fn S := fnD 2 (B_is_line_number F_is_whole)

-- are_line_numbers: slots thing 0, last 1, number 2; cells last
def B_are_line_numbers {S : Type} (F_is_line_number : Fn S) : Sv S :=
    (sRet (cAnd (cU (pIsi "tuple") (cVar 0)) (cQu false (iOf asT (cVar 0)) (gNm 2) qYes (cCall 2 F_is_line_number (aCons (cVar 2) (aCons (cVar 1) aNil))) [2])))
def K_are_line_numbers {S : Type} (F_is_line_number : Fn S) : Fn S := fnD 3 (B_are_line_numbers F_is_line_number)

-- are_times: slots thing 0, number 1
def B_are_times {S : Type} (F_is_whole_from : Fn S) : Sv S :=
    (sRet (cAnd (cU (pIsi "tuple") (cVar 0)) (cQu false (iOf asT (cVar 0)) (gNm 1) qYes (cCall 2 F_is_whole_from (aCons (cVar 1) (aCons (cK (.int 0)) aNil))) [1])))
def K_are_times {S : Type} (F_is_whole_from : Fn S) : Fn S := fnD 2 (B_are_times F_is_whole_from)

-- fits_reason: slots place 0, thing 1, last 2
def B_fits_reason {S : Type} (F_is_line_number : Fn S) (F_is_name : Fn S) (F_is_small : Fn S) (F_are_times : Fn S) (F_are_line_numbers : Fn S) : Sv S :=
    (sSeq (sIf (qT (cB pEq (cVar 0) (cK (.str "k"))))
    (sRet (cCall 2 F_is_line_number (aCons (cVar 1) (aCons (cVar 2) aNil))))
    sNx)
    (sSeq (sIf (qT (cB pEq (cVar 0) (cK (.str "N"))))
    (sRet (cCall 1 F_is_name (aCons (cVar 1) aNil)))
    sNx)
    (sSeq (sIf (qT (cB pEq (cVar 0) (cK (.str "E"))))
    (sRet (cCall 3 F_is_small (aCons (cVar 1) (aCons (cK (.int 1)) (aCons (cK (.int 8)) aNil)))))
    sNx)
    (sSeq (sIf (qT (cB pEq (cVar 0) (cK (.str "T"))))
    (sRet (cCall 1 F_are_times (aCons (cVar 1) aNil)))
    sNx)
    (sSeq (sIf (qT (cB pEq (cVar 0) (cK (.str "B"))))
    (sRet (cAnd (cCall 2 F_are_line_numbers (aCons (cVar 1) (aCons (cVar 2) aNil))) (cCh pLe pLe (cK (.int 1)) (cN pLen (aCons (cVar 1) aNil)) (cK (.int 3)))))
    sNx)
    (sRet (cCall 2 F_are_line_numbers (aCons (cVar 1) (aCons (cVar 2) aNil)))))))))
def K_fits_reason {S : Type} (F_is_line_number : Fn S) (F_is_name : Fn S) (F_is_small : Fn S) (F_are_times : Fn S) (F_are_line_numbers : Fn S) : Fn S := fnD 3 (B_fits_reason F_is_line_number F_is_name F_is_small F_are_times F_are_line_numbers)

-- is_reason: slots thing 0, last 1, shape 2, place 3, piece 4; cells last
def B_is_reason {S : Type} (F_fits_reason : Fn S) : Sv S :=
    (sSeq (sIf (qOr (qNot (qT (cU (pIsi "tuple") (cVar 0)))) (qOr (qNot (qT (cVar 0))) (qNot (qT (cU (pIsi "str") (cB pIx (cVar 0) (cK (.int 0))))))))
    (sRet (cK (.bool false)))
    sNx)
    (sSeq (sSet 2 (cU (pDg t_REASONS) (cB pIx (cVar 0) (cK (.int 0)))))
    (sSeq (sIf (qOr (qT (cB pIs (cVar 2) (cK .none))) (qT (cB pNe (cN pLen (aCons (cVar 2) aNil)) (cB pSub (cN pLen (aCons (cVar 0) aNil)) (cK (.int 1))))))
    (sRet (cK (.bool false)))
    sNx)
    (sSeq (sIf (qNot (qT (cQu false (iOfA pZipS (aCons (cVar 2) (aCons (cSl pSl (cVar 0) (oOf (cK (.int 1))) oNo) aNil))) (gTp (gC (gNm 3) (gC (gNm 4) gN0))) qYes (cCall 3 F_fits_reason (aCons (cVar 3) (aCons (cVar 4) (aCons (cVar 1) aNil)))) [3, 4])))
    (sRet (cK (.bool false)))
    sNx)
    (sRet (cOr (cB pNe (cB pIx (cVar 0) (cK (.int 0))) (cK (.str "sums"))) (cB pEq (cN pLen (aCons (cB pIx (cVar 0) (cK (.int 1))) aNil)) (cN pLen (aCons (cB pIx (cVar 0) (cK (.int 2))) aNil)))))))))
def K_is_reason {S : Type} (F_fits_reason : Fn S) : Fn S := fnD 5 (B_is_reason F_fits_reason)

-- meaning_letters: slots meaning 0
def B_meaning_letters {S : Type} (F_letters_of : Fn S) : Sv S :=
    (sRet (cN pLst (aCons (cB pIx (cVar 0) (cK (.int 1))) (aStar (cCall 1 F_letters_of (aCons (cB pIx (cVar 0) (cK (.int 2))) aNil)) aNil))))
def K_meaning_letters {S : Type} (F_letters_of : Fn S) : Fn S := fnD 1 (B_meaning_letters F_letters_of)

-- is_meaning: slots ahead 0, thing 1, kind 2, x 3, form 4, letter 5, part 6; cells x
def B_is_meaning {S : Type} (F_is_kind : Fn S) (F_is_of : Fn S) (F_is_form : Fn S) (F_is_letter : Fn S) (F_parts_of : Fn S) (F_free_letters : Fn S) (F_meaning_letters : Fn S) : Sv S :=
    (sSeq (sIf (qOr (qNot (qT (cU (pIsi "tuple") (cVar 1)))) (qT (cB pNe (cN pLen (aCons (cVar 1) aNil)) (cK (.int 3)))))
    (sRet (cK (.bool false)))
    sNx)
    (sSeq (sAsg (cVar 1) (gTp (gC (gNm 2) (gC (gNm 3) (gC (gNm 4) gN0)))))
    (sSeq (sIf (qOr (qNot (qT (cCall 1 F_is_kind (aCons (cVar 2) aNil)))) (qOr (qT (cB pIn (cVar 2) (cB pIx (cVar 0) (cK (.int 1))))) (qT (cB pIn (cVar 2) (cB pIx (cVar 0) (cK (.int 2)))))))
    (sRet (cK (.bool false)))
    sNx)
    (sSeq (sIf (qOr (qNot (qT (cCall 1 F_is_letter (aCons (cVar 3) aNil)))) (qOr (qNot (qT (cCall 1 F_is_form (aCons (cVar 4) aNil)))) (qNot (qT (cCall 2 F_is_of (aCons (cVar 0) (aCons (cVar 4) aNil)))))))
    (sRet (cK (.bool false)))
    sNx)
    (sSeq (sIf (qOr (qT (cQu true (iOf asT (cCall 1 F_free_letters (aCons (cVar 4) aNil))) (gNm 5) qYes (cB pNe (cVar 5) (cVar 3)) [5])) (qT (cQu true (iOf asT (cCall 1 F_parts_of (aCons (cVar 4) aNil))) (gNm 6) qYes (cB pEq (cB pIx (cVar 6) (cK (.int 0))) (cK (.str "least"))) [6])))
    (sRet (cK (.bool false)))
    sNx)
    (sRet (cQu false (iOf asL (cCall 1 F_meaning_letters (aCons (cVar 1) aNil))) (gNm 5) qYes (cB pEq (cN pLen (aCons (cVar 5) aNil)) (cK (.int 2))) [5])))))))
def K_is_meaning {S : Type} (F_is_kind : Fn S) (F_is_of : Fn S) (F_is_form : Fn S) (F_is_letter : Fn S) (F_parts_of : Fn S) (F_free_letters : Fn S) (F_meaning_letters : Fn S) : Fn S := fnD 7 (B_is_meaning F_is_kind F_is_of F_is_form F_is_letter F_parts_of F_free_letters F_meaning_letters)

-- are_meanings: slots vocabulary 0, thing 1, ahead 2, letters 3, meaning 4, own 5, letter 6; cells letters; own [3]
def B_are_meanings {S : Type} (F_is_meaning : Fn S) (F_meaning_letters : Fn S) (F_with_words : Fn S) : Sv S :=
    (sSeq (sIf (qNot (qT (cU (pIsi "tuple") (cVar 1))))
    (sRet (cK (.bool false)))
    sNx)
    (sSeq (sSet 2 (cVar 0))
    (sSeq (sOwn 3 (aN lenOk aNil))
    (sSeq (sFor (iOf asT (cVar 1)) (gNm 4)
    (sSeq (sIf (qNot (qT (cCall 2 F_is_meaning (aCons (cVar 2) (aCons (cVar 4) aNil)))))
      (sRet (cK (.bool false)))
      sNx)
      (sSeq (sSet 5 (cCall 1 F_meaning_letters (aCons (cVar 4) aNil)))
      (sSeq (sIf (qT (cQu true (iOf asL (cVar 5)) (gNm 6) qYes (cB pIn (cVar 6) (cVar 3)) [6]))
      (sRet (cK (.bool false)))
      sNx)
      (sSeq (sExt 3 (cVar 5))
      (sSet 2 (cCall 3 F_with_words (aCons (cVar 2) (aCons (cN pLst aNil) (aCons (cN pLst (aCons (cB pIx (cVar 4) (cK (.int 0))) aNil)) aNil))))))))))
    (sRet (cK (.bool true)))))))
def K_are_meanings {S : Type} (F_is_meaning : Fn S) (F_meaning_letters : Fn S) (F_with_words : Fn S) : Fn S := fnD 7 (B_are_meanings F_is_meaning F_meaning_letters F_with_words)

-- catches_meaning: slots form 0, meanings 1, told 2, letters 3, caught 4, meaning 5, letter 6, part 7, kind 8; cells letters, told
def B_catches_meaning {S : Type} (F_meaning_letters : Fn S) (F_parts_of : Fn S) : Sv S :=
    (sSeq (sSet 2 (cNl (lcF (iOf asT (cVar 1)) (gNm 5) qYes (cB pIx (cVar 5) (cK (.int 0))) [5])))
    (sSeq (sSet 3 (cNl (lcF2 (iOf asT (cVar 1)) (gNm 5) qYes (iOf asL (cCall 1 F_meaning_letters (aCons (cVar 5) aNil))) (gNm 6) qYes (cVar 6) [5, 6] [6])))
    (sSeq (sSet 4 (cNl (lcF (iOf asT (cCall 1 F_parts_of (aCons (cVar 0) aNil))) (gNm 7) (qAnd (qT (cB pIn (cB pIx (cVar 7) (cK (.int 0))) (cN pTup (aCons (cK (.str "every")) (aCons (cK (.str "some")) aNil))))) (qT (cB pIn (cB pIx (cVar 7) (cK (.int 1))) (cVar 3)))) (cVar 7) [7])))
    (sRet (cQu0 (iOf asL (cVar 4)))))))
def K_catches_meaning {S : Type} (F_meaning_letters : Fn S) (F_parts_of : Fn S) : Fn S := fnD 9 (B_catches_meaning F_meaning_letters F_parts_of)

-- is_line: slots thing 0, last 1
def B_is_line {S : Type} (F_is_reason : Fn S) (F_is_form : Fn S) (F_is_whole : Fn S) : Sv S :=
    (sSeq (sIf (qOr (qNot (qT (cU (pIsi "tuple") (cVar 0)))) (qT (cB pNe (cN pLen (aCons (cVar 0) aNil)) (cK (.int 3)))))
    (sRet (cK (.bool false)))
    sNx)
    (sRet (cAnd (cCall 1 F_is_whole (aCons (cB pIx (cVar 0) (cK (.int 0))) aNil)) (cAnd (cCall 1 F_is_form (aCons (cB pIx (cVar 0) (cK (.int 1))) aNil)) (cCall 2 F_is_reason (aCons (cB pIx (cVar 0) (cK (.int 2))) (aCons (cVar 1) aNil)))))))
def K_is_line {S : Type} (F_is_reason : Fn S) (F_is_form : Fn S) (F_is_whole : Fn S) : Fn S := fnD 2 (B_is_line F_is_reason F_is_form F_is_whole)

-- level_fits: slots ahead 0, line 1, least 2, most 3
def B_level_fits {S : Type} (F_is_opener : Fn S) : Sv S :=
    (sSeq (sAsg (cIf (qT (cCall 1 F_is_opener (aCons (cVar 1) aNil))) (cN pTup (aCons (cK (.int 1)) (aCons (cB pAdd (cVar 0) (cK (.int 1))) aNil))) (cN pTup (aCons (cK (.int 0)) (aCons (cVar 0) aNil)))) (gTp (gC (gNm 2) (gC (gNm 3) gN0))))
    (sRet (cCh pLe pLe (cVar 2) (cB pIx (cVar 1) (cK (.int 0))) (cVar 3))))
def K_level_fits {S : Type} (F_is_opener : Fn S) : Fn S := fnD 4 (B_level_fits F_is_opener)

-- levels_fit: slots lines 0, ahead 1, line 2
def B_levels_fit {S : Type} (F_level_fits : Fn S) : Sv S :=
    (sSeq (sSet 1 (cK (.int 0)))
    (sSeq (sFor (iOf asT (cVar 0)) (gNm 2)
    (sSeq (sIf (qNot (qT (cCall 2 F_level_fits (aCons (cVar 1) (aCons (cVar 2) aNil)))))
      (sRet (cK (.bool false)))
      sNx)
      (sSet 1 (cB pIx (cVar 2) (cK (.int 0))))))
    (sRet (cB pEq (cVar 1) (cK (.int 0))))))
def K_levels_fit {S : Type} (F_level_fits : Fn S) : Fn S := fnD 3 (B_levels_fit F_level_fits)

-- opened_names: slots lines 0, line 1
def B_opened_names {S : Type}  : Sv S :=
    (sRet (cNl (lcF (iOf asLT (cVar 0)) (gNm 1) (qT (cB pIn (cB pIx (cB pIx (cVar 1) (cK (.int 2))) (cK (.int 0))) (cK d_NAMING))) (cB pIx (cB pIx (cVar 1) (cK (.int 2))) (cK (.int 1))) [1])))
def K_opened_names {S : Type}  : Fn S := fnD 2 (B_opened_names )

-- names_differ: slots vocabulary 0, lines 1, names 2, name 3; cells vocabulary
def B_names_differ {S : Type} (F_opened_names : Fn S) : Sv S :=
    (sSeq (sSet 2 (cCall 1 F_opened_names (aCons (cVar 1) aNil)))
    (sRet (cAnd (cB pEq (cLenX (xSet (cVar 2))) (cN pLen (aCons (cVar 2) aNil))) (cNot (cQu true (iOf asL (cVar 2)) (gNm 3) qYes (cB pIn (cVar 3) (cB pIx (cVar 0) (cK (.int 0)))) [3])))))
def K_names_differ {S : Type} (F_opened_names : Fn S) : Fn S := fnD 4 (B_names_differ F_opened_names)

-- form_fits: slots argument 0, form 1, names 2, vocabulary 3, meanings 4, wide 5, meaning 6, kind 7; cells vocabulary
def B_form_fits {S : Type} (F_with_words : Fn S) (F_catches_meaning : Fn S) (F_is_of : Fn S) (F_free_letters : Fn S) (F_counted_kinds : Fn S) : Sv S :=
    (sSeq (sAsg (cSl pSl (cVar 0) oNo (oOf (cK (.int 2)))) (gTp (gC (gNm 3) (gC (gNm 4) gN0))))
    (sSeq (sSet 5 (cCall 3 F_with_words (aCons (cVar 3) (aCons (cVar 2) (aCons (cNl (lcF (iOf asT (cVar 4)) (gNm 6) qYes (cB pIx (cVar 6) (cK (.int 0))) [6])) aNil)))))
    (sSeq (sIf (qOr (qT (cCall 1 F_free_letters (aCons (cVar 1) aNil))) (qOr (qNot (qT (cCall 2 F_is_of (aCons (cVar 5) (aCons (cVar 1) aNil))))) (qT (cCall 2 F_catches_meaning (aCons (cVar 1) (aCons (cVar 4) aNil))))))
    (sRet (cK (.bool false)))
    sNx)
    (sRet (cQu false (iOf asT (cCall 1 F_counted_kinds (aCons (cVar 1) aNil))) (gNm 7) qYes (cB pIn (cVar 7) (cB pIx (cVar 3) (cK (.int 1)))) [7])))))
def K_form_fits {S : Type} (F_with_words : Fn S) (F_catches_meaning : Fn S) (F_is_of : Fn S) (F_free_letters : Fn S) (F_counted_kinds : Fn S) : Fn S := fnD 8 (B_form_fits F_with_words F_catches_meaning F_is_of F_free_letters F_counted_kinds)

-- forms_fit: slots argument 0, lines 1, line 2, openers 3, i 4; cells lines
def B_forms_fit {S : Type} (F_all_openers : Fn S) (F_form_fits : Fn S) (F_opened_names : Fn S) : Sv S :=
    (sSeq (sSet 1 (cB pIx (cVar 0) (cK (.int 2))))
    (sSeq (sFor (iOfA pZipM (aCons (cVar 1) (aCons (cCall 1 F_all_openers (aCons (cVar 1) aNil)) aNil))) (gTp (gC (gNm 2) (gC (gNm 3) gN0)))
    (sIf (qNot (qT (cCall 3 F_form_fits (aCons (cVar 0) (aCons (cB pIx (cVar 2) (cK (.int 1))) (aCons (cCall 1 F_opened_names (aCons (cNl (lcF (iOf asT (cVar 3)) (gNm 4) qYes (cB pIx (cVar 1) (cB pSub (cVar 4) (cK (.int 1)))) [4])) aNil)) aNil))))))
      (sRet (cK (.bool false)))
      sNx))
    (sRet (cK (.bool true)))))
def K_forms_fit {S : Type} (F_all_openers : Fn S) (F_form_fits : Fn S) (F_opened_names : Fn S) : Fn S := fnD 5 (B_forms_fit F_all_openers F_form_fits F_opened_names)

-- are_lines: slots thing 0, line 1; cells thing
def B_are_lines {S : Type} (F_levels_fit : Fn S) (F_is_line : Fn S) : Sv S :=
    (sSeq (sIf (qOr (qNot (qT (cU (pIsi "tuple") (cVar 0)))) (qNot (qT (cVar 0))))
    (sRet (cK (.bool false)))
    sNx)
    (sRet (cAnd (cQu false (iOf asT (cVar 0)) (gNm 1) qYes (cCall 2 F_is_line (aCons (cVar 1) (aCons (cN pLen (aCons (cVar 0) aNil)) aNil))) [1]) (cCall 1 F_levels_fit (aCons (cVar 0) aNil)))))
def K_are_lines {S : Type} (F_levels_fit : Fn S) (F_is_line : Fn S) : Fn S := fnD 2 (B_are_lines F_levels_fit F_is_line)

-- is_argument: slots thing 0, vocabulary 1, meanings 2, lines 3
def B_is_argument {S : Type} (F_are_lines : Fn S) (F_are_meanings : Fn S) (F_is_vocabulary : Fn S) (F_forms_fit : Fn S) (F_names_differ : Fn S) : Sv S :=
    (sSeq (sIf (qOr (qNot (qT (cU (pIsi "tuple") (cVar 0)))) (qT (cB pNe (cN pLen (aCons (cVar 0) aNil)) (cK (.int 3)))))
    (sRet (cK (.bool false)))
    sNx)
    (sSeq (sAsg (cVar 0) (gTp (gC (gNm 1) (gC (gNm 2) (gC (gNm 3) gN0)))))
    (sSeq (sIf (qOr (qNot (qT (cCall 1 F_is_vocabulary (aCons (cVar 1) aNil)))) (qOr (qNot (qT (cCall 2 F_are_meanings (aCons (cVar 1) (aCons (cVar 2) aNil))))) (qNot (qT (cCall 1 F_are_lines (aCons (cVar 3) aNil))))))
    (sRet (cK (.bool false)))
    sNx)
    (sRet (cAnd (cCall 2 F_names_differ (aCons (cVar 1) (aCons (cVar 3) aNil))) (cCall 1 F_forms_fit (aCons (cVar 0) aNil)))))))
def K_is_argument {S : Type} (F_are_lines : Fn S) (F_are_meanings : Fn S) (F_is_vocabulary : Fn S) (F_forms_fit : Fn S) (F_names_differ : Fn S) : Fn S := fnD 4 (B_is_argument F_are_lines F_are_meanings F_is_vocabulary F_forms_fit F_names_differ)

-- _law_good: slots _law_deck_here 0, _law_k 1, _law_j 2, _law_m 3, _law_name 4, _law_ones 5, _law_good_here 6, _law_turn 7, _law_word 8; cells _law_deck_here, _law_j, _law_k, _law_m
def B_w_told {S : Type} (F_is_argument : Fn S) : Sv S :=
    (sSeq (sSet 2 (cN pTup (aCons (cN pTup (aCons (cK (.int 0)) (aCons (cN pTup (aCons (cK (.str "false")) aNil)) (aCons (cN pTup (aCons (cK (.str "given")) aNil)) aNil)))) (aCons (cN pTup (aCons (cVar 0) (aCons (cN pTup (aCons (cK (.str "false")) aNil)) (aCons (cVar 1) aNil)))) (aCons (cN pTup (aCons (cK (.int 0)) (aCons (cN pTup (aCons (cK (.str "false")) aNil)) (aCons (cN pTup (aCons (cK (.str "again")) (aCons (cK (.int 1)) aNil))) aNil)))) aNil)))))
    (sRet (cCall 1 F_is_argument (aCons (cN pTup (aCons (cN pTup (aCons (cN pTup aNil) (aCons (cN pTup aNil) (aCons (cN pTup aNil) aNil)))) (aCons (cN pTup aNil) (aCons (cVar 2) aNil)))) aNil))))
def K_w_told {S : Type} (F_is_argument : Fn S) : Fn S := fnD 3 (B_w_told F_is_argument)

end Lw28
set_option Elab.async false
set_option linter.all false
set_option maxRecDepth 100000
set_option maxHeartbeats 4000000
namespace Lw29
open PySem PySem.Spec PyProof.Rows L2 Dl
-- _law_meanings: slots _law_deck_here 0, _law_vocabulary_here 1, _law_names 2, _law_kinds 3, _law_doings 4, _law_found 5, _law_told 6, _law_k 7, _law_kind 8, _law_letters 9, _law_x 10, _law_form_here 11, _law_sign 12; cells _law_k; own [5, 6]
def B_w_meanings {S : Type} (F_w_draw : Fn S) (F_w_unlike : Fn S) (F_w_own : Fn S) (F_w_signs : Fn S) (F_w_form : Fn S) : Sv S :=
    (sSeq (sAsg (cVar 1) (gTp (gC (gNm 2) (gC (gNm 3) (gC (gNm 4) gN0)))))
    (sSeq (sOwn 5 (aN lenOk aNil))
    (sSeq (sOwn 6 (aN pList (aCons (cVar 3) aNil)))
    (sSeq (sFor (iOfA pR1 (aCons (cB pIx (cN pLst (aCons (cK (.int 0)) (aCons (cK (.int 0)) (aCons (cK (.int 1)) (aCons (cK (.int 2)) (aCons (cK (.int 6)) aNil)))))) (cCall 2 F_w_draw (aCons (cVar 0) (aCons (cK (.int 5)) aNil)))) aNil)) (gNm 7)
    (sSeq (sSet 8 (cFl (cCall 3 F_w_unlike (aCons (cCall 2 F_w_signs (aCons (cVar 0) (aCons (cB pAdd (cK (.int 2)) (cCall 2 F_w_draw (aCons (cVar 0) (aCons (cK (.int 4)) aNil)))) aNil))) (aCons (cB pAdd (cB pAdd (cCall 0 F_w_own aNil) (cVar 6)) (cNl (aN pList (aCons (cVar 4) aNil)))) (aCons (cK (.str "z")) aNil))))))
      (sSeq (sSet 9 (cNl (lcF (iOf asS (cK (.str "uvwxyz"))) (gNm 12) qYes (cB pAdd (cVar 12) (cN pStr (aCons (cVar 7) aNil))) [12])))
      (sSeq (sSet 10 (cB pIx (cVar 9) (cCall 2 F_w_draw (aCons (cVar 0) (aCons (cK (.int 6)) aNil)))))
      (sSeq (sSet 11 (cFl (cCall 4 F_w_form (aCons (cVar 0) (aCons (cN pTup (aCons (cNl (aN pList (aCons (cVar 6) aNil))) (aCons (cK .none) (aCons (cNl (aN pList (aCons (cVar 4) aNil))) (aCons (cVar 9) aNil))))) (aCons (cB pAdd (cNl (aN pList (aCons (cVar 2) aNil))) (cN pLst (aCons (cVar 10) aNil))) (aCons (cK (.int 2)) aNil)))))))
      (sSeq (sApp 5 (cN pTup (aCons (cVar 8) (aCons (cVar 10) (aCons (cVar 11) aNil)))))
      (sApp 6 (cVar 8))))))))
    (sRet (cN pTuple (aCons (cVar 5) aNil)))))))
def K_w_meanings {S : Type} (F_w_draw : Fn S) (F_w_unlike : Fn S) (F_w_own : Fn S) (F_w_signs : Fn S) (F_w_form : Fn S) : Fn S := fnD 13 (B_w_meanings F_w_draw F_w_unlike F_w_own F_w_signs F_w_form)

end Lw29
set_option Elab.async false
set_option linter.all false
set_option maxRecDepth 100000
set_option maxHeartbeats 4000000
/-! sum(xs, ()), xs a list of tuples -/
namespace Dl
open PySem PySem.Spec PyProof.Rows L2
abbrev Opt := Addr × List V
def flatO (as : List Opt) : List V := as.flatMap (·.2)
/-- what the sum so far is -/
def Tot (os : List Opt) (lo S I : Addr) (h : Heap) (t : Addr) (xs : List V) : Prop :=
  ((t, xs) ∈ os ∧ t < lo) ∨ (lo ≤ t ∧ t ≠ S ∧ t ≠ I ∧ ∃ us, Vals xs us ∧ h.get? t = some (tpO us))
def Ops (os : List Opt) (lo : Addr) (h : Heap) : Prop := ∀ o ∈ os, o.1 < lo ∧ ∃ us, Vals o.2 us ∧ IsTup h o.1 us.toArray
section
variable {P : Program} {w : World} {A : Around} {R : Result → Shared → Prop} {I S l b lo : Addr} {as : List Opt}
theorem tup_at {h h' : Heap} {a : Addr} {its : Array Value} (x : IsTup h a its) (k : ∀ o, h.get? a = some o → h'.get? a = some o) : IsTup h' a its := let ⟨o, ho, r⟩ := x; ⟨o, k o ho, r⟩
theorem Ops.at {os : List Opt} {h h' : Heap} (x : Ops os lo h) (k : ∀ b o, b < lo → h.get? b = some o → h'.get? b = some o) : Ops os lo h' := fun o ho => let ⟨z, us, r, t⟩ := x o ho; ⟨z, us, r, tup_at t fun q => k _ q z⟩
theorem Tot.tup {os : List Opt} {h : Heap} {t : Addr} {xs : List V} (x : Tot os lo S I h t xs) (ops : Ops os lo h) : ∃ us, Vals xs us ∧ IsTup h t us.toArray := by
  rcases x with ⟨x, _⟩ | ⟨_, _, _, us, r, e⟩
  · obtain ⟨_, us, r, t⟩ := ops _ x
    exact ⟨us, r, t⟩
  · exact ⟨us, r, _, e, rfl, _, rfl⟩
theorem Tot.at {os : List Opt} {h h' : Heap} {t : Addr} {xs : List V} (x : Tot os lo S I h t xs) (k : ∀ b o, b ≠ S → b ≠ I → h.get? b = some o → h'.get? b = some o) : Tot os lo S I h' t xs := by
  rcases x with x | ⟨h1, h2, h3, us, r, e⟩
  · exact .inl x
  · exact .inr ⟨h1, h2, h3, us, r, k _ _ h2 h3 e⟩
theorem flat_len (as : List Opt) (i : Nat) : (flatO (as.take i)).length ≤ (flatO as).length := by
  have : flatO as = flatO (as.take i) ++ flatO (as.drop i) := by
    unfold flatO
    rw [← List.flatMap_append, List.take_append_drop]
  rw [this, List.length_append]
  omega
end
section
variable {X : Cx} {G : Kx}
end
end Dl
set_option Elab.async false
set_option linter.all false
set_option maxRecDepth 100000
set_option maxHeartbeats 4000000
/-! zip of a list and a tuple -/
namespace Dl
open PySem PySem.Spec PyProof.Rows L2
section
variable {S : Type} {X : Cx} {G : Kx} {Z : Zk S} {W : List Nat} {fa : Ea S} {e e2 : Expr} {p pos : Pos}
end
end Dl
set_option Elab.async false
set_option linter.all false
set_option maxRecDepth 100000
set_option maxHeartbeats 4000000
/-! a list times a number -/
namespace Dl
open PySem PySem.Spec PyProof.Rows L2
section
variable {S : Type} {X : Cx} {G : Kx} {Z : Zk S} {W : List Nat} {f g : Ev S} {a b : Expr} {pos : Pos}
end
end Dl
set_option Elab.async false
set_option linter.all false
set_option maxRecDepth 100000
set_option maxHeartbeats 4000000
namespace Lw75
open PySem PySem.Spec PyProof.Rows L2 Dl
open Lw28 (t_REASONS)
def B_show_share {S : Type}  : Sv S :=
    (sRet (cIf (qT (cB pGt (cVar 1) (cK (.int 1)))) (cJs [cFm (cVar 1), (cK (.str " ")), cFm (cVar 0)]) (cVar 0)))
def K_show_share {S : Type}  : Fn S := fnD 2 (B_show_share )

-- show_sum: slots total 0, parts 1, number 2, told 3, kind 4, times 5; own [3]
def B_w_vocabulary {S : Type} (F_w_draw : Fn S) (F_w_row : Fn S) : Sv S :=
    (sSeq (sSet 1 (cN pLst (aCons (cCall 2 F_w_draw (aCons (cVar 0) (aCons (cK (.int 4)) aNil))) (aCons (cCall 2 F_w_draw (aCons (cVar 0) (aCons (cK (.int 4)) aNil))) (aCons (cCall 2 F_w_draw (aCons (cVar 0) (aCons (cK (.int 3)) aNil))) aNil)))))
    (sSeq (sIf (qT (cB pEq (cCall 2 F_w_draw (aCons (cVar 0) (aCons (cK (.int 8)) aNil))) (cK (.int 1))))
    (sSet 1 (cN pLst (aCons (cK (.int 6)) (aCons (cK (.int 6)) (aCons (cK (.int 3)) aNil)))))
    sNx)
    (sSeq (sSet 2 (cCall 3 F_w_row (aCons (cVar 0) (aCons (cB pAdd (cB pIx (cVar 1) (cK (.int 1))) (cB pIx (cVar 1) (cK (.int 2)))) (aCons (cK (.int 0)) aNil)))))
    (sSeq (sSet 3 (cCall 2 F_w_draw (aCons (cVar 0) (aCons (cB pAdd (cN pLen (aCons (cVar 2) aNil)) (cK (.int 1))) aNil))))
    (sSeq (sSet 2 (cB pAdd (cSl pSl (cVar 2) (oOf (cVar 3)) oNo) (cSl pSl (cVar 2) oNo (oOf (cVar 3)))))
    (sSeq (sSet 4 (cCall 3 F_w_row (aCons (cVar 0) (aCons (cB pIx (cVar 1) (cK (.int 0))) (aCons (cK (.int 1)) aNil)))))
    (sRet (cN pTup (aCons (cN pTuple (aCons (cNl (aN pSorted (aCons (cVar 4) aNil))) aNil)) (aCons (cN pTuple (aCons (cNl (aN pSorted (aCons (cSl pSl (cVar 2) oNo (oOf (cB pIx (cVar 1) (cK (.int 1))))) aNil))) aNil)) (aCons (cN pTuple (aCons (cNl (aN pSorted (aCons (cSl pSl (cVar 2) (oOf (cB pIx (cVar 1) (cK (.int 1)))) oNo) aNil))) aNil)) aNil)))))))))))
def K_w_vocabulary {S : Type} (F_w_draw : Fn S) (F_w_row : Fn S) : Fn S := fnD 5 (B_w_vocabulary F_w_draw F_w_row)

-- _law_great: slots _law_deck_here 0
def B_w_sum {S : Type} (F_w_great : Fn S) (F_w_draw : Fn S) : Sv S :=
    (sSeq (sOwn 2 (aN lenOk aNil))
    (sSeq (sFor (iOf asT (cVar 1)) (gNm 3)
    (sSeq (sSet 4 (cB pIx (cN pLst (aCons (cK (.int 0)) (aCons (cK (.int 0)) (aCons (cK (.int 1)) (aCons (cK (.int 1)) (aCons (cB pAdd (cK (.int 2)) (cCall 2 F_w_draw (aCons (cVar 0) (aCons (cK (.int 3)) aNil)))) (aCons (cCall 1 F_w_great (aCons (cVar 0) aNil)) aNil))))))) (cCall 2 F_w_draw (aCons (cVar 0) (aCons (cK (.int 6)) aNil)))))
      (sIf (qT (cB pGt (cVar 4) (cK (.int 0))))
      (sApp 2 (cN pTup (aCons (cVar 3) (aCons (cVar 4) aNil))))
      sNx)))
    (sRet (cN pTup (aCons (cN pTuple (aCons (cVar 2) aNil)) (aCons (cB pIx (cN pLst (aCons (cK (.int 0)) (aCons (cK (.int 1)) (aCons (cCall 2 F_w_draw (aCons (cVar 0) (aCons (cK (.int 12)) aNil))) (aCons (cCall 1 F_w_great (aCons (cVar 0) aNil)) aNil))))) (cCall 2 F_w_draw (aCons (cVar 0) (aCons (cK (.int 4)) aNil)))) aNil))))))
def K_w_sum {S : Type} (F_w_great : Fn S) (F_w_draw : Fn S) : Fn S := fnD 5 (B_w_sum F_w_great F_w_draw)

-- _law_plain: slots _law_deck_here 0, _law_vocabulary_here 1, _law_bound 2, _law_names 3, _law_kinds 4, _law_doings 5, _law_terms 6, _law_way 7, _law_t 8, _law_u 9
def B_w_plain {S : Type} (F_w_draw : Fn S) (F_w_sum : Fn S) : Sv S :=
    (sSeq (sAsg (cSl pSl (cVar 1) oNo (oOf (cK (.int 3)))) (gTp (gC (gNm 3) (gC (gNm 4) (gC (gNm 5) gN0)))))
    (sSeq (sSet 6 (cB pAdd (cNl (aN pList (aCons (cVar 3) aNil))) (cNl (aN pList (aCons (cVar 2) aNil)))))
    (sSeq (sSet 7 (cCall 2 F_w_draw (aCons (cVar 0) (aCons (cK (.int 9)) aNil))))
    (sSeq (sIf (qT (cB pEq (cVar 7) (cK (.int 8))))
    (sRet (cN pTup (aCons (cK (.str "false")) aNil)))
    sNx)
    (sSeq (sIf (qOr (qT (cB pEq (cVar 6) (cN pLst aNil))) (qT (cB pEq (cVar 7) (cK (.int 7)))))
    (sRet (cN pTup (aCons (cK (.str "least")) (aCons (cCall 2 F_w_sum (aCons (cVar 0) (aCons (cB pIx (cVar 1) (cU pNeg (cK (.int 1)))) aNil))) (aCons (cCall 2 F_w_sum (aCons (cVar 0) (aCons (cB pIx (cVar 1) (cU pNeg (cK (.int 1)))) aNil))) aNil)))))
    sNx)
    (sSeq (sSet 8 (cB pIx (cVar 6) (cCall 2 F_w_draw (aCons (cVar 0) (aCons (cN pLen (aCons (cVar 6) aNil)) aNil)))))
    (sSeq (sSet 9 (cB pIx (cVar 6) (cCall 2 F_w_draw (aCons (cVar 0) (aCons (cN pLen (aCons (cVar 6) aNil)) aNil)))))
    (sSeq (sIf (qAnd (qT (cB pLt (cVar 7) (cK (.int 3)))) (qT (cB pNe (cVar 4) (cN pTup aNil))))
    (sRet (cN pTup (aCons (cK (.str "is")) (aCons (cVar 8) (aCons (cB pIx (cVar 4) (cCall 2 F_w_draw (aCons (cVar 0) (aCons (cN pLen (aCons (cVar 4) aNil)) aNil)))) aNil)))))
    sNx)
    (sSeq (sIf (qAnd (qT (cB pLt (cVar 7) (cK (.int 6)))) (qT (cB pNe (cVar 5) (cN pTup aNil))))
    (sRet (cN pTup (aCons (cK (.str "does")) (aCons (cB pIx (cVar 5) (cCall 2 F_w_draw (aCons (cVar 0) (aCons (cN pLen (aCons (cVar 5) aNil)) aNil)))) (aCons (cVar 8) (aCons (cVar 9) aNil))))))
    sNx)
    (sRet (cN pTup (aCons (cK (.str "same")) (aCons (cVar 8) (aCons (cVar 9) aNil))))))))))))))
def K_w_plain {S : Type} (F_w_draw : Fn S) (F_w_sum : Fn S) : Fn S := fnD 10 (B_w_plain F_w_draw F_w_sum)

-- _law_form: slots _law_deck_here 0, _law_vocabulary_here 1, _law_bound 2, _law_deep 3, _law_way 4, _law_one 5, _law_letter 6
def B_w_form {S : Type} (F_w_draw : Fn S) (F_w_plain : Fn S) (F_w_form : Fn S) : Sv S :=
    (sSeq (sSet 4 (cCall 2 F_w_draw (aCons (cVar 0) (aCons (cK (.int 9)) aNil))))
    (sSeq (sIf (qOr (qT (cB pEq (cVar 3) (cK (.int 0)))) (qT (cB pLt (cVar 4) (cK (.int 2)))))
    (sRet (cCall 3 F_w_plain (aCons (cVar 0) (aCons (cVar 1) (aCons (cVar 2) aNil)))))
    sNx)
    (sSeq (sIf (qT (cB pEq (cVar 4) (cK (.int 2))))
    (sRet (cN pTup (aCons (cK (.str "not")) (aCons (cCall 4 F_w_form (aCons (cVar 0) (aCons (cVar 1) (aCons (cVar 2) (aCons (cB pSub (cVar 3) (cK (.int 1))) aNil))))) aNil))))
    sNx)
    (sSeq (sIf (qT (cB pLt (cVar 4) (cK (.int 6))))
    (sSeq (sSet 5 (cCall 4 F_w_form (aCons (cVar 0) (aCons (cVar 1) (aCons (cVar 2) (aCons (cB pSub (cVar 3) (cK (.int 1))) aNil))))))
      (sRet (cN pTup (aCons (cB pIx (cN pLst (aCons (cK (.str "and")) (aCons (cK (.str "or")) (aCons (cK (.str "if")) aNil)))) (cB pSub (cVar 4) (cK (.int 3)))) (aCons (cVar 5) (aCons (cCall 4 F_w_form (aCons (cVar 0) (aCons (cVar 1) (aCons (cVar 2) (aCons (cB pSub (cVar 3) (cK (.int 1))) aNil))))) aNil))))))
    sNx)
    (sSeq (sSet 6 (cB pIx (cN pLst (aCons (cK (.str "x")) (aCons (cK (.str "y")) (aCons (cK (.str "z")) (aCons (cK (.str "u")) (aCons (cK (.str "v")) (aCons (cK (.str "w")) (aCons (cK (.str "x1")) (aCons (cK (.str "u0")) (aCons (cK (.str "w9")) aNil)))))))))) (cCall 2 F_w_draw (aCons (cVar 0) (aCons (cK (.int 9)) aNil)))))
    (sRet (cN pTup (aCons (cB pIx (cN pLst (aCons (cK (.str "every")) (aCons (cK (.str "some")) (aCons (cK (.str "every")) aNil)))) (cB pSub (cVar 4) (cK (.int 6)))) (aCons (cVar 6) (aCons (cCall 4 F_w_form (aCons (cVar 0) (aCons (cVar 1) (aCons (cB pAdd (cVar 2) (cN pTup (aCons (cVar 6) aNil))) (aCons (cB pSub (cVar 3) (cK (.int 1))) aNil))))) aNil))))))))))
def K_w_form {S : Type} (F_w_draw : Fn S) (F_w_plain : Fn S) (F_w_form : Fn S) : Fn S := fnD 7 (B_w_form F_w_draw F_w_plain F_w_form)

-- _law_sum_text: slots _law_total 0, _law_words 1, _law_kind 2, _law_times 3; own [1]
def B_w_meanings {S : Type} (F_w_draw : Fn S) (F_w_sense : Fn S) : Sv S :=
    (sSeq (sOwn 3 (aN lenOk aNil))
    (sSeq (sAsg (cVar 1) (gTp (gC (gNm 4) (gC (gNm 5) (gC (gNm 6) gN0)))))
    (sSeq (sFor (iOfA pEnumL (aCons (cVar 2) aNil)) (gTp (gC (gNm 7) (gC (gNm 8) gN0)))
    (sSeq (sSet 9 (cN pLst (aCons (cB pAdd (cB pIx (cK (.str "xyzuvw")) (cVar 7)) (cN pStrX (aCons (cB pAdd (cK (.int 3)) (cCall 2 F_w_draw (aCons (cVar 0) (aCons (cK (.int 5)) aNil)))) aNil))) (aCons (cB pAdd (cB pIx (cK (.str "wxyzuv")) (cVar 7)) (cK (.str "2"))) aNil))))
      (sSeq (sApp 3 (cN pTup (aCons (cVar 8) (aCons (cB pIx (cVar 9) (cK (.int 0))) (aCons (cCall 4 F_w_sense (aCons (cVar 0) (aCons (cN pTup (aCons (cVar 4) (aCons (cVar 5) (aCons (cVar 6) aNil)))) (aCons (cVar 9) (aCons (cK (.int 2)) aNil))))) aNil)))))
      (sSet 5 (cB pAdd (cVar 5) (cN pTup (aCons (cVar 8) aNil)))))))
    (sRet (cN pTuple (aCons (cVar 3) aNil))))))
def K_w_meanings {S : Type} (F_w_draw : Fn S) (F_w_sense : Fn S) : Fn S := fnD 10 (B_w_meanings F_w_draw F_w_sense)

-- _law_numbers: slots _law_deck_here 0, _law_count 1, _law_most 2, _law_k 3; cells _law_deck_here, _law_most
def B_w_numbers {S : Type} (F_w_draw : Fn S) : Sv S :=
    (sRet (cN pTuple (aCons (cNl (lcF (iOfA pR1 (aCons (cVar 1) aNil)) (gNm 3) qYes (cB pAdd (cK (.int 1)) (cCall 2 F_w_draw (aCons (cVar 0) (aCons (cVar 2) aNil)))) [3])) aNil)))
def K_w_numbers {S : Type} (F_w_draw : Fn S) : Fn S := fnD 4 (B_w_numbers F_w_draw)

-- _law_reason: slots _law_deck_here 0, _law_most 1, _law_names 2, _law_one 3, _law_way 4, _law_name 5, _law_ks 6, _law_k 7; cells _law_deck_here
def B_w_reason {S : Type} (F_w_draw : Fn S) (F_w_numbers : Fn S) (F_w_great : Fn S) : Sv S :=
    (sSeq (sSet 3 (cK (.str "again left right orleft orright nothing meaning asmany one someof none nomore cover turned")))
    (sSeq (sSet 3 (cNl (aSplit (cB pAdd (cVar 3) (cK (.str " soif not contrary forany forsome"))) (cK (.str " ")))))
    (sSeq (sSet 4 (cCall 2 F_w_draw (aCons (cVar 0) (aCons (cK (.int 12)) aNil))))
    (sSeq (sIf (qT (cB pEq (cVar 4) (cK (.int 0))))
    (sRet (cB pAdd (cN pTup (aCons (cB pIx (cVar 3) (cCall 2 F_w_draw (aCons (cVar 0) (aCons (cK (.int 19)) aNil)))) aNil)) (cCall 3 F_w_numbers (aCons (cVar 0) (aCons (cK (.int 1)) (aCons (cVar 1) aNil))))))
    sNx)
    (sSeq (sIf (qT (cB pEq (cVar 4) (cK (.int 1))))
    (sRet (cB pAdd (cN pTup (aCons (cB pIx (cN pLst (aCons (cK (.str "both")) (aCons (cK (.str "then")) (aCons (cK (.str "absurd")) (aCons (cK (.str "put")) (aCons (cK (.str "apart")) aNil)))))) (cCall 2 F_w_draw (aCons (cVar 0) (aCons (cK (.int 5)) aNil)))) aNil)) (cCall 3 F_w_numbers (aCons (cVar 0) (aCons (cK (.int 2)) (aCons (cVar 1) aNil))))))
    sNx)
    (sSeq (sIf (qT (cB pEq (cVar 4) (cK (.int 2))))
    (sRet (cB pAdd (cN pTup (aCons (cB pIx (cN pLst (aCons (cK (.str "two")) (aCons (cK (.str "cases")) aNil))) (cCall 2 F_w_draw (aCons (cVar 0) (aCons (cK (.int 2)) aNil)))) aNil)) (cCall 3 F_w_numbers (aCons (cVar 0) (aCons (cK (.int 3)) (aCons (cVar 1) aNil))))))
    sNx)
    (sSeq (sIf (qT (cB pEq (cVar 4) (cK (.int 3))))
    (sRet (cN pTup (aCons (cK (.str "by")) (aCons (cCall 3 F_w_numbers (aCons (cVar 0) (aCons (cB pAdd (cK (.int 1)) (cCall 2 F_w_draw (aCons (cVar 0) (aCons (cK (.int 3)) aNil)))) (aCons (cVar 1) aNil)))) aNil))))
    sNx)
    (sSeq (sIf (qT (cB pEq (cVar 4) (cK (.int 4))))
    (sSeq (sSet 5 (cB pIx (cN pLst (aCons (cK (.str "first")) (aCons (cK (.str "ab")) (aCons (cK (.str "a")) (aCons (cK (.str "times")) aNil))))) (cCall 2 F_w_draw (aCons (cVar 0) (aCons (cK (.int 4)) aNil)))))
      (sRet (cN pTup (aCons (cK (.str "earlier")) (aCons (cVar 5) (aCons (cCall 3 F_w_numbers (aCons (cVar 0) (aCons (cB pIx (cN pLst (aCons (cK (.int 0)) (aCons (cK (.int 1)) (aCons (cK (.int 2)) (aCons (cK (.int 3)) (aCons (cK (.int 6)) aNil)))))) (cCall 2 F_w_draw (aCons (cVar 0) (aCons (cK (.int 5)) aNil)))) (aCons (cVar 1) aNil)))) aNil))))))
    sNx)
    (sSeq (sIf (qT (cB pEq (cVar 4) (cK (.int 5))))
    (sSeq (sSet 6 (cCall 3 F_w_numbers (aCons (cVar 0) (aCons (cB pIx (cN pLst (aCons (cK (.int 0)) (aCons (cK (.int 1)) (aCons (cK (.int 2)) (aCons (cK (.int 3)) (aCons (cK (.int 6)) aNil)))))) (cCall 2 F_w_draw (aCons (cVar 0) (aCons (cK (.int 5)) aNil)))) (aCons (cVar 1) aNil)))))
      (sRet (cN pTup (aCons (cK (.str "sums")) (aCons (cVar 6) (aCons (cN pTuple (aCons (cNl (lcF (iOf asT (cVar 6)) (gNm 7) qYes (cCall 1 F_w_great (aCons (cVar 0) aNil)) [7])) aNil)) aNil))))))
    sNx)
    (sSeq (sIf (qAnd (qT (cB pLt (cVar 4) (cK (.int 8)))) (qT (cB pNe (cVar 2) (cN pTup aNil))))
    (sRet (cB pAdd (cB pAdd (cN pTup (aCons (cB pIx (cN pLst (aCons (cK (.str "at")) (aCons (cK (.str "such")) aNil))) (cB pSub (cVar 4) (cK (.int 6)))) aNil)) (cCall 3 F_w_numbers (aCons (cVar 0) (aCons (cK (.int 1)) (aCons (cVar 1) aNil))))) (cN pTup (aCons (cB pIx (cVar 2) (cCall 2 F_w_draw (aCons (cVar 0) (aCons (cN pLen (aCons (cVar 2) aNil)) aNil)))) aNil))))
    sNx)
    (sRet (cN pTup (aCons (cB pIx (cN pLst (aCons (cK (.str "given")) (aCons (cK (.str "itself")) (aCons (cK (.str "clearly")) aNil)))) (cCall 2 F_w_draw (aCons (cVar 0) (aCons (cK (.int 3)) aNil)))) aNil)))))))))))))
def K_w_reason {S : Type} (F_w_draw : Fn S) (F_w_numbers : Fn S) (F_w_great : Fn S) : Fn S := fnD 8 (B_w_reason F_w_draw F_w_numbers F_w_great)

-- _law_opener: slots _law_deck_here 0, _law_most 1, _law_k 2, _law_taken 3, _law_head 4, _law_last 5, _law_mids 6, _law_name 7, _law_way 8, _law_mid 9, _law_one 10; cells _law_head, _law_last, _law_taken
def B_w_opener {S : Type} (F_w_draw : Fn S) : Sv S :=
    (sSeq (sSet 4 (cB pIx (cK (.str "ABCDEFGHIJKLMNOPQRSTUVWXYZ")) (cCall 2 F_w_draw (aCons (cVar 0) (aCons (cK (.int 26)) aNil)))))
    (sSeq (sSet 5 (cB pAdd (cB pIx (cK (.str "abcdefghijklmnopqrstuvwxyz")) (cB pMod (cVar 2) (cK (.int 26)))) (cB pIx (cK (.str "abc")) (cB pFdiv (cVar 2) (cK (.int 26))))))
    (sSeq (sSet 6 (cNl (lcF (iOf asL (cN pLst (aCons (cK (.str "qz")) (aCons (cK (.str "qy")) (aCons (cK (.str "qx")) (aCons (cK (.str "qw")) (aCons (cK (.str "qv")) (aCons (cK (.str "qu")) (aCons (cK (.str "qt")) aNil))))))))) (gNm 9) qYes (cB pAdd (cB pAdd (cVar 4) (cVar 9)) (cVar 5)) [9])))
    (sSeq (sSet 7 (cB pIx (cNl (lcF (iOf asL (cVar 6)) (gNm 10) (qT (cB pNotIn (cVar 10) (cVar 3))) (cVar 10) [10])) (cK (.int 0))))
    (sSeq (sSet 8 (cCall 2 F_w_draw (aCons (cVar 0) (aCons (cK (.int 3)) aNil))))
    (sSeq (sIf (qT (cB pEq (cVar 8) (cK (.int 0))))
    (sRet (cN pTup (aCons (cK (.str "supposed")) aNil)))
    sNx)
    (sSeq (sIf (qT (cB pEq (cVar 8) (cK (.int 1))))
    (sRet (cN pTup (aCons (cK (.str "any")) (aCons (cVar 7) aNil))))
    sNx)
    (sRet (cN pTup (aCons (cK (.str "called")) (aCons (cVar 7) (aCons (cB pAdd (cK (.int 1)) (cCall 2 F_w_draw (aCons (cVar 0) (aCons (cVar 1) aNil)))) aNil))))))))))))
def K_w_opener {S : Type} (F_w_draw : Fn S) : Fn S := fnD 11 (B_w_opener F_w_draw)

-- _law_argument: slots _law_deck_here 0, _law_names 1, _law_kinds 2, _law_doings 3, _law_many 4, _law_words 5, _law_meanings_here 6, _law_few 7, _law_way 8, _law_most 9, _law_lines 10, _law_boxes 11, _law_k 12, _law_reason_here 13, _law_level 14, _law_there 15, _law_form_here 16, _law_word 17; cells _law_doings, _law_kinds; own [10]
end Lw75
set_option Elab.async false
set_option linter.all false
set_option maxRecDepth 100000
set_option maxHeartbeats 1000000
namespace Lw23
open PySem PySem.Spec PyProof.Rows L2 Dl
theorem szL {n : Nat} (h : n ≤ 100000) : n ≤ sizeLine := Nat.le_trans h (by decide)
theorem sz0 : (0 ≤ sizeLine) = True := eq_true (by decide)
theorem sz1 : (1 ≤ sizeLine) = True := eq_true (by decide)
theorem sz2 : (2 ≤ sizeLine) = True := eq_true (by decide)
theorem sz3 : (3 ≤ sizeLine) = True := eq_true (by decide)
theorem sz4 : (4 ≤ sizeLine) = True := eq_true (by decide)
theorem sz5 : (5 ≤ sizeLine) = True := eq_true (by decide)
theorem sz6 : (6 ≤ sizeLine) = True := eq_true (by decide)
theorem szl {n : Nat} (h : n < 100000) : n < sizeLine := Nat.lt_of_lt_of_le h (by decide)
theorem range_get {n j : Nat} {lo : Int} {d : D} (h : (rngD lo n)[j]? = some d) : j < n ∧ d = .int (lo + j) := by
  unfold rngD at h
  rw [List.getElem?_map] at h
  by_cases hj : j < n
  · rw [List.getElem?_range hj] at h
    cases h
    exact ⟨hj, rfl⟩
  · rw [List.getElem?_eq_none (by simpa using hj)] at h
    cases h
theorem rng_len (lo : Int) (n : Nat) : (rngD lo n).length = n := by simp [rngD]
theorem pr1 {j : Int} (h : -(2 ^ 62) ≤ j) (h2 : j < 2 ^ 62) : pR1 [.int j] = some (rngD 0 j.toNat) := by simp only [pR1]; rw [if_pos ⟨h, h2⟩]
theorem pr2 {i j : Int} (h : -(2 ^ 62) ≤ i ∧ i < 2 ^ 62 ∧ -(2 ^ 62) ≤ j ∧ j < 2 ^ 62) : pR2 [.int i, .int j] = some (rngD i (j - i).toNat) := by simp only [pR2]; rw [if_pos h]
/-! ### words that are not there yet -/
theorem mem_strs (w : Str) (ns : List Str) : memD (.str w) (ns.map .str) = some (decide (w ∈ ns)) := by
  unfold memD
  have h1 : (ns.map PyData.str).all scalD = true := by simp [List.all_map, scalD]
  rw [if_pos ⟨rfl, h1⟩]
  congr 1
  rw [Bool.eq_iff_iff]
  simp [List.any_map, eqS]
theorem in_strsL (w : Str) (ns : List Str) : inD (.str w) (.list (ns.map .str)) = some (decide (w ∈ ns)) := by
  simp only [inD, mem_strs]
theorem notIn_strsL (w : Str) (ns : List Str) : pNotIn (.str w) (.list (ns.map .str)) = some (.bool (!decide (w ∈ ns))) := by
  simp only [pNotIn, in_strsL]
  rfl
def cand (a : Str) (c : Nat) : Str := a ++ (⟨#[c]⟩ : Str) ++ ("qz" : Str)
def cands (a : Str) : List Str := (List.range 26).map fun i => cand a (97 + i)
theorem cps_inj {a b : Str} (h : a.cps = b.cps) : a = b := by
  cases a; cases b; cases h; rfl
theorem cand_inj {a : Str} {i j : Nat} (h : cand a i = cand a j) : i = j := by
  have h := congrArg Str.cps h
  unfold cand at h
  rw [Str.cps_append, Str.cps_append, Str.cps_append, Str.cps_append] at h
  have h := congrArg Array.toList h
  simp only [Array.toList_append] at h
  have h := List.append_cancel_right h
  have h := List.append_cancel_left h
  simpa using h
theorem cands_nd (a : Str) : (cands a).Nodup := by
  unfold cands
  have h := @List.nodup_range 26
  unfold List.Nodup at h ⊢
  rw [List.pairwise_map]
  exact h.imp fun {i j} ne e => ne (by have := cand_inj e; omega)
/-- the word itself, or one of the candidates that is not there -/
def Unl (w a : Str) (ns : List Str) (x : Str) : Prop := (w ∉ ns ∧ x = w) ∨ (w ∈ ns ∧ x ∈ cands a ∧ x ∉ ns)
theorem cand_free {a : Str} {ns : List Str} (h : (ns.filter fun x => decide (x ∈ cands a)).length < 26) : ∃ x ∈ cands a, x ∉ ns := by
  apply Classical.byContradiction
  intro hc
  have hs : ∀ x ∈ cands a, x ∈ ns.filter fun x => decide (x ∈ cands a) := fun x hx => by
    refine List.mem_filter.mpr ⟨?_, by simpa using hx⟩
    apply Classical.byContradiction
    intro hn
    exact hc ⟨x, hx, hn⟩
  have := Lc.nodup_le _ _ (cands_nd a) hs
  have h2 : (cands a).length = 26 := by simp [cands]
  omega
theorem small_cps : (Str.ofString "abcdefghijklmnopqrstuvwxyz").cps.toList = (List.range 26).map (97 + ·) := by decide +kernel
theorem ok_unlike {s : DS} {w a : Str} {ns : List Str} (hw : w.length ≤ 1000) (ha : a.length ≤ 10) (hf : (ns.filter fun x => decide (x ∈ cands a)).length < 26) {Q : D → DS → Prop} (q : ∀ x, Unl w a ns x → x.length ≤ 1000 → Q (.str x) s) : Ok (K_w_unlike [.str w, .list (ns.map .str), .str a] s) Q := by
  unfold K_w_unlike B_w_unlike
  simp only [e_fn, e_seq, e_asg, startR, sSet, sOwn, sRet, sIf, sNx, cB, cU, cK, cVar, cN, cCall, aNil, aCons, aN, aCat, cNl, cFl, aFl, qT, qNot, qAnd, qOr, cAnd, cOr, cNot, cIf, cSl, oNo, oOf, cCh, iOf, iOfA, qYes, ok_bnd, ok_some, ok_put, bnd_of, put_of, gNm, gTp, gC, gN0, List.map_cons, List.map_nil, List.length_cons, List.length_nil, List.replicate, List.cons_append, List.nil_append, List.set_cons_zero, List.set_cons_succ, List.getElem?_cons_zero, List.getElem?_cons_succ, Option.some.injEq, exists_eq_left', Option.bind_some, Nat.reduceAdd, Nat.reduceSub, Nat.sub_zero, Nat.sub_self, Nat.zero_add, Nat.reduceEqDiff, ↓reduceIte, pTup, pLst, lenOk, pI0, pI, pIB, asT, asL, asS, truth, asI, asB, flatD, flatDs, pSub, pMod, pEq, pLe, pGe, pGt, pLt, pIs, pIsNot, nonD, pTuple, pList, pInt, pNeg, Bool.not_true, Bool.not_false, if_true, if_false, Bool.and_self, Bool.true_and, Bool.and_true, Bool.false_eq_true, wipeR, sz0, sz1, sz2, sz3, sz4, sz5, sz6, notIn_strsL]
  by_cases hm : w ∈ ns
  · simp only [hm, decide_true, Bool.not_true, Bool.false_eq_true, if_false, ok_some]
    refine k_lc ?_
    simp only [e_fn, e_seq, e_asg, startR, sSet, sOwn, sRet, sIf, sNx, cB, cU, cK, cVar, cN, cCall, aNil, aCons, aN, aCat, cNl, cFl, aFl, qT, qNot, qAnd, qOr, cAnd, cOr, cNot, cIf, cSl, oNo, oOf, cCh, iOf, iOfA, qYes, ok_bnd, ok_some, ok_put, bnd_of, put_of, gNm, gTp, gC, gN0, List.map_cons, List.map_nil, List.length_cons, List.length_nil, List.replicate, List.cons_append, List.nil_append, List.set_cons_zero, List.set_cons_succ, List.getElem?_cons_zero, List.getElem?_cons_succ, Option.some.injEq, exists_eq_left', Option.bind_some, Nat.reduceAdd, Nat.reduceSub, Nat.sub_zero, Nat.sub_self, Nat.zero_add, Nat.reduceEqDiff, ↓reduceIte, pTup, pLst, lenOk, pI0, pI, pIB, asT, asL, asS, truth, asI, asB, flatD, flatDs, pSub, pMod, pEq, pLe, pGe, pGt, pLt, pIs, pIsNot, nonD, pTuple, pList, pInt, pNeg, Bool.not_true, Bool.not_false, if_true, if_false, Bool.and_self, Bool.true_and, Bool.and_true, Bool.false_eq_true, wipeR, sz0, sz1, sz2, sz3, sz4, sz5, sz6]
    refine ⟨?_, fun j acc s' => s' = s ∧ acc = ((((List.range 26).take j).map fun i => cand a (97 + i)).filter (fun x => decide (x ∉ ns))).map PyData.str, ⟨rfl, by simp⟩, ?_, ?_⟩
    · rw [small_cps]; simp; decide
    · rintro j d acc s' hd ⟨rfl, rfl⟩
      rw [small_cps, List.map_map, List.getElem?_map] at hd
      have hj : j < 26 := by
        apply Classical.byContradiction
        intro hn
        rw [List.getElem?_eq_none (by simpa using hn)] at hd
        cases hd
      rw [List.getElem?_range hj] at hd
      cases hd
      have hl : a.length + 1 + 2 ≤ sizeLine := szL (by omega)
      have e1 : pAdd (.str a) (.str ⟨#[97 + j]⟩) = some (.str (a ++ (⟨#[97 + j]⟩ : Str))) := by
        simp only [pAdd]
        rw [if_pos]
        show a.length + 1 ≤ sizeLine
        omega
      have e2 : pAdd (.str (a ++ (⟨#[97 + j]⟩ : Str))) (.str "qz") = some (.str (cand a (97 + j))) := by
        simp only [pAdd]
        rw [if_pos]
        · rfl
        · show (a ++ (⟨#[97 + j]⟩ : Str)).length + 2 ≤ sizeLine
          have : (a ++ (⟨#[97 + j]⟩ : Str)).length = a.length + 1 := by simp [Str.length, Str.cps_append]
          omega
      simp only [e_fn, e_seq, e_asg, startR, sSet, sOwn, sRet, sIf, sNx, cB, cU, cK, cVar, cN, cCall, aNil, aCons, aN, aCat, cNl, cFl, aFl, qT, qNot, qAnd, qOr, cAnd, cOr, cNot, cIf, cSl, oNo, oOf, cCh, iOf, iOfA, qYes, ok_bnd, ok_some, ok_put, bnd_of, put_of, gNm, gTp, gC, gN0, List.map_cons, List.map_nil, List.length_cons, List.length_nil, List.replicate, List.cons_append, List.nil_append, List.set_cons_zero, List.set_cons_succ, List.getElem?_cons_zero, List.getElem?_cons_succ, Option.some.injEq, exists_eq_left', Option.bind_some, Nat.reduceAdd, Nat.reduceSub, Nat.sub_zero, Nat.sub_self, Nat.zero_add, Nat.reduceEqDiff, ↓reduceIte, pTup, pLst, lenOk, pI0, pI, pIB, asT, asL, asS, truth, asI, asB, flatD, flatDs, pSub, pMod, pEq, pLe, pGe, pGt, pLt, pIs, pIsNot, nonD, pTuple, pList, pInt, pNeg, Bool.not_true, Bool.not_false, if_true, if_false, Bool.and_self, Bool.true_and, Bool.and_true, Bool.false_eq_true, wipeR, sz0, sz1, sz2, sz3, sz4, sz5, sz6, Function.comp, e1, e2, notIn_strsL]
      have tk : (List.range 26).take (j + 1) = (List.range 26).take j ++ [j] := by
        rw [List.take_succ, List.getElem?_range hj]
        rfl
      by_cases hc : cand a (97 + j) ∈ ns
      · simp only [hc, decide_true, Bool.not_true, Bool.false_eq_true, if_false, tk]
        simp [hc]
      · simp only [hc, decide_false, Bool.not_false, if_true, tk, ok_some]
        simp [hc]
    · rintro acc s' ⟨rfl, rfl⟩
      have hlen : ((Str.ofString "abcdefghijklmnopqrstuvwxyz").cps.toList.map fun c => (PyData.str ⟨#[c]⟩ : D)).length = 26 := by rw [small_cps]; simp
      rw [hlen]
      have e3 : ((List.range 26).take 26).map (fun i => cand a (97 + i)) = cands a := by
        rw [List.take_of_length_le (by simp)]
        rfl
      rw [e3]
      obtain ⟨x, hx, hn⟩ := cand_free hf
      have hne : (cands a).filter (fun x => decide (x ∉ ns)) ≠ [] := fun z => by
        have : x ∈ (cands a).filter (fun x => decide (x ∉ ns)) := List.mem_filter.mpr ⟨hx, by simpa using hn⟩
        rw [z] at this
        cases this
      obtain ⟨y, r, hy⟩ : ∃ y r, (cands a).filter (fun x => decide (x ∉ ns)) = y :: r := by
        cases h : (cands a).filter (fun x => decide (x ∉ ns)) with
        | nil => exact absurd h hne
        | cons y r => exact ⟨y, r, rfl⟩
      have hyc : y ∈ (cands a).filter (fun x => decide (x ∉ ns)) := by rw [hy]; exact List.mem_cons_self
      have hyc := List.mem_filter.mp hyc
      rw [hy]
      refine ⟨.str y, (by simp only [pIx]; exact atI_nat (j := 0) rfl), q y (.inr ⟨hm, hyc.1, by simpa using hyc.2⟩) ?_⟩
      obtain ⟨i, _, rfl⟩ := List.mem_map.mp hyc.1
      have : (cand a (97 + i)).length = a.length + 3 := by simp [cand, Str.length, Str.cps_append]; rfl
      omega
  · simp only [hm, decide_false, Bool.not_false, if_true, ok_some]
    exact q w (.inl ⟨hm, rfl⟩) hw
end Lw23
set_option Elab.async false
set_option linter.all false
set_option maxRecDepth 100000
set_option maxHeartbeats 2000000
namespace Lw23
open PySem PySem.Spec PyProof.Rows L2 Dl
theorem ix_list {xs : List D} {r : Int} (h0 : 0 ≤ r) (h : r < xs.length) : ∃ d ∈ xs, pIx (.list xs) (.int r) = some d := by
  obtain ⟨d, hd, _, e⟩ := atI_lt h0 h
  exact ⟨d, hd, by simp only [pIx]; exact e⟩
theorem ix_strs {xs : List Str} {r : Int} (h0 : 0 ≤ r) (h : r < xs.length) : ∃ d ∈ xs, pIx (.list (xs.map .str)) (.int r) = some (.str d) := by
  obtain ⟨d, hd, e⟩ := ix_list (xs := xs.map .str) h0 (by simpa using h)
  obtain ⟨z, hz, rfl⟩ := List.mem_map.mp hd
  exact ⟨z, hz, e⟩
/-- one of some ints -/
theorem ix_ints {ns : List Int} {r : Int} (h0 : 0 ≤ r) (h : r < ns.length) : ∃ n ∈ ns, pIx (.list (ns.map .int)) (.int r) = some (.int n) := by
  obtain ⟨d, hd, e⟩ := ix_list (xs := ns.map .int) h0 (by simpa using h)
  obtain ⟨z, hz, rfl⟩ := List.mem_map.mp hd
  exact ⟨z, hz, e⟩
def ownW : List Str := Txt.split (Str.ofString "absurd all an and any are as at be by false if is least many more no not only or same some than the then there every either unless") " "
theorem own_eq {s : DS} : K_w_own [] s = some (.list (ownW.map .str), s) := by
  unfold K_w_own B_w_own
  rfl
theorem own_few : ∀ x ∈ ownW, x ∉ cands "q" := by decide +kernel
theorem own_len : ownW.length = 29 := by decide +kernel
theorem fil_le {α : Type} (p : α → Bool) (l : List α) : (l.filter p).length ≤ l.length := List.length_filter_le p l
theorem few_app {a : Str} {xs ys : List Str} {n m : Nat} (h1 : (xs.filter fun x => decide (x ∈ cands a)).length ≤ n) (h2 : (ys.filter fun x => decide (x ∈ cands a)).length ≤ m) (h : n + m < 26) : ((xs ++ ys).filter fun x => decide (x ∈ cands a)).length < 26 := by
  rw [List.filter_append, List.length_append]
  omega
theorem few_le {a : Str} {xs ys : List Str} {n m : Nat} (h1 : (xs.filter fun x => decide (x ∈ cands a)).length ≤ n) (h2 : (ys.filter fun x => decide (x ∈ cands a)).length ≤ m) : ((xs ++ ys).filter fun x => decide (x ∈ cands a)).length ≤ n + m := by
  rw [List.filter_append, List.length_append]
  omega
theorem own0 : (ownW.filter fun x => decide (x ∈ cands "q")).length ≤ 0 := by
  rw [List.filter_eq_nil_iff.mpr fun x hx => by simpa using own_few x hx]
  simp
theorem fl_strs (xs : List Str) : flatDs (xs.map .str) = true := by
  induction xs with
  | nil => rfl
  | cons x xs ih => simp [flatDs, flatD, ih]
theorem catS {xs ys : List Str} (h : xs.length + ys.length ≤ 100000) : pAdd (.list (xs.map .str)) (.list (ys.map .str)) = some (.list ((xs ++ ys).map .str)) := by
  simp only [pAdd]
  rw [if_pos (by simp only [List.length_map]; exact szL h)]
  simp
theorem addS {a b : Str} (h : a.length + b.length ≤ 100000) : pAdd (.str a) (.str b) = some (.str (a ++ b)) := by
  simp only [pAdd]
  rw [if_pos (szL h)]
theorem addS_len (a b : Str) : (a ++ b).length = a.length + b.length := by simp [Str.length, Str.cps_append]
theorem upperS {a : Str} (h : a.length ≤ 1000) : pUpper (.str a) = some (.str (Txt.upper a)) := by
  simp only [pUpper]
  rw [if_pos (by omega)]
theorem up_len (a : Str) : (Txt.upper a).length ≤ 3 * a.length := by
  exact StrLaws.placedRaw_le3 a.cps (fun _ c => Unicode.upperOf c) fun _ c => StrLaws.upperOf_le3 c
theorem sortedS {xs : List Str} (h : xs.length < 64) : pSorted [.list (xs.map .str)] = some ((sortS xs).map .str) := by
  simp only [pSorted, Dl.strs_map]
  rw [if_pos h]
/-- a vocabulary -/
def vocD (ns ks ds : List Str) : D := .tuple [.tuple (ns.map .str), .tuple (ks.map .str), .tuple (ds.map .str)]
abbrev Fsigns : Fn DS := K_w_signs Fdraw
abbrev Fvoc : Fn DS := K_w_vocabulary K_w_own Fdraw Fsigns K_w_unlike
end Lw23
set_option Elab.async false
set_option linter.all false
set_option maxRecDepth 100000
set_option maxHeartbeats 4000000
namespace Lw23
open PySem PySem.Spec L2 Dl
theorem pow9 : pPow (.int 10) (.int 9) = some (.int 1000000000) := rfl
theorem bit {c : Prop} [Decidable c] : ∃ g : Int, (if decide c = true then (1 : Int) else 0) = g ∧ 0 ≤ g ∧ g < 2 := by
  by_cases e : c
  · exact ⟨1, by simp [e], by omega, by omega⟩
  · exact ⟨0, by simp [e], by omega, by omega⟩
abbrev Ftotal : Fn DS := K_w_total Fdraw
abbrev Fatom : Fn DS := K_w_atom Fdraw Ftotal
theorem ok_total {s : DS} {ks : List Str} (hk : ks.length ≤ 100) {Q : D → DS → Prop} (q : ∀ d s', Q d s') : Ok (Ftotal [hnd 0, .list (ks.map .str)] s) Q := by
  unfold Ftotal K_w_total B_w_total
  refine k_fn (k_seq (k_own ?_))
  try walk_at "E"
  refine k_seq (k_forP (fun ds _ => ds = ks.map .str) ?_ ?_)
  · walk_at "E"
  rintro _ s1 rfl
  refine ⟨fun j ρ _ => ∃ (ps : List D) (y : Option D), ps.length ≤ j ∧ ρ = [some (hnd 0), some (.list (ks.map .str)), some (.list ps), y], ⟨[], none, by simp, rfl⟩, ?_, ?_⟩
  · rintro j d ρ s hd ⟨ps, y, hl, rfl⟩
    have hj : j < 100 := by have := (List.getElem?_eq_some_iff.mp hd).1; simp at this; omega
    refine ⟨_, rfl, k_sIf ?_⟩
    try walk_at "E"
    refine k_draw (by omega) (by omega) fun i s4 i0 i1 => ?_
    by_cases hi : i = 0
    · simp_arith [hi]
      refine k_app rfl (szl (by omega)) ?_
      try walk_at "E"
      refine k_draw (by omega) (by omega) fun i s5 j0 j1 => ?_
      obtain ⟨g, hg, g0, g1⟩ := bit (c := i = 3)
      obtain ⟨n1, hn1, e1⟩ := ix_ints (ns := [2, 30]) (r := g) g0 (by simpa using g1)
      simp only [List.map_cons, List.map_nil] at e1
      have b1 : 2 ≤ n1 ∧ n1 ≤ 30 := by simp at hn1; omega
      simp_arith [hg, e1]
      refine k_draw (by omega) (by omega) fun i s5 j0 j1 => ?_
      try walk_at "E"
      exact ⟨_, _, by simp; omega, rfl⟩
    · simp_arith [hi]
      exact k_nx ⟨ps, _, by omega, rfl⟩
  rintro ρ s6 ⟨ps, y, hl, rfl⟩
  refine k_ret ?_
  simp_arith [pow9]
  refine k_draw (by omega) (by omega) fun i s5 j0 j1 => ?_
  obtain ⟨n1, hn1, e1⟩ := ix_ints (ns := [2, 10, 1000000000]) (r := i) j0 (by simpa using j1)
  simp only [List.map_cons, List.map_nil] at e1
  have b1 : 2 ≤ n1 ∧ n1 ≤ 1000000000 := by simp at hn1; omega
  simp_arith [e1]
  refine k_draw (by omega) (by omega) fun i s5 j0 j1 => ?_
  exact q _ _
/-- kinds, counted kinds, doings, letters -/
def stockD (ks cs ds ls : List Str) : D := .tuple [.list (ks.map .str), .list (cs.map .str), .list (ds.map .str), .list (ls.map .str)]
/-- one of some texts is drawn -/
theorem k_pick {ts : List Str} {s : DS} (h : 0 < ts.length) (h2 : ts.length ≤ 100000) {Q : D → DS → Prop} (q : ∀ x s', x ∈ ts → Q (.str x) s') : Ok (Fdraw [hnd 0, .int (ts.map PyData.str).length] s) fun a s => ∃ z, pIx (.list (ts.map .str)) a = some z ∧ Q z s := by
  refine k_draw (by rw [List.length_map]; omega) (by rw [List.length_map]; omega) fun i s2 i0 i1 => ?_
  obtain ⟨z, hz, e⟩ := ix_strs (xs := ts) i0 (by simpa using i1)
  exact ⟨_, e, q _ _ hz⟩
theorem emp_map (ts : List Str) : (ts.map PyData.str).isEmpty = ts.isEmpty := by cases ts <;> rfl
theorem emp_dec (ts : List Str) (h : ts.length ≠ 0) : ts.isEmpty = false := by cases ts <;> simp at h ⊢
theorem ok_atom {s : DS} {ks cs ds ls ts : List Str} (hk : ks.length ≤ 100) (hc : cs.length ≤ 100) (hd : ds.length ≤ 100) (ht : ts.length ≤ 1000) {Q : D → DS → Prop} (q : ∀ d s', Q d s') : Ok (Fatom [hnd 0, stockD ks cs ds ls, .list (ts.map .str)] s) Q := by
  unfold Fatom K_w_atom B_w_atom stockD
  refine k_fn (k_seq (k_asg ?_))
  try walk_at "E"
  refine ⟨_, rfl, k_seq (k_set ?_)⟩
  try walk_at "E"
  refine k_draw (by omega) (by omega) fun r s1 r0 r1 => k_seq (k_sIf ?_)
  try walk_at "E"
  by_cases e3 : r = 3
  · simp_arith [e3]
    refine k_ret ?_
    try walk_at "E"
    refine ok_total hc fun d1 s2 => ok_total hc fun d2 s3 => ?_
    try walk_at "E"
    exact q _ _
  simp_arith [e3]
  refine k_nx (k_seq (k_sIf ?_))
  simp_arith [emp_map]
  by_cases e4 : r = 4
  · simp_arith [e4]
    refine k_ret ?_
    try walk_at "E"
    exact q _ _
  by_cases e0 : ts.length = 0
  · have : ts = [] := by cases ts <;> simp at e0 ⊢
    subst this
    simp_arith [e4, List.isEmpty_nil]
    refine k_ret ?_
    try walk_at "E"
    exact q _ _
  simp_arith [e4, emp_dec ts e0]
  refine k_nx (k_seq (k_set ?_))
  try walk_at "E"
  refine k_pick (by omega) (by omega) fun x1 s2 _ => k_seq (k_set ?_)
  try walk_at "E"
  refine k_pick (by omega) (by omega) fun x2 s3 _ => k_seq (k_sIf ?_)
  simp_arith [emp_map]
  by_cases e2 : r = 2
  · simp_arith [e2]
    refine k_ret ?_
    try walk_at "E"
    exact q _ _
  by_cases e5 : r = 5
  · by_cases d0 : ds.length = 0
    · have : ds = [] := by cases ds <;> simp at d0 ⊢
      subst this
      simp_arith [e5, List.isEmpty_nil, show ((5 : Int) = 2) = False from by decide]
      refine k_ret ?_
      try walk_at "E"
      exact q _ _
    · simp_arith [e5, emp_dec ds d0, show ((5 : Int) = 2) = False from by decide]
      refine k_nx (k_seq (k_sIf ?_))
      try walk_at "E"
      refine k_ret ?_
      try walk_at "E"
      refine k_pick (by omega) (by omega) fun x3 s4 _ => ?_
      exact q _ _
  · by_cases d0 : ks.length = 0
    · have : ks = [] := by cases ks <;> simp at d0 ⊢
      subst this
      simp_arith [e5, e2, List.isEmpty_nil]
      refine k_ret ?_
      try walk_at "E"
      exact q _ _
    · simp_arith [e5, e2, emp_dec ks d0]
      refine k_nx (k_seq (k_sIf ?_))
      simp_arith [e5]
      refine k_nx (k_ret ?_)
      try walk_at "E"
      refine k_pick (by omega) (by omega) fun x3 s4 _ => ?_
      exact q _ _
/-- the drawn form, so many deep -/
def Fform : Nat → Fn DS
  | 0 => fun _ _ => none
  | k + 1 => K_w_form Fdraw Fatom (Fform k)
theorem v_stock3 {ks cs ds ls : List Str} : pIx (stockD ks cs ds ls) (.int 3) = some (.list (ls.map .str)) := v_ix3
theorem ok_form {ks cs ds ls : List Str} (hk : ks.length ≤ 100) (hc : cs.length ≤ 100) (hd : ds.length ≤ 100) (hl : 0 < ls.length ∧ ls.length ≤ 100) : ∀ (n m : Nat) (s : DS) (ts : List Str), n < m → ts.length + n ≤ 1000 → ∀ {Q : D → DS → Prop}, (∀ d s', Q d s') → Ok (Fform m [hnd 0, stockD ks cs ds ls, .list (ts.map .str), .int (n : Nat)] s) Q := by
  intro n
  induction n with
  | zero =>
    intro m s ts hm ht Q q
    obtain ⟨m, rfl⟩ : ∃ k, m = k + 1 := ⟨m - 1, by omega⟩
    unfold Fform K_w_form B_w_form
    refine k_fn (k_seq (k_set ?_))
    try walk_at "E"
    refine k_draw (by omega) (by omega) fun r s1 r0 r1 => k_seq (k_sIf ?_)
    simp_arith [show ((((0 : Nat) : Int)) = 0) = True from eq_true rfl]
    refine k_ret ?_
    try walk_at "E"
    exact ok_atom hk hc hd (by omega) fun d s' => q _ _
  | succ n ih =>
    intro m s ts hm ht Q q
    obtain ⟨m, rfl⟩ : ∃ k, m = k + 1 := ⟨m - 1, by omega⟩
    have sub : ((n + 1 : Nat) : Int) - 1 = (n : Nat) := by omega
    unfold Fform K_w_form B_w_form
    refine k_fn (k_seq (k_set ?_))
    try walk_at "E"
    refine k_draw (by omega) (by omega) fun r s1 r0 r1 => k_seq (k_sIf ?_)
    have ne0 : ((((n + 1 : Nat)) : Int) = 0) = False := eq_false (by omega)
    simp_arith [ne0]
    by_cases h4 : r < 4
    · simp_arith [h4]
      refine k_ret ?_
      try walk_at "E"
      exact ok_atom hk hc hd (by omega) fun d s' => q _ _
    simp_arith [h4]
    refine k_nx (k_seq (k_sIf ?_))
    try walk_at "E"
    by_cases e4 : r = 4
    · simp_arith [e4]
      refine k_ret ?_
      simp_arith [sub]
      refine ih m s1 ts (by omega) (by omega) fun d s' => ?_
      exact q _ _
    simp_arith [e4]
    refine k_nx (k_seq (k_sIf ?_))
    try walk_at "E"
    by_cases h9 : r < 9
    · simp_arith [h9]
      refine k_seq (k_set ?_)
      simp_arith [sub]
      refine ih m s1 ts (by omega) (by omega) fun d s2 => k_ret ?_
      simp_arith [sub]
      obtain ⟨z, _, e⟩ := ix_strs (xs := ["and", "or", "if", "if"]) (r := r - 5) (by omega) (by show r - 5 < 4; omega)
      simp only [List.map_cons, List.map_nil] at e
      rw [e]
      try walk_at "E"
      refine ih m s2 ts (by omega) (by omega) fun d s' => ?_
      exact q _ _
    simp_arith [h9]
    refine k_nx (k_seq (k_set ?_))
    simp_arith [v_stock3]
    refine k_pick (by omega) (by omega) fun x s2 _ => k_ret ?_
    obtain ⟨z, _, e⟩ := ix_strs (xs := ["every", "every", "some"]) (r := r - 9) (by omega) (by show r - 9 < 3; omega)
    simp only [List.map_cons, List.map_nil] at e
    simp_arith [sub, e]
    rw [show pAdd (.list (ts.map .str)) (.list [.str x]) = some (.list ((ts ++ [x]).map .str)) from by
      rw [v_addL (szL (by simp; omega))]
      simp]
    try walk_at "E"
    refine ih m s2 (ts ++ [x]) (by omega) (by simp; omega) fun d s' => ?_
    exact q _ _
end Lw23
set_option Elab.async false
set_option linter.all false
set_option maxRecDepth 100000
set_option maxHeartbeats 4000000
namespace Lw23
open PySem PySem.Spec L2 Dl
theorem v_slT {ds : List D} {lo hi : Option Int} : pSl (.tuple ds) lo hi = some (.tuple (cutD ds lo hi)) := rfl
theorem v_slL {ds : List D} {lo hi : Option Int} : pSl (.list ds) lo hi = some (.list (cutD ds lo hi)) := rfl
def onesW : List Str := Txt.split (Str.ofString "again left right orleft orright nothing meaning asmany one someof none nomore cover turned soif not contrary forany forsome") " "
def opW : List Str := ["supposed", "any", "called"]
theorem ones_not : ∀ x ∈ onesW, x ∉ opW := by decide +kernel
theorem ones_len : onesW.length = 19 := by decide +kernel
abbrev Freason : Fn DS := K_w_reason Fdraw Fsigns
abbrev Fopener : Fn DS := K_w_opener Fdraw
/-- one of some written words is drawn -/
theorem k_word {ws : List Str} {n : Int} {s : DS} (hn : n = ws.length) (h : 0 < ws.length) (h2 : ws.length ≤ 100000) {Q : D → DS → Prop} (q : ∀ x s', x ∈ ws → Q (.str x) s') : Ok (Fdraw [hnd 0, .int n] s) fun a s => ∃ z, pIx (.list (ws.map .str)) a = some z ∧ Q z s := by
  subst hn
  refine k_draw (by omega) (by omega) fun i s2 i0 i1 => ?_
  obtain ⟨z, hz, e⟩ := ix_strs (xs := ws) i0 i1
  exact ⟨_, e, q _ _ hz⟩
end Lw23
set_option Elab.async false
set_option linter.all false
set_option maxRecDepth 100000
set_option maxHeartbeats 4000000
namespace Lw23
open PySem PySem.Spec L2 Dl
/-! ### lines, told by level and opener or not; the openers around -/
abbrev Ln := Int × Bool
/-- a line ends a box of this level -/
def ends (x : Ln) (lev : Int) : Bool := decide (x.1 < lev) || (decide (x.1 = lev) && x.2)
def lev (L : List Ln) (a : Nat) : Int := (L[a]?.map (·.1)).getD 0
theorem lev_at {L : List Ln} {a : Nat} {x : Ln} (h : L[a]? = some x) : lev L a = x.1 := by
  unfold lev
  rw [h]
  rfl
def arS (L : List Ln) (ar : List Nat) (j : Nat) (x : Ln) : List Nat := (ar.filter fun a => !ends x (lev L a)) ++ (if x.2 then [j] else [])
def arN (L : List Ln) : Nat → List Nat
  | 0 => []
  | j + 1 => match L[j]? with
    | none => arN L j
    | some x => arS L (arN L j) j x
theorem arN_succ {L : List Ln} {j : Nat} {x : Ln} (h : L[j]? = some x) : arN L (j + 1) = arS L (arN L j) j x := by
  show (match L[j]? with | none => arN L j | some x => arS L (arN L j) j x) = _
  rw [h]
theorem arS_mem {L : List Ln} {ar : List Nat} {j : Nat} {x : Ln} {a : Nat} (h : a ∈ arS L ar j x) : a ∈ ar ∨ a = j := by
  unfold arS at h
  rcases List.mem_append.mp h with h | h
  · exact .inl (List.mem_filter.mp h).1
  · split at h
    · exact .inr (by simpa using h)
    · cases h
theorem arN_lt (L : List Ln) : ∀ j a, a ∈ arN L j → a < j ∧ a < L.length
  | 0, a, h => nomatch h
  | j + 1, a, h => by
    have h : a ∈ (match L[j]? with | none => arN L j | some x => arS L (arN L j) j x) := h
    cases e : L[j]? with
    | none =>
      rw [e] at h
      have := arN_lt L j a h
      omega
    | some x =>
      rw [e] at h
      have hj := (List.getElem?_eq_some_iff.mp e).1
      rcases arS_mem h with h | h
      · have := arN_lt L j a h
        omega
      · omega
theorem arN_len (L : List Ln) : ∀ j, (arN L j).length ≤ j
  | 0 => Nat.le_refl _
  | j + 1 => by
    show (match L[j]? with | none => arN L j | some x => arS L (arN L j) j x).length ≤ j + 1
    have ih := arN_len L j
    cases e : L[j]? with
    | none => show (arN L j).length ≤ _; omega
    | some x =>
      show (arS L (arN L j) j x).length ≤ _
      unfold arS
      rw [List.length_append]
      have := List.length_filter_le (fun a => !ends x (lev L a)) (arN L j)
      split <;> simp <;> omega
/-- the same of a beginning -/
theorem arN_take {L : List Ln} {k : Nat} : ∀ j, j ≤ k → arN (L.take k) j = arN L j
  | 0, _ => rfl
  | j + 1, h => by
    have ih := arN_take (L := L) (k := k) j (by omega)
    have e : (L.take k)[j]? = L[j]? := List.getElem?_take_of_lt (show j < k by omega)
    show (match (L.take k)[j]? with | none => arN (L.take k) j | some x => arS (L.take k) (arN (L.take k) j) j x) = (match L[j]? with | none => arN L j | some x => arS L (arN L j) j x)
    rw [e, ih]
    cases e2 : L[j]? with
    | none => rfl
    | some x =>
      show arS (L.take k) (arN L j) j x = arS L (arN L j) j x
      unfold arS
      congr 1
      refine List.filter_congr fun a ha => ?_
      have hlt := (arN_lt L j a ha).1
      have hak : a < k := Nat.lt_trans hlt h
      have e3 : (L.take k)[a]? = L[a]? := List.getElem?_take_of_lt hak
      unfold lev
      rw [e3]
/-- an opener stays around just till a line ends its level -/
theorem stay {L : List Ln} {a : Nat} {x : Ln} (hx : L[a]? = some x) (hop : x.2 = true) : ∀ j, a ≤ j → j < L.length → (a ∈ arN L (j + 1) ↔ ∀ t y, a < t → t ≤ j → L[t]? = some y → ends y x.1 = false) := by
  intro j
  induction j with
  | zero =>
    intro ha hj
    have e : a = 0 := by omega
    subst e
    rw [arN_succ hx]
    constructor
    · intro _ t y h1 h2
      omega
    · intro _
      unfold arS
      rw [hop]
      simp
  | succ j ih =>
    intro ha hj
    obtain ⟨y, hy⟩ : ∃ y, L[j + 1]? = some y := ⟨_, List.getElem?_eq_getElem hj⟩
    rw [arN_succ hy]
    by_cases e : a = j + 1
    · subst e
      rw [hx] at hy
      cases hy
      constructor
      · intro _ t z h1 h2
        omega
      · intro _
        unfold arS
        rw [hop]
        simp
    · have ih := ih (by omega) (by omega)
      have key : a ∈ arS L (arN L (j + 1)) (j + 1) y ↔ a ∈ arN L (j + 1) ∧ ends y x.1 = false := by
        unfold arS
        rw [List.mem_append, List.mem_filter, lev_at hx]
        constructor
        · rintro (⟨h1, h2⟩ | h)
          · exact ⟨h1, by simpa using h2⟩
          · split at h
            · exact absurd (by simpa using h) e
            · cases h
        · rintro ⟨h1, h2⟩
          exact .inl ⟨h1, by rw [h2]; rfl⟩
      rw [key, ih]
      constructor
      · rintro ⟨h1, h2⟩ t z a1 a2 hz
        by_cases et : t = j + 1
        · rw [et, hy] at hz
          cases hz
          exact h2
        · exact h1 t z a1 (by omega) hz
      · intro h
        exact ⟨fun t z a1 a2 hz => h t z a1 (by omega) hz, h (j + 1) y (by omega) (Nat.le_refl _) hy⟩
/-! ### a line more -/
theorem lev_app {L : List Ln} {x : Ln} {a : Nat} (h : a < L.length) : lev (L ++ [x]) a = lev L a := by
  unfold lev
  rw [List.getElem?_append_left h]
theorem arN_app {L : List Ln} {x : Ln} {j : Nat} (h : j ≤ L.length) : arN (L ++ [x]) j = arN L j := by
  have := arN_take (L := L ++ [x]) (k := L.length) j h
  rw [List.take_left'] at this
  · exact this.symm
  · rfl
theorem arN_last (L : List Ln) (x : Ln) : arN (L ++ [x]) (L.length + 1) = ((arN L L.length).filter fun a => !ends x (lev L a)) ++ (if x.2 then [L.length] else []) := by
  rw [arN_succ (x := x) (by rw [List.getElem?_append_right (Nat.le_refl _)]; simp), arN_app (Nat.le_refl _)]
  unfold arS
  congr 1
  refine List.filter_congr fun a ha => ?_
  rw [lev_app (arN_lt L L.length a ha).2]
/-! ### the words told anew -/
abbrev a8 : Str := "abcdefgh"
def zq (k : Nat) : Str := "Zq" ++ (⟨#[97 + k % 8]⟩ : Str) ++ (⟨#[97 + k / 8]⟩ : Str)
theorem zq_W : ∀ k, k < 64 → zq k ∉ cands "W" := by decide +kernel
theorem zq_inj : ∀ j, j < 64 → ∀ k, k < 64 → zq j = zq k → j = k := by decide +kernel
theorem a8_at {i : Nat} (h : i < 8) : atI a8.cps.toList (i : Int) = some (97 + i) := by
  refine atI_nat ?_
  have : ∀ i, i < 8 → a8.cps.toList[i]? = some (97 + i) := by decide +kernel
  exact this i h
/-- what is taken: names, W-words and the words of earlier lines -/
def Tak (ns tk : List Str) (i : Nat) : Prop := (∀ x ∈ tk, x ∈ ns ∨ x ∈ cands "W" ∨ ∃ j, 1 ≤ j ∧ j ≤ i ∧ x = zq j) ∧ ∃ cl : List Str, cl.Nodup ∧ (∀ x ∈ cl, x ∈ ns ∧ ∃ j, 1 ≤ j ∧ j ≤ i ∧ x = zq j) ∧ (tk.filter fun x => decide (x ∈ cands "W")).length ≤ ns.length + cl.length
theorem Tak.start (ns : List Str) : Tak ns ns 0 := ⟨fun x hx => .inl hx, [], List.nodup_nil, (fun _ z => nomatch z), by
  have := fil_le (fun x => decide (x ∈ cands "W")) ns
  simpa using this⟩
theorem Tak.up {ns tk : List Str} {i : Nat} (h : Tak ns tk i) : Tak ns tk (i + 1) := by
  obtain ⟨h1, cl, h2, h3, h4⟩ := h
  refine ⟨fun x hx => ?_, cl, h2, fun x hx => ?_, h4⟩
  · rcases h1 x hx with h | h | ⟨j, a, b, e⟩
    · exact .inl h
    · exact .inr (.inl h)
    · exact .inr (.inr ⟨j, a, by omega, e⟩)
  · obtain ⟨a, j, b, c, e⟩ := h3 x hx
    exact ⟨a, j, b, by omega, e⟩
theorem Tak.few {ns tk : List Str} {i : Nat} (h : Tak ns tk i) (hn : ns.length ≤ 6) : (tk.filter fun x => decide (x ∈ cands "W")).length < 26 := by
  obtain ⟨h1, cl, h2, h3, h4⟩ := h
  have := Lc.nodup_le cl ns h2 fun x hx => (h3 x hx).1
  omega
theorem Tak.more {ns tk : List Str} {i : Nat} {x : Str} (h : Tak ns tk i) (hi : i + 1 < 64) (hu : Unl (zq (i + 1)) "W" tk x) : Tak ns (tk ++ [x]) (i + 1) := by
  have h0 := h
  obtain ⟨h1, cl, h2, h3, h4⟩ := h
  have nW := zq_W (i + 1) hi
  have old : ∀ j, 1 ≤ j → j ≤ i → zq (i + 1) ≠ zq j := fun j a b e => by
    have := zq_inj (i + 1) hi j (by omega) e
    omega
  rcases hu with ⟨a, rfl⟩ | ⟨a, b, c⟩
  · refine ⟨fun y hy => ?_, cl, h2, fun y hy => ?_, ?_⟩
    · rcases List.mem_append.mp hy with hy | hy
      · exact h0.up.1 y hy
      · have e : y = zq (i + 1) := by simpa using hy
        exact .inr (.inr ⟨i + 1, by omega, Nat.le_refl _, e⟩)
    · obtain ⟨a1, j, b1, c1, e1⟩ := h3 y hy
      exact ⟨a1, j, b1, by omega, e1⟩
    · rw [List.filter_append, List.length_append]
      have : ([zq (i + 1)].filter fun x => decide (x ∈ cands "W")) = [] := by
        rw [List.filter_cons, decide_eq_false nW]
        rfl
      rw [this]
      exact h4
  · have inN : zq (i + 1) ∈ ns := by
      rcases h1 _ a with h | h | ⟨j, x1, x2, e⟩
      · exact h
      · exact absurd h nW
      · exact absurd e (old j x1 x2)
    refine ⟨fun y hy => ?_, cl ++ [zq (i + 1)], ?_, fun y hy => ?_, ?_⟩
    · rcases List.mem_append.mp hy with hy | hy
      · exact h0.up.1 y hy
      · have e : y = x := by simpa using hy
        rw [e]
        exact .inr (.inl b)
    · rw [List.nodup_append]
      refine ⟨h2, by simp, fun y hy z hz e => ?_⟩
      have ez : z = zq (i + 1) := by simpa using hz
      obtain ⟨_, j, x1, x2, e2⟩ := h3 y hy
      rw [e, ez] at e2
      exact old j x1 x2 e2
    · rcases List.mem_append.mp hy with hy | hy
      · obtain ⟨a1, j, b1, c1, e1⟩ := h3 y hy
        exact ⟨a1, j, b1, by omega, e1⟩
      · have e : y = zq (i + 1) := by simpa using hy
        rw [e]
        exact ⟨inN, i + 1, by omega, Nat.le_refl _, rfl⟩
    · rw [List.filter_append, List.length_append, List.length_append]
      have := fil_le (fun x => decide (x ∈ cands "W")) [x]
      simp at this ⊢
      omega
end Lw23
set_option Elab.async false
set_option linter.all false
set_option maxRecDepth 100000
set_option maxHeartbeats 4000000
namespace Lw23
open PySem PySem.Spec L2 Dl
def LnD (d : D) (x : Ln) : Prop := ∃ y wd zs, d = .tuple [.int x.1, y, .tuple (.str wd :: zs)] ∧ x.2 = decide (wd ∈ opW)
def LsD (ds : List D) (L : List Ln) : Prop := ds.length = L.length ∧ ∀ (i : Nat) (x : Ln), L[i]? = some x → ∃ d, ds[i]? = some d ∧ LnD d x
theorem LsD.app {ds : List D} {L : List Ln} {d : D} {x : Ln} (h : LsD ds L) (hd : LnD d x) : LsD (ds ++ [d]) (L ++ [x]) := by
  refine ⟨by rw [List.length_append, List.length_append, h.1]; rfl, fun i y hy => ?_⟩
  rcases Nat.lt_or_ge i L.length with hi | hi
  · rw [List.getElem?_append_left hi] at hy
    obtain ⟨u, h1, h2⟩ := h.2 i y hy
    exact ⟨u, by rw [List.getElem?_append_left (by rw [h.1]; exact hi)]; exact h1, h2⟩
  · rw [List.getElem?_append_right hi] at hy
    have hi0 : i - L.length = 0 := by
      have := (List.getElem?_eq_some_iff.mp hy).1
      simp at this
      omega
    rw [hi0] at hy
    cases hy
    exact ⟨d, by rw [List.getElem?_append_right (by rw [h.1]; exact hi), h.1, hi0]; rfl, hd⟩
/-- a box's opener: its level, number, name -/
def ent (L : List Ln) (p : Nat × D) : D := .tuple [.int (lev L p.1), .int ((p.1 + 1 : Nat) : Int), p.2]
def nmOk (d : D) : Prop := d = .none ∨ ∃ z, d = .str z
def InD (ts : List D) (L : List Ln) (as : List Nat) : Prop := ∃ ps : List (Nat × D), ts = ps.map (ent L) ∧ ps.map (·.1) = as ∧ ∀ p ∈ ps, nmOk p.2
def BxD (bs : List D) (L : List Ln) (n : Nat) : Prop := bs.length = n ∧ ∀ j, j < n → ∃ ts, bs[j]? = some (.tuple ts) ∧ InD ts L (arN L (j + 1))
theorem ent_app {L : List Ln} {x : Ln} {p : Nat × D} (h : p.1 < L.length) : ent (L ++ [x]) p = ent L p := by
  unfold ent
  rw [lev_app h]
theorem InD.app {ts : List D} {L : List Ln} {as : List Nat} {x : Ln} (h : InD ts L as) (hl : ∀ a ∈ as, a < L.length) : InD ts (L ++ [x]) as := by
  obtain ⟨ps, rfl, rfl, h3⟩ := h
  refine ⟨ps, List.map_congr_left fun p hp => (ent_app (hl p.1 (List.mem_map.mpr ⟨p, hp, rfl⟩))).symm, rfl, h3⟩
theorem BxD.app {bs : List D} {L : List Ln} {x : Ln} (h : BxD bs L L.length) : BxD bs (L ++ [x]) L.length := ⟨h.1, fun j hj => by
  obtain ⟨ts, h1, h2⟩ := h.2 j hj
  refine ⟨ts, h1, ?_⟩
  rw [arN_app (by omega)]
  exact h2.app fun a ha => (arN_lt L (j + 1) a ha).2⟩
theorem BxD.more {bs ts : List D} {L : List Ln} {x : Ln} (h : BxD bs L L.length) (ht : InD ts (L ++ [x]) (arN (L ++ [x]) (L.length + 1))) : BxD (bs ++ [.tuple ts]) (L ++ [x]) (L.length + 1) := by
  have h' := h.app (x := x)
  refine ⟨by rw [List.length_append, h.1]; rfl, fun j hj => ?_⟩
  rcases Nat.lt_or_ge j L.length with hi | hi
  · obtain ⟨us, h1, h2⟩ := h'.2 j hi
    exact ⟨us, by rw [List.getElem?_append_left (by rw [h.1]; exact hi)]; exact h1, h2⟩
  · have : j = L.length := by omega
    subst this
    exact ⟨ts, by rw [List.getElem?_append_right (by rw [h.1]; exact hi), h.1, Nat.sub_self]; rfl, ht⟩
/-- levels from 0 on, those of openers from 1 on -/
def Lv (L : List Ln) : Prop := ∀ x ∈ L, 0 ≤ x.1 ∧ (x.2 = true → 1 ≤ x.1)
theorem arN_op (L : List Ln) : ∀ j a, a ∈ arN L j → ∃ x, L[a]? = some x ∧ x.2 = true
  | 0, a, h => nomatch h
  | j + 1, a, h => by
    have h : a ∈ (match L[j]? with | none => arN L j | some x => arS L (arN L j) j x) := h
    cases e : L[j]? with
    | none => rw [e] at h; exact arN_op L j a h
    | some x =>
      rw [e] at h
      have h : a ∈ arS L (arN L j) j x := h
      unfold arS at h
      rcases List.mem_append.mp h with h | h
      · exact arN_op L j a (List.mem_filter.mp h).1
      · split at h
        · have : a = j := by simpa using h
          subst this
          exact ⟨x, e, by assumption⟩
        · cases h
/-- a comprehension that keeps some of a list -/
theorem k_keep {S : Type} {ds : List D} {q : Et S} {f : Ev S} {fi : Ea S} {t : Tg} {vs : List Nat} {ρ : Rho} {s : S} (c : D → Bool) (g : D → D) (hl : ds.length ≤ sizeLine) (hi : fi ρ s = some (ds, s))
    (hq : ∀ d ∈ ds, ∃ ρ1, t d (wipeR ρ vs) = some ρ1 ∧ q ρ1 s = some (c d, s) ∧ (c d = true → f ρ1 s = some (g d, s))) {Q : List D → S → Prop} (h : Q ((ds.filter c).map g) s) : Ok (lcF fi t q f vs ρ s) Q := by
  refine k_lcP (fun xs s' => xs = ds ∧ s' = s) (Ok.of hi ⟨rfl, rfl⟩) ?_
  intro xs s1 hxs
  obtain ⟨e1, e2⟩ := hxs
  rw [e1, e2]
  refine ⟨hl, fun j acc s' => s' = s ∧ acc = ((ds.take j).filter c).map g, ⟨rfl, by simp⟩, ?_, ?_⟩
  · rintro j d acc s' hd ⟨rfl, rfl⟩
    obtain ⟨ρ1, h1, h2, h3⟩ := hq d (List.mem_of_getElem? hd)
    have tk : ds.take (j + 1) = ds.take j ++ [d] := by rw [List.take_succ, hd]; rfl
    refine ⟨ρ1, h1, Ok.of h2 ?_⟩
    cases hc : c d with
    | true =>
      simp only [if_true]
      refine Ok.of (h3 hc) ⟨rfl, ?_⟩
      rw [tk, List.filter_append, List.map_append, List.filter_cons, hc]
      rfl
    | false =>
      simp only [Bool.false_eq_true, if_false]
      refine ⟨trivial, ?_⟩
      rw [tk, List.filter_append, List.map_append, List.filter_cons, hc]
      simp
  · rintro acc s' ⟨rfl, rfl⟩
    rw [List.take_length]
    exact h
abbrev Flines : Fn DS := K_w_lines Fdraw K_w_unlike Fopener Freason (Fform 3)
/-- the names of those around -/
def nms : List (Nat × D) → List Str
  | [] => []
  | (_, .str z) :: ps => z :: nms ps
  | _ :: ps => nms ps
def namedD : D → Bool
  | .tuple [_, _, nm] => !nonD nm
  | _ => false
def thirdD : D → D
  | .tuple [_, _, nm] => nm
  | d => d
def levD (c : Int → Bool) : D → Bool
  | .tuple (.int v :: _) => c v
  | _ => false
end Lw23
set_option Elab.async false
set_option linter.all false
set_option maxRecDepth 100000
set_option maxHeartbeats 4000000
namespace Lw23
open PySem PySem.Spec L2 Dl
def letW : List Str := ["u", "v", "w", "x", "y", "z", "x9", "u8"]
theorem ls_eq : pListS1 [.str "uvwxyz"] = some ((["u", "v", "w", "x", "y", "z"] : List Str).map .str) := by
  show (if (Str.ofString "uvwxyz").length ≤ sizeLine then some ((Str.ofString "uvwxyz").cps.toList.map fun c => (PyData.str ⟨#[c]⟩ : D)) else none) = _
  rw [if_pos (by decide), show (Str.ofString "uvwxyz").cps.toList = [117, 118, 119, 120, 121, 122] from by decide +kernel]
  rfl
theorem v_ixm1 {xs : List Str} {x : Str} : pIx (.list ((xs ++ [x]).map .str)) (.int (-1)) = some (.str x) := by
  simp only [pIx]
  rw [List.map_append]
  unfold atI ixN
  have e : (-1 + ((xs.length : Int) + 1)).toNat = xs.length := by omega
  have h1 : (1 : Int) ≤ (xs.length : Int) + 1 := by omega
  simp [e, h1]
theorem map_id' (l : List D) : l.map (fun d => d) = l := List.map_id' l
theorem a8_ix {k : Int} (h0 : 0 ≤ k) (h : k < 8) : pIx (.str "abcdefgh") (.int k) = some (.str ⟨#[97 + k.toNat]⟩) := by
  have := a8_at (i := k.toNat) (by omega)
  rw [show ((k.toNat : Nat) : Int) = k by omega] at this
  simp only [pIx]
  rw [if_pos (by decide), this]
  rfl
theorem v_fdiv8 {k : Int} : pFdiv (.int k) (.int 8) = some (.int (k / 8)) := rfl
structure St (ns : List Str) (j : Nat) (L : List Ln) (xs bs : List D) (ps : List (Nat × D)) (tk : List Str) (lv : Int) : Prop where
  len : L.length = j
  ls : LsD xs L
  bx : BxD bs L L.length
  ar : ps.map (·.1) = arN L L.length
  nm : ∀ p ∈ ps, nmOk p.2
  lvs : Lv L
  l0 : 0 ≤ lv
  l8 : lv ≤ 8
  tak : Tak ns tk j
  tlen : tk.length ≤ ns.length + j
/-- the end of a turn: the line is put down -/
def restL : Sv DS := (sSeq (sSet 17 (cB pAdd (cNl (aN pList (aCons (cVar 3) aNil))) (cNl (lcF (iOf asL (cVar 10)) (gNm 18) (qT (cB pIsNot (cB pIx (cVar 18) (cK (.int 2))) (cK .none))) (cB pIx (cVar 18) (cK (.int 2))) [18]))))
      (sSeq (sApp 8 (cN pTup (aCons (cVar 12) (aCons (cCall 4 (Fform 3) (aCons (cVar 0) (aCons (cVar 6) (aCons (cVar 17) (aCons (cK (.int 2)) aNil))))) (aCons (cVar 15) aNil)))))
      (sApp 9 (cN pTuple (aCons (cVar 10) aNil)))))
end Lw23
set_option Elab.async false
set_option linter.all false
set_option maxRecDepth 100000
set_option maxHeartbeats 4000000
/-! a def whose last parameter has the default None, called with it and without -/
namespace Dl
open PySem PySem.Spec PyProof.Rows L2
section
variable {S : Type} {P : Program} {w : World} {K : PySem.W.Frag} {mg : Str → Option Value} {base : Heap} {G : Kx} {Z : Zk S} {W : List Nat} {F : Sv S}
end
/-- a def that may be called without its last argument, which is None then -/
structure Dn1 (P : Program) (w : World) (K : PySem.W.Frag) (mg : Str → Option Value) (base : Heap) (x : Str) (ps : List Str) (k : Nat) (sp : Sp) where
  f : Addr
  fd : FuncData
  kp : PySem.W.keepIn K (.ref f) = true
  g : mg x = some (.ref f)
  ds : List Value
  r : Vals [V.non] ds
  b : Binds K fd ps ds
  G : FnOk P w K mg base CX0 k f fd ps sp
section
variable {S : Type} {X : Cx} {G : Kx} {Z : Zk S} {W : List Nat} {fa : Ea S} {e : Expr} {es : List Expr} {pos p : Pos} {x : Str}
end
end Dl
set_option Elab.async false
set_option linter.all false
set_option maxRecDepth 100000
set_option maxHeartbeats 4000000
namespace Lw30
open PySem PySem.Spec PyProof.Rows L2 Dl
def t_SHAPES : List (Str × Str) := [(("is" : Str), ("tk" : Str)), (("does" : Str), ("dtt" : Str)), (("same" : Str), ("tt" : Str)), (("least" : Str), ("ss" : Str)), (("false" : Str), ("" : Str)), (("not" : Str), ("F" : Str)), (("and" : Str), ("FF" : Str)), (("or" : Str), ("FF" : Str)), (("if" : Str), ("FF" : Str)), (("every" : Str), ("xF" : Str)), (("some" : Str), ("xF" : Str))]
def t_REASONS : List (Str × Str) := [(("given" : Str), ("" : Str)), (("supposed" : Str), ("" : Str)), (("any" : Str), ("N" : Str)), (("called" : Str), ("Nk" : Str)), (("again" : Str), ("k" : Str)), (("itself" : Str), ("" : Str)), (("both" : Str), ("kk" : Str)), (("left" : Str), ("k" : Str)), (("right" : Str), ("k" : Str)), (("orleft" : Str), ("k" : Str)), (("orright" : Str), ("k" : Str)), (("then" : Str), ("kk" : Str)), (("absurd" : Str), ("kk" : Str)), (("nothing" : Str), ("k" : Str)), (("at" : Str), ("kN" : Str)), (("such" : Str), ("kN" : Str)), (("put" : Str), ("kk" : Str)), (("soif" : Str), ("k" : Str)), (("not" : Str), ("k" : Str)), (("contrary" : Str), ("k" : Str)), (("cases" : Str), ("kkk" : Str)), (("forany" : Str), ("k" : Str)), (("forsome" : Str), ("k" : Str)), (("meaning" : Str), ("k" : Str)), (("earlier" : Str), ("EK" : Str)), (("asmany" : Str), ("k" : Str)), (("one" : Str), ("k" : Str)), (("two" : Str), ("kkk" : Str)), (("someof" : Str), ("k" : Str)), (("none" : Str), ("k" : Str)), (("nomore" : Str), ("k" : Str)), (("apart" : Str), ("kk" : Str)), (("cover" : Str), ("k" : Str)), (("turned" : Str), ("k" : Str)), (("sums" : Str), ("KT" : Str)), (("by" : Str), ("B" : Str)), (("clearly" : Str), ("" : Str))]
-- is_again: slots form 0, forms 1, name 2
def B_w_word {S : Type} (F_w_draw : Fn S) : Sv S :=
    (sSeq (sSet 2 (cK (.str "abcdefghijklmnopqrstuvwxyz")))
    (sRet (cB pJoin (cK (.str "")) (cNl (lcF (iOfA pR1 (aCons (cCall 2 F_w_draw (aCons (cVar 0) (aCons (cB pAdd (cVar 1) (cK (.int 1))) aNil))) aNil)) (gNm 3) qYes (cB pIx (cVar 2) (cCall 2 F_w_draw (aCons (cVar 0) (aCons (cK (.int 26)) aNil)))) [3])))))
def K_w_word {S : Type} (F_w_draw : Fn S) : Fn S := fnD 4 (B_w_word F_w_draw)

-- _law_some: slots _law_deck_here 0, _law_many 1, _law_heads 2, _law_tail 3, _law_most 4, _law_found 5, _law_k 6, _law_word_here 7
def B_w_some {S : Type} (F_w_draw : Fn S) (F_w_word : Fn S) : Sv (S × Dg.KV Bool) :=
    (sSeq (sFor (iOfA pR1 (aCons (cVar 1) aNil)) (gNm 6)
    (sSeq (sSet 7 (cB pAdd (cB pAdd (cB pIx (cVar 2) (cCall 2 (Dg.upK F_w_draw) (aCons (cVar 0) (aCons (cN pLen (aCons (cVar 2) aNil)) aNil)))) (cCall 2 (Dg.upK F_w_word) (aCons (cVar 0) (aCons (cVar 4) aNil)))) (cVar 3)))
      (sSeq (sIf (qAnd (qT (cB pEq (cB pMod (cVar 6) (cK (.int 2))) (cK (.int 1)))) (qAnd (qT (cB pGt (Dg.cDlen 5) (cK (.int 0)))) (qT (cB pEq (cCall 2 (Dg.upK F_w_draw) (aCons (cVar 0) (aCons (cK (.int 2)) aNil))) (cK (.int 0))))))
      (sSet 7 (cB pAdd (cB pAdd (cSl pSl (cB pIx (cNl (Dg.aDk 5)) (cK (.int 0))) oNo (oOf (cK (.int 4)))) (cK (.str "q"))) (cVar 3)))
      sNx)
      (Dg.sDp 5 (cVar 7) (cK (.bool true))))))
    (sRet (cN pTuple (aCons (cNl (Dg.aSd 5)) aNil))))
def K_w_some {S : Type} (F_w_draw : Fn S) (F_w_word : Fn S) : Fn S := Dg.fnDk (VA := Bool) 8 5 (B_w_some F_w_draw F_w_word)

-- _law_vocabulary: slots _law_deck_here 0, _law_names 1, _law_kinds 2, _law_doings 3, _law_some_here 4, _law_rows 5, _law_more 6
def B_w_vocabulary {S : Type} (F_w_some : Fn S) (F_w_draw : Fn S) : Sv S :=
    (sSeq (sSet 4 (cCall 5 F_w_some (aCons (cVar 0) (aCons (cB pAdd (cK (.int 1)) (cCall 2 F_w_draw (aCons (cVar 0) (aCons (cVar 1) aNil)))) (aCons (cK (.str "ABCDEFGHIJKLM")) (aCons (cK (.str "")) (aCons (cK (.int 6)) aNil)))))))
    (sSeq (sSet 5 (cCall 5 F_w_some (aCons (cVar 0) (aCons (cB pAdd (cK (.int 1)) (cCall 2 F_w_draw (aCons (cVar 0) (aCons (cVar 2) aNil)))) (aCons (cK (.str "abcdefghijklmnopqrstuvwxyz")) (aCons (cK (.str "q")) (aCons (cK (.int 5)) aNil)))))))
    (sSeq (sSet 6 (cCall 5 F_w_some (aCons (cVar 0) (aCons (cCall 2 F_w_draw (aCons (cVar 0) (aCons (cB pAdd (cVar 3) (cK (.int 1))) aNil))) (aCons (cK (.str "abcdefghijklmnopqrstuvwxyz")) (aCons (cK (.str "qz")) (aCons (cK (.int 4)) aNil)))))))
    (sRet (cN pTup (aCons (cVar 4) (aCons (cVar 5) (aCons (cVar 6) aNil))))))))
def K_w_vocabulary {S : Type} (F_w_some : Fn S) (F_w_draw : Fn S) : Fn S := fnD 7 (B_w_vocabulary F_w_some F_w_draw)

-- _law_sum: slots _law_deck_here 0, _law_kinds 1, _law_parts 2, _law_kind 3; cells _law_deck_here
def B_w_sum {S : Type} (F_w_draw : Fn S) : Sv S :=
    (sSeq (sSet 2 (cNl (lcF (iOf asT (cVar 1)) (gNm 3) (qT (cB pEq (cCall 2 F_w_draw (aCons (cVar 0) (aCons (cK (.int 2)) aNil))) (cK (.int 0)))) (cN pTup (aCons (cVar 3) (aCons (cB pAdd (cK (.int 1)) (cCall 2 F_w_draw (aCons (cVar 0) (aCons (cK (.int 3)) aNil)))) aNil))) [3])))
    (sRet (cN pTup (aCons (cN pTuple (aCons (cVar 2) aNil)) (aCons (cCall 2 F_w_draw (aCons (cVar 0) (aCons (cK (.int 3)) aNil))) aNil)))))
def K_w_sum {S : Type} (F_w_draw : Fn S) : Fn S := fnD 4 (B_w_sum F_w_draw)

-- _law_atom: slots _law_deck_here 0, _law_vocabulary_here 1, _law_letters 2, _law_names 3, _law_kinds 4, _law_doings 5, _law_terms 6, _law_t 7, _law_u 8, _law_way 9
def B_w_atom {S : Type} (F_w_draw : Fn S) (F_w_sum : Fn S) : Sv S :=
    (sSeq (sAsg (cVar 1) (gTp (gC (gNm 3) (gC (gNm 4) (gC (gNm 5) gN0)))))
    (sSeq (sSet 6 (cB pAdd (cB pAdd (cNl (aN pList (aCons (cVar 3) aNil))) (cVar 2)) (cVar 2)))
    (sSeq (sSet 7 (cB pIx (cVar 6) (cCall 2 F_w_draw (aCons (cVar 0) (aCons (cN pLen (aCons (cVar 6) aNil)) aNil)))))
    (sSeq (sSet 8 (cB pIx (cVar 6) (cCall 2 F_w_draw (aCons (cVar 0) (aCons (cN pLen (aCons (cVar 6) aNil)) aNil)))))
    (sSeq (sSet 9 (cCall 2 F_w_draw (aCons (cVar 0) (aCons (cK (.int 8)) aNil))))
    (sSeq (sIf (qT (cB pEq (cVar 9) (cK (.int 0))))
    (sRet (cN pTup (aCons (cK (.str "same")) (aCons (cVar 7) (aCons (cVar 8) aNil)))))
    sNx)
    (sSeq (sIf (qT (cB pEq (cVar 9) (cK (.int 1))))
    (sRet (cN pTup (aCons (cK (.str "least")) (aCons (cCall 2 F_w_sum (aCons (cVar 0) (aCons (cVar 4) aNil))) (aCons (cCall 2 F_w_sum (aCons (cVar 0) (aCons (cVar 4) aNil))) aNil)))))
    sNx)
    (sSeq (sIf (qAnd (qT (cB pEq (cVar 9) (cK (.int 2)))) (qT (cB pEq (cVar 2) (cN pLst aNil))))
    (sRet (cN pTup (aCons (cK (.str "false")) aNil)))
    sNx)
    (sSeq (sIf (qAnd (qT (cB pLt (cVar 9) (cK (.int 5)))) (qT (cB pNe (cVar 5) (cN pTup aNil))))
    (sRet (cN pTup (aCons (cK (.str "does")) (aCons (cB pIx (cVar 5) (cCall 2 F_w_draw (aCons (cVar 0) (aCons (cN pLen (aCons (cVar 5) aNil)) aNil)))) (aCons (cVar 7) (aCons (cVar 8) aNil))))))
    sNx)
    (sRet (cN pTup (aCons (cK (.str "is")) (aCons (cVar 7) (aCons (cB pIx (cVar 4) (cCall 2 F_w_draw (aCons (cVar 0) (aCons (cN pLen (aCons (cVar 4) aNil)) aNil)))) aNil))))))))))))))
def K_w_atom {S : Type} (F_w_draw : Fn S) (F_w_sum : Fn S) : Fn S := fnD 10 (B_w_atom F_w_draw F_w_sum)

-- _law_form: slots _law_deck_here 0, _law_vocabulary_here 1, _law_letters 2, _law_deep 3, _law_way 4, _law_x 5, _law_one 6, _law_other 7
def B_w_form {S : Type} (F_w_draw : Fn S) (F_w_atom : Fn S) (F_w_form : Fn S) : Sv S :=
    (sSeq (sSet 4 (cCall 2 F_w_draw (aCons (cVar 0) (aCons (cK (.int 9)) aNil))))
    (sSeq (sIf (qOr (qT (cB pEq (cVar 3) (cK (.int 0)))) (qT (cB pLt (cVar 4) (cK (.int 2)))))
    (sRet (cCall 3 F_w_atom (aCons (cVar 0) (aCons (cVar 1) (aCons (cVar 2) aNil)))))
    sNx)
    (sSeq (sIf (qT (cB pEq (cVar 4) (cK (.int 2))))
    (sRet (cN pTup (aCons (cK (.str "not")) (aCons (cCall 4 F_w_form (aCons (cVar 0) (aCons (cVar 1) (aCons (cVar 2) (aCons (cB pSub (cVar 3) (cK (.int 1))) aNil))))) aNil))))
    sNx)
    (sSeq (sIf (qT (cB pGt (cVar 4) (cK (.int 6))))
    (sSeq (sSet 5 (cB pIx (cN pLst (aCons (cK (.str "x")) (aCons (cK (.str "y")) (aCons (cK (.str "z")) (aCons (cK (.str "u")) (aCons (cK (.str "x1")) aNil)))))) (cCall 2 F_w_draw (aCons (cVar 0) (aCons (cK (.int 5)) aNil)))))
      (sRet (cN pTup (aCons (cB pIx (cN pLst (aCons (cK (.str "every")) (aCons (cK (.str "some")) aNil))) (cB pSub (cVar 4) (cK (.int 7)))) (aCons (cVar 5) (aCons (cCall 4 F_w_form (aCons (cVar 0) (aCons (cVar 1) (aCons (cB pAdd (cVar 2) (cN pLst (aCons (cVar 5) aNil))) (aCons (cB pSub (cVar 3) (cK (.int 1))) aNil))))) aNil))))))
    sNx)
    (sSeq (sSet 6 (cCall 4 F_w_form (aCons (cVar 0) (aCons (cVar 1) (aCons (cVar 2) (aCons (cB pSub (cVar 3) (cK (.int 1))) aNil))))))
    (sSeq (sSet 7 (cCall 4 F_w_form (aCons (cVar 0) (aCons (cVar 1) (aCons (cVar 2) (aCons (cB pSub (cVar 3) (cK (.int 1))) aNil))))))
    (sRet (cN pTup (aCons (cB pIx (cN pLst (aCons (cK (.str "and")) (aCons (cK (.str "or")) (aCons (cK (.str "if")) (aCons (cK (.str "if")) aNil))))) (cB pSub (cVar 4) (cK (.int 3)))) (aCons (cVar 6) (aCons (cVar 7) aNil)))))))))))
def K_w_form {S : Type} (F_w_draw : Fn S) (F_w_atom : Fn S) (F_w_form : Fn S) : Fn S := fnD 8 (B_w_form F_w_draw F_w_atom F_w_form)

-- is_all_of: slots text 0, signs 1, sign 2; cells signs
def B_is_all_of {S : Type}  : Sv S :=
    (sRet (cQu false (iOf asS (cVar 0)) (gNm 2) qYes (cB pIn (cVar 2) (cVar 1)) [2]))
def K_is_all_of {S : Type}  : Fn S := fnD 3 (B_is_all_of )

-- is_small: slots thing 0, least 1, most 2
def B_is_small {S : Type} (F_is_all_of : Fn S) : Sv S :=
    (sRet (cAnd (cU (pIsi "str") (cVar 0)) (cAnd (cCh pLe pLe (cVar 1) (cN pLen (aCons (cVar 0) aNil)) (cVar 2)) (cCall 2 F_is_all_of (aCons (cVar 0) (aCons (cK (.str "abcdefghijklmnopqrstuvwxyz")) aNil))))))
def K_is_small {S : Type} (F_is_all_of : Fn S) : Fn S := fnD 3 (B_is_small F_is_all_of)

-- is_name: slots thing 0
def B_is_name {S : Type} (F_is_small : Fn S) : Sv S :=
    (sSeq (sIf (qOr (qNot (qT (cU (pIsi "str") (cVar 0)))) (qNot (qT (cVar 0))))
    (sRet (cK (.bool false)))
    sNx)
    (sRet (cAnd (cB pIn (cB pIx (cVar 0) (cK (.int 0))) (cK (.str "ABCDEFGHIJKLMNOPQRSTUVWXYZ"))) (cCall 3 F_is_small (aCons (cSl pSl (cVar 0) (oOf (cK (.int 1))) oNo) (aCons (cK (.int 0)) (aCons (cK (.int 7)) aNil)))))))
def K_is_name {S : Type} (F_is_small : Fn S) : Fn S := fnD 1 (B_is_name F_is_small)

-- pieces: slots form 0, wanted 1, place 2, piece 3; cells wanted
def B_pieces {S : Type}  : Sv S :=
    (sRet (cNl (lcF (iOfA pZipS (aCons (cU (pDt t_SHAPES) (cB pIx (cVar 0) (cK (.int 0)))) (aCons (cSl pSl (cVar 0) (oOf (cK (.int 1))) oNo) aNil))) (gTp (gC (gNm 2) (gC (gNm 3) gN0))) (qT (cB pEq (cVar 2) (cVar 1))) (cVar 3) [2, 3])))
def K_pieces {S : Type}  : Fn S := fnD 4 (B_pieces )

-- put_for: slots form 0, x 1, name 2, put 3, place 4, piece 5; cells name, x
def B_put_for {S : Type} (F_pieces : Fn S) (F_put_at : Fn S) : Sv S :=
    (sSeq (sIf (qT (cB pIn (cVar 1) (cCall 2 F_pieces (aCons (cVar 0) (aCons (cK (.str "x")) aNil)))))
    (sRet (cVar 0))
    sNx)
    (sSeq (sSet 3 (cNl (lcF (iOfA pZipS (aCons (cU (pDt t_SHAPES) (cB pIx (cVar 0) (cK (.int 0)))) (aCons (cSl pSl (cVar 0) (oOf (cK (.int 1))) oNo) aNil))) (gTp (gC (gNm 4) (gC (gNm 5) gN0))) qYes (cCall 4 F_put_at (aCons (cVar 4) (aCons (cVar 5) (aCons (cVar 1) (aCons (cVar 2) aNil))))) [4, 5])))
    (sRet (cN pTup (aCons (cB pIx (cVar 0) (cK (.int 0))) (aStar (cVar 3) aNil))))))
def K_put_for {S : Type} (F_pieces : Fn S) (F_put_at : Fn S) : Fn S := fnD 6 (B_put_for F_pieces F_put_at)

-- put_at: slots place 0, piece 1, x 2, name 3
def B_put_at {S : Type} (F_put_for : Fn S) : Sv S :=
    (sSeq (sIf (qT (cB pEq (cVar 0) (cK (.str "F"))))
    (sRet (cCall 3 F_put_for (aCons (cVar 1) (aCons (cVar 2) (aCons (cVar 3) aNil)))))
    sNx)
    (sSeq (sIf (qAnd (qT (cB pEq (cVar 0) (cK (.str "t")))) (qT (cB pEq (cVar 1) (cVar 2))))
    (sRet (cVar 3))
    sNx)
    (sRet (cVar 1))))
def K_put_at {S : Type} (F_put_for : Fn S) : Fn S := fnD 4 (B_put_at F_put_for)

-- is_case: slots whole 0, word 1, name 2, case 3
def B_w_put {S : Type} (F_w_put : Fn S) : Sv S :=
    (sSeq (sSet 3 (cB pIx (cVar 0) (cK (.int 0))))
    (sSeq (sIf (qT (cB pIn (cVar 3) (cN pTup (aCons (cK (.str "false")) (aCons (cK (.str "least")) aNil)))))
    (sRet (cVar 0))
    sNx)
    (sSeq (sIf (qT (cB pIn (cVar 3) (cN pTup (aCons (cK (.str "is")) (aCons (cK (.str "does")) (aCons (cK (.str "same")) aNil))))))
    (sRet (cN pTuple (aCons (cNl (lcF (iOf asT (cVar 0)) (gNm 4) qYes (cB pIx (cN pLst (aCons (cVar 4) (aCons (cVar 2) aNil))) (cN pInt (aCons (cB pEq (cVar 4) (cVar 1)) aNil))) [4])) aNil)))
    sNx)
    (sSeq (sIf (qT (cB pIn (cVar 3) (cN pTup (aCons (cK (.str "every")) (aCons (cK (.str "some")) aNil)))))
    (sSeq (sIf (qT (cB pEq (cB pIx (cVar 0) (cK (.int 1))) (cVar 1)))
      (sRet (cVar 0))
      sNx)
      (sRet (cN pTup (aCons (cVar 3) (aCons (cB pIx (cVar 0) (cK (.int 1))) (aCons (cCall 3 F_w_put (aCons (cB pIx (cVar 0) (cK (.int 2))) (aCons (cVar 1) (aCons (cVar 2) aNil)))) aNil))))))
    sNx)
    (sRet (cB pAdd (cN pTup (aCons (cVar 3) aNil)) (cN pTuple (aCons (cNl (lcF (iOf asT (cSl pSl (cVar 0) (oOf (cK (.int 1))) oNo)) (gNm 4) qYes (cCall 3 F_w_put (aCons (cVar 4) (aCons (cVar 1) (aCons (cVar 2) aNil)))) [4])) aNil))))))))
def K_w_put {S : Type} (F_w_put : Fn S) : Fn S := fnD 5 (B_w_put F_w_put)

-- _law_deepened: slots _law_deck_here 0, _law_form_here 1, _law_letters 2, _law_still 3, _law_k 4, _law_way 5
end Lw30
set_option Elab.async false
set_option linter.all false
set_option maxRecDepth 100000
set_option maxHeartbeats 4000000
namespace Lw38
open PySem PySem.Spec PyProof.Rows L2 Dl
def t_SHAPES : List (Str × Str) := [(("is" : Str), ("tk" : Str)), (("does" : Str), ("dtt" : Str)), (("same" : Str), ("tt" : Str)), (("least" : Str), ("ss" : Str)), (("false" : Str), ("" : Str)), (("not" : Str), ("F" : Str)), (("and" : Str), ("FF" : Str)), (("or" : Str), ("FF" : Str)), (("if" : Str), ("FF" : Str)), (("every" : Str), ("xF" : Str)), (("some" : Str), ("xF" : Str))]
def t_REASONS : List (Str × Str) := [(("given" : Str), ("" : Str)), (("supposed" : Str), ("" : Str)), (("any" : Str), ("N" : Str)), (("called" : Str), ("Nk" : Str)), (("again" : Str), ("k" : Str)), (("itself" : Str), ("" : Str)), (("both" : Str), ("kk" : Str)), (("left" : Str), ("k" : Str)), (("right" : Str), ("k" : Str)), (("orleft" : Str), ("k" : Str)), (("orright" : Str), ("k" : Str)), (("then" : Str), ("kk" : Str)), (("absurd" : Str), ("kk" : Str)), (("nothing" : Str), ("k" : Str)), (("at" : Str), ("kN" : Str)), (("such" : Str), ("kN" : Str)), (("put" : Str), ("kk" : Str)), (("soif" : Str), ("k" : Str)), (("not" : Str), ("k" : Str)), (("contrary" : Str), ("k" : Str)), (("cases" : Str), ("kkk" : Str)), (("forany" : Str), ("k" : Str)), (("forsome" : Str), ("k" : Str)), (("meaning" : Str), ("k" : Str)), (("earlier" : Str), ("EK" : Str)), (("asmany" : Str), ("k" : Str)), (("one" : Str), ("k" : Str)), (("two" : Str), ("kkk" : Str)), (("someof" : Str), ("k" : Str)), (("none" : Str), ("k" : Str)), (("nomore" : Str), ("k" : Str)), (("apart" : Str), ("kk" : Str)), (("cover" : Str), ("k" : Str)), (("turned" : Str), ("k" : Str)), (("sums" : Str), ("KT" : Str)), (("by" : Str), ("B" : Str)), (("clearly" : Str), ("" : Str))]
-- is_all_of: slots text 0, signs 1, sign 2; cells signs
def B_is_all_of {S : Type}  : Sv S :=
    (sRet (cQu false (iOf asS (cVar 0)) (gNm 2) qYes (cB pIn (cVar 2) (cVar 1)) [2]))
def K_is_all_of {S : Type}  : Fn S := fnD 3 (B_is_all_of )

-- is_small: slots thing 0, least 1, most 2
def B_is_small {S : Type} (F_is_all_of : Fn S) : Sv S :=
    (sRet (cAnd (cU (pIsi "str") (cVar 0)) (cAnd (cCh pLe pLe (cVar 1) (cN pLen (aCons (cVar 0) aNil)) (cVar 2)) (cCall 2 F_is_all_of (aCons (cVar 0) (aCons (cK (.str "abcdefghijklmnopqrstuvwxyz")) aNil))))))
def K_is_small {S : Type} (F_is_all_of : Fn S) : Fn S := fnD 3 (B_is_small F_is_all_of)

-- is_name: slots thing 0
def B_is_name {S : Type} (F_is_small : Fn S) : Sv S :=
    (sSeq (sIf (qOr (qNot (qT (cU (pIsi "str") (cVar 0)))) (qNot (qT (cVar 0))))
    (sRet (cK (.bool false)))
    sNx)
    (sRet (cAnd (cB pIn (cB pIx (cVar 0) (cK (.int 0))) (cK (.str "ABCDEFGHIJKLMNOPQRSTUVWXYZ"))) (cCall 3 F_is_small (aCons (cSl pSl (cVar 0) (oOf (cK (.int 1))) oNo) (aCons (cK (.int 0)) (aCons (cK (.int 7)) aNil)))))))
def K_is_name {S : Type} (F_is_small : Fn S) : Fn S := fnD 1 (B_is_name F_is_small)

-- pieces: slots form 0, wanted 1, place 2, piece 3; cells wanted
def B_pieces {S : Type}  : Sv S :=
    (sRet (cNl (lcF (iOfA pZipS (aCons (cU (pDt t_SHAPES) (cB pIx (cVar 0) (cK (.int 0)))) (aCons (cSl pSl (cVar 0) (oOf (cK (.int 1))) oNo) aNil))) (gTp (gC (gNm 2) (gC (gNm 3) gN0))) (qT (cB pEq (cVar 2) (cVar 1))) (cVar 3) [2, 3])))
def K_pieces {S : Type}  : Fn S := fnD 4 (B_pieces )

-- parts_of: slots form 0, told 1, inner 2; own [1]
def B_parts_of {S : Type} (F_pieces : Fn S) (F_parts_of : Fn S) : Sv S :=
    (sSeq (sOwn 1 (aN lenOk (aCons (cVar 0) aNil)))
    (sSeq (sFor (iOf asL (cCall 2 F_pieces (aCons (cVar 0) (aCons (cK (.str "F")) aNil)))) (gNm 2)
    (sExtT 1 (cCall 1 F_parts_of (aCons (cVar 2) aNil))))
    (sRet (cN pTuple (aCons (cVar 1) aNil)))))
def K_parts_of {S : Type} (F_pieces : Fn S) (F_parts_of : Fn S) : Fn S := fnD 3 (B_parts_of F_pieces F_parts_of)

-- all_pieces: slots form 0, wanted 1, part 2, piece 3; cells wanted
def B_all_pieces {S : Type} (F_parts_of : Fn S) (F_pieces : Fn S) : Sv S :=
    (sRet (cNl (lcF2 (iOf asT (cCall 1 F_parts_of (aCons (cVar 0) aNil))) (gNm 2) qYes (iOf asL (cCall 2 F_pieces (aCons (cVar 2) (aCons (cVar 1) aNil)))) (gNm 3) qYes (cVar 3) [2, 3] [3])))
def K_all_pieces {S : Type} (F_parts_of : Fn S) (F_pieces : Fn S) : Fn S := fnD 4 (B_all_pieces F_parts_of F_pieces)

-- sum_of_kind: slots kind 0
def B_w_word {S : Type} (F_w_draw : Fn S) : Sv S :=
    (sSeq (sSet 3 (cK (.str "abcdefghijklmnopqrstuvwxyz")))
    (sSeq (sSet 4 (cK (.str "")))
    (sSeq (sFor (iOfA pR1 (aCons (cB pAdd (cVar 1) (cCall 2 F_w_draw (aCons (cVar 0) (aCons (cB pAdd (cB pSub (cVar 2) (cVar 1)) (cK (.int 1))) aNil)))) aNil)) (gNm 5)
    (sSet 4 (cB pAdd (cVar 4) (cB pIx (cVar 3) (cCall 2 F_w_draw (aCons (cVar 0) (aCons (cK (.int 26)) aNil)))))))
    (sRet (cVar 4)))))
def K_w_word {S : Type} (F_w_draw : Fn S) : Fn S := fnD 6 (B_w_word F_w_draw)

-- _law_kinds: slots _law_deck_here 0, _law_many 1, _law_taken 2, _law_kinds_here 3, _law_k 4, _law_word_here 5, _law_way 6, _law_at 7, _law_one 8, _law_sign 9; cells _law_kinds_here; own [3]
def B_w_kinds {S : Type} (F_w_word : Fn S) (F_w_draw : Fn S) : Sv S :=
    (sSeq (sSet 2 (cK (.str "absurd all an and any are as at be by false if is least many more no not only or same some than")))
    (sSeq (sSet 2 (cNl (aSplit (cB pAdd (cVar 2) (cK (.str " the then there every either unless"))) (cK (.str " ")))))
    (sSeq (sOwn 3 (aN lenOk aNil))
    (sSeq (sFor (iOfA pR1 (aCons (cVar 1) aNil)) (gNm 4)
    (sSeq (sSet 5 (cCall 3 F_w_word (aCons (cVar 0) (aCons (cK (.int 2)) (aCons (cK (.int 8)) aNil)))))
      (sSeq (sSet 6 (cCall 2 F_w_draw (aCons (cVar 0) (aCons (cK (.int 3)) aNil))))
      (sSeq (sIf (qAnd (qT (cB pEq (cVar 6) (cK (.int 1)))) (qT (cB pNe (cVar 3) (cN pLst aNil))))
      (sSet 5 (cFl (cSl pSl (cB pAdd (cB pIx (cVar 3) (cK (.int 0))) (cVar 5)) oNo (oOf (cK (.int 8))))))
      sNx)
      (sSeq (sIf (qAnd (qT (cB pEq (cVar 6) (cK (.int 2)))) (qT (cB pNe (cVar 3) (cN pLst aNil))))
      (sSeq (sSet 7 (cFl (cCall 2 F_w_draw (aCons (cVar 0) (aCons (cN pLen (aCons (cB pIx (cVar 3) (cK (.int 0))) aNil)) aNil)))))
        (sSet 5 (cFl (cB pAdd (cB pAdd (cSl pSl (cB pIx (cVar 3) (cK (.int 0))) oNo (oOf (cVar 7))) (cB pIx (cVar 5) (cK (.int 0)))) (cSl pSl (cB pIx (cVar 3) (cK (.int 0))) (oOf (cB pAdd (cVar 7) (cK (.int 1)))) oNo)))))
      sNx)
      (sSeq (sIf (qOr (qT (cB pIn (cVar 5) (cVar 2))) (qT (cB pIn (cVar 5) (cVar 3))))
      (sSet 5 (cFl (cB pIx (cNl (lcF (iOf asL (cNl (lcF (iOf asS (cK (.str "abcdefghijklmnopqrst"))) (gNm 9) qYes (cB pAdd (cK (.str "q")) (cVar 9)) [9]))) (gNm 8) (qT (cB pNotIn (cVar 8) (cVar 3))) (cVar 8) [8])) (cK (.int 0)))))
      sNx)
      (sApp 3 (cVar 5))))))))
    (sRet (cVar 3))))))
def K_w_kinds {S : Type} (F_w_word : Fn S) (F_w_draw : Fn S) : Fn S := fnD 10 (B_w_kinds F_w_word F_w_draw)

-- _law_names: slots _law_deck_here 0, _law_many 1, _law_names_here 2, _law_k 3, _law_name 4, _law_one 5; cells _law_names_here; own [2]
def B_w_names {S : Type} (F_w_draw : Fn S) (F_w_word : Fn S) : Sv S :=
    (sSeq (sOwn 2 (aN lenOk aNil))
    (sSeq (sFor (iOfA pR1 (aCons (cVar 1) aNil)) (gNm 3)
    (sSeq (sSet 4 (cB pAdd (cB pIx (cK (.str "ABCDEFGHIJKLMNOPQRSTUVWXYZ")) (cCall 2 F_w_draw (aCons (cVar 0) (aCons (cK (.int 26)) aNil)))) (cCall 3 F_w_word (aCons (cVar 0) (aCons (cK (.int 0)) (aCons (cK (.int 7)) aNil))))))
      (sSeq (sIf (qT (cB pIn (cVar 4) (cVar 2)))
      (sSet 4 (cFl (cB pIx (cNl (lcF (iOf asL (cN pLst (aCons (cK (.str "Qa")) (aCons (cK (.str "Qb")) (aCons (cK (.str "Qc")) (aCons (cK (.str "Qd")) (aCons (cK (.str "Qe")) (aCons (cK (.str "Qf")) (aCons (cK (.str "Qg")) aNil))))))))) (gNm 5) (qT (cB pNotIn (cVar 5) (cVar 2))) (cVar 5) [5])) (cK (.int 0)))))
      sNx)
      (sApp 2 (cVar 4)))))
    (sRet (cVar 2))))
def K_w_names {S : Type} (F_w_draw : Fn S) (F_w_word : Fn S) : Fn S := fnD 6 (B_w_names F_w_draw F_w_word)

-- _law_letter: slots _law_deck_here 0
def B_w_letter {S : Type} (F_w_draw : Fn S) : Sv S :=
    (sRet (cB pAdd (cB pIx (cK (.str "uvwxyz")) (cCall 2 F_w_draw (aCons (cVar 0) (aCons (cK (.int 6)) aNil)))) (cB pIx (cN pLst (aCons (cK (.str "")) (aCons (cK (.str "0")) (aCons (cK (.str "1")) (aCons (cK (.str "9")) aNil))))) (cCall 2 F_w_draw (aCons (cVar 0) (aCons (cK (.int 4)) aNil))))))
def K_w_letter {S : Type} (F_w_draw : Fn S) : Fn S := fnD 1 (B_w_letter F_w_draw)

-- _law_all: slots _law_x 0, _law_one 1, _law_other 2
def B_w_built {S : Type} (F_w_all : Fn S) (F_w_alone : Fn S) (F_w_two : Fn S) : Sv S :=
    (sSeq (sAsg (cVar 1) (gTp (gC (gNm 4) (gC (gNm 5) (gC (gNm 6) gN0)))))
    (sSeq (sSet 7 (cN pTup (aCons (cK (.str "is")) (aCons (cVar 3) (aCons (cVar 4) aNil)))))
    (sSeq (sIf (qT (cB pEq (cVar 0) (cK (.str "asmany"))))
    (sSeq (sSet 8 (cN pTup (aCons (cCall 3 F_w_all (aCons (cVar 3) (aCons (cVar 7) (aCons (cN pTup (aCons (cK (.str "is")) (aCons (cVar 3) (aCons (cVar 5) aNil)))) aNil)))) aNil)))
      (sRet (cN pTup (aCons (cN pTup (aCons (cK (.str "least")) (aCons (cCall 1 F_w_alone (aCons (cVar 5) aNil)) (aCons (cCall 1 F_w_alone (aCons (cVar 4) aNil)) aNil)))) (aCons (cVar 8) aNil)))))
    sNx)
    (sSeq (sIf (qT (cB pEq (cVar 0) (cK (.str "one"))))
    (sRet (cN pTup (aCons (cN pTup (aCons (cK (.str "least")) (aCons (cCall 1 F_w_alone (aCons (cVar 4) aNil)) (aCons (cN pTup (aCons (cN pTup aNil) (aCons (cK (.int 1)) aNil))) aNil)))) (aCons (cN pTup (aCons (cN pTup (aCons (cK (.str "is")) (aCons (cB pIx (cVar 2) (cK (.int 0))) (aCons (cVar 4) aNil)))) aNil)) aNil))))
    sNx)
    (sSeq (sIf (qT (cB pEq (cVar 0) (cK (.str "two"))))
    (sSeq (sSet 8 (cN pTup (aCons (cN pTup (aCons (cK (.str "is")) (aCons (cB pIx (cVar 2) (cK (.int 0))) (aCons (cVar 4) aNil)))) (aCons (cN pTup (aCons (cK (.str "is")) (aCons (cB pIx (cVar 2) (cK (.int 1))) (aCons (cVar 4) aNil)))) (aCons (cN pTup (aCons (cK (.str "not")) (aCons (cN pTup (aCons (cK (.str "same")) (aCons (cB pIx (cVar 2) (cK (.int 0))) (aCons (cB pIx (cVar 2) (cK (.int 1))) aNil)))) aNil))) aNil)))))
      (sRet (cN pTup (aCons (cN pTup (aCons (cK (.str "least")) (aCons (cCall 1 F_w_alone (aCons (cVar 4) aNil)) (aCons (cN pTup (aCons (cN pTup aNil) (aCons (cK (.int 2)) aNil))) aNil)))) (aCons (cVar 8) aNil)))))
    sNx)
    (sSeq (sIf (qT (cB pEq (cVar 0) (cK (.str "someof"))))
    (sRet (cN pTup (aCons (cN pTup (aCons (cK (.str "some")) (aCons (cVar 3) (aCons (cVar 7) aNil)))) (aCons (cN pTup (aCons (cN pTup (aCons (cK (.str "least")) (aCons (cCall 1 F_w_alone (aCons (cVar 4) aNil)) (aCons (cN pTup (aCons (cN pTup aNil) (aCons (cK (.int 1)) aNil))) aNil)))) aNil)) aNil))))
    sNx)
    (sSeq (sIf (qT (cB pEq (cVar 0) (cK (.str "none"))))
    (sRet (cN pTup (aCons (cN pTup (aCons (cK (.str "least")) (aCons (cN pTup (aCons (cN pTup aNil) (aCons (cK (.int 0)) aNil))) (aCons (cCall 1 F_w_alone (aCons (cVar 4) aNil)) aNil)))) (aCons (cN pTup (aCons (cN pTup (aCons (cK (.str "every")) (aCons (cVar 3) (aCons (cN pTup (aCons (cK (.str "not")) (aCons (cVar 7) aNil))) aNil)))) aNil)) aNil))))
    sNx)
    (sSeq (sIf (qT (cB pEq (cVar 0) (cK (.str "nomore"))))
    (sRet (cN pTup (aCons (cN pTup (aCons (cK (.str "every")) (aCons (cVar 3) (aCons (cN pTup (aCons (cK (.str "not")) (aCons (cVar 7) aNil))) aNil)))) (aCons (cN pTup (aCons (cN pTup (aCons (cK (.str "least")) (aCons (cN pTup (aCons (cN pTup aNil) (aCons (cK (.int 0)) aNil))) (aCons (cCall 1 F_w_alone (aCons (cVar 4) aNil)) aNil)))) aNil)) aNil))))
    sNx)
    (sSeq (sIf (qT (cB pEq (cVar 0) (cK (.str "apart"))))
    (sSeq (sSet 9 (cCall 3 F_w_all (aCons (cVar 3) (aCons (cVar 7) (aCons (cN pTup (aCons (cK (.str "not")) (aCons (cN pTup (aCons (cK (.str "is")) (aCons (cVar 3) (aCons (cVar 5) aNil)))) aNil))) aNil)))))
      (sSeq (sSet 10 (cCall 3 F_w_all (aCons (cVar 3) (aCons (cN pTup (aCons (cK (.str "or")) (aCons (cVar 7) (aCons (cN pTup (aCons (cK (.str "is")) (aCons (cVar 3) (aCons (cVar 5) aNil)))) aNil)))) (aCons (cN pTup (aCons (cK (.str "is")) (aCons (cVar 3) (aCons (cVar 6) aNil)))) aNil)))))
      (sRet (cN pTup (aCons (cN pTup (aCons (cK (.str "least")) (aCons (cCall 1 F_w_alone (aCons (cVar 6) aNil)) (aCons (cCall 2 F_w_two (aCons (cVar 4) (aCons (cVar 5) aNil))) aNil)))) (aCons (cN pTup (aCons (cVar 9) (aCons (cVar 10) aNil))) aNil))))))
    sNx)
    (sSeq (sSet 10 (cCall 3 F_w_all (aCons (cVar 3) (aCons (cN pTup (aCons (cK (.str "is")) (aCons (cVar 3) (aCons (cVar 6) aNil)))) (aCons (cN pTup (aCons (cK (.str "or")) (aCons (cVar 7) (aCons (cN pTup (aCons (cK (.str "is")) (aCons (cVar 3) (aCons (cVar 5) aNil)))) aNil)))) aNil)))))
    (sRet (cN pTup (aCons (cN pTup (aCons (cK (.str "least")) (aCons (cCall 2 F_w_two (aCons (cVar 4) (aCons (cVar 5) aNil))) (aCons (cCall 1 F_w_alone (aCons (cVar 6) aNil)) aNil)))) (aCons (cN pTup (aCons (cVar 10) aNil)) aNil))))))))))))))
def K_w_built {S : Type} (F_w_all : Fn S) (F_w_alone : Fn S) (F_w_two : Fn S) : Fn S := fnD 11 (B_w_built F_w_all F_w_alone F_w_two)

-- _law_put: slots _law_form 0, _law_x 1, _law_term 2, _law_part 3; cells _law_term, _law_x
def B_w_put {S : Type} (F_w_put : Fn S) : Sv S :=
    (sSeq (sIf (qT (cB pEq (cB pIx (cVar 0) (cK (.int 0))) (cK (.str "is"))))
    (sRet (cN pTup (aCons (cK (.str "is")) (aCons (cB pIx (cN pLst (aCons (cB pIx (cVar 0) (cK (.int 1))) (aCons (cVar 2) aNil))) (cN pInt (aCons (cB pEq (cB pIx (cVar 0) (cK (.int 1))) (cVar 1)) aNil))) (aCons (cB pIx (cVar 0) (cK (.int 2))) aNil)))))
    sNx)
    (sSeq (sIf (qT (cB pEq (cB pIx (cVar 0) (cK (.int 0))) (cK (.str "least"))))
    (sRet (cVar 0))
    sNx)
    (sRet (cB pAdd (cSl pSl (cVar 0) oNo (oOf (cK (.int 1)))) (cN pTuple (aCons (cNl (lcF (iOf asT (cSl pSl (cVar 0) (oOf (cK (.int 1))) oNo)) (gNm 3) qYes (cCall 3 F_w_put (aCons (cVar 3) (aCons (cVar 1) (aCons (cVar 2) aNil)))) [3])) aNil))))))
def K_w_put {S : Type} (F_w_put : Fn S) : Fn S := fnD 4 (B_w_put F_w_put)

-- _law_bent_least: slots _law_form 0, _law_deck_here 1, _law_kinds_here 2, _law_way 3, _law_at 4, _law_parts 5, _law_number 6, _law_kind 7, _law_times 8
def B_w_bent {S : Type} (F_w_draw : Fn S) (F_w_bent_least : Fn S) (F_w_letter : Fn S) (F_w_put : Fn S) (F_w_bent : Fn S) (F_w_bent_joined : Fn S) : Sv S :=
    (sSeq (sSet 4 (cCall 2 F_w_draw (aCons (cVar 1) (aCons (cK (.int 6)) aNil))))
    (sSeq (sIf (qT (cB pEq (cB pIx (cVar 0) (cK (.int 0))) (cK (.str "least"))))
    (sRet (cCall 3 F_w_bent_least (aCons (cVar 0) (aCons (cVar 1) (aCons (cVar 2) aNil)))))
    sNx)
    (sSeq (sIf (qT (cB pIn (cB pIx (cVar 0) (cK (.int 0))) (cN pTup (aCons (cK (.str "every")) (aCons (cK (.str "some")) aNil)))))
    (sSeq (sIf (qT (cB pEq (cVar 4) (cK (.int 0))))
      (sRet (cN pTup (aCons (cK (.str "not")) (aCons (cVar 0) aNil))))
      sNx)
      (sSeq (sIf (qT (cB pEq (cVar 4) (cK (.int 1))))
      (sRet (cB pAdd (cN pTup (aCons (cB pIx (cN pLst (aCons (cK (.str "every")) (aCons (cK (.str "some")) aNil))) (cN pInt (aCons (cB pEq (cB pIx (cVar 0) (cK (.int 0))) (cK (.str "every"))) aNil))) aNil)) (cSl pSl (cVar 0) (oOf (cK (.int 1))) oNo)))
      sNx)
      (sSeq (sIf (qT (cB pEq (cVar 4) (cK (.int 2))))
      (sSeq (sSet 5 (cCall 1 F_w_letter (aCons (cVar 1) aNil)))
        (sRet (cN pTup (aCons (cB pIx (cVar 0) (cK (.int 0))) (aCons (cVar 5) (aCons (cCall 3 F_w_put (aCons (cB pIx (cVar 0) (cK (.int 2))) (aCons (cB pIx (cVar 0) (cK (.int 1))) (aCons (cVar 5) aNil)))) aNil))))))
      sNx)
      (sSeq (sIf (qT (cB pEq (cVar 4) (cK (.int 3))))
      (sSeq (sSet 6 (cB pIx (cVar 3) (cCall 2 F_w_draw (aCons (cVar 1) (aCons (cN pLen (aCons (cVar 3) aNil)) aNil)))))
        (sRet (cB pAdd (cSl pSl (cVar 0) oNo (oOf (cK (.int 2)))) (cN pTup (aCons (cCall 3 F_w_put (aCons (cB pIx (cVar 0) (cK (.int 2))) (aCons (cB pIx (cVar 0) (cK (.int 1))) (aCons (cVar 6) aNil)))) aNil)))))
      sNx)
      (sRet (cB pAdd (cSl pSl (cVar 0) oNo (oOf (cK (.int 2)))) (cN pTup (aCons (cCall 4 F_w_bent (aCons (cB pIx (cVar 0) (cK (.int 2))) (aCons (cVar 1) (aCons (cVar 2) (aCons (cVar 3) aNil))))) aNil))))))))
    sNx)
    (sSeq (sIf (qAnd (qT (cB pEq (cB pIx (cVar 0) (cK (.int 0))) (cK (.str "is")))) (qT (cB pLt (cVar 4) (cK (.int 2)))))
    (sRet (cN pTup (aCons (cK (.str "not")) (aCons (cVar 0) aNil))))
    sNx)
    (sSeq (sIf (qT (cB pEq (cB pIx (cVar 0) (cK (.int 0))) (cK (.str "is"))))
    (sSeq (sSet 7 (cN pTup (aCons (cK (.str "is")) (aCons (cB pIx (cVar 0) (cK (.int 1))) (aCons (cB pIx (cVar 2) (cCall 2 F_w_draw (aCons (cVar 1) (aCons (cN pLen (aCons (cVar 2) aNil)) aNil)))) aNil)))))
      (sRet (cB pIx (cN pLst (aCons (cVar 7) (aCons (cN pTup (aCons (cK (.str "is")) (aCons (cB pIx (cVar 3) (cCall 2 F_w_draw (aCons (cVar 1) (aCons (cN pLen (aCons (cVar 3) aNil)) aNil)))) (aCons (cB pIx (cVar 0) (cK (.int 2))) aNil)))) aNil))) (cN pInt (aCons (cB pEq (cVar 4) (cK (.int 5))) aNil)))))
    sNx)
    (sSeq (sIf (qT (cB pEq (cB pIx (cVar 0) (cK (.int 0))) (cK (.str "same"))))
    (sRet (cB pIx (cN pLst (aCons (cN pTup (aCons (cK (.str "same")) (aCons (cB pIx (cVar 0) (cK (.int 2))) (aCons (cB pIx (cVar 0) (cK (.int 1))) aNil)))) (aCons (cN pTup (aCons (cK (.str "same")) (aCons (cB pIx (cVar 0) (cK (.int 1))) (aCons (cB pIx (cVar 0) (cK (.int 1))) aNil)))) aNil))) (cB pMod (cVar 4) (cK (.int 2)))))
    sNx)
    (sRet (cCall 4 F_w_bent_joined (aCons (cVar 0) (aCons (cVar 1) (aCons (cVar 2) (aCons (cVar 3) aNil))))))))))))
def K_w_bent {S : Type} (F_w_draw : Fn S) (F_w_bent_least : Fn S) (F_w_letter : Fn S) (F_w_put : Fn S) (F_w_bent : Fn S) (F_w_bent_joined : Fn S) : Fn S := fnD 8 (B_w_bent F_w_draw F_w_bent_least F_w_letter F_w_put F_w_bent F_w_bent_joined)

-- _law_plain: slots _law_form 0
def B_w_plain {S : Type} (F_w_put : Fn S) : Sv S :=
    (sSeq (sIf (qT (cB pIn (cB pIx (cVar 0) (cK (.int 0))) (cN pTup (aCons (cK (.str "every")) (aCons (cK (.str "some")) aNil)))))
    (sRet (cN pTup (aCons (cB pIx (cVar 0) (cK (.int 0))) (aCons (cK (.str "x")) (aCons (cCall 3 F_w_put (aCons (cB pIx (cVar 0) (cK (.int 2))) (aCons (cB pIx (cVar 0) (cK (.int 1))) (aCons (cK (.str "x")) aNil)))) aNil)))))
    sNx)
    (sRet (cVar 0)))
def K_w_plain {S : Type} (F_w_put : Fn S) : Fn S := fnD 1 (B_w_plain F_w_put)

-- _law_due: slots _law_word_here 0, _law_form 1, _law_forms 2, _law_kinds_here 3, _law_names_here 4, _law_there 5, _law_k 6, _law_three 7, _law_j 8, _law_one 9
def B_w_due {S : Type} (F_w_plain : Fn S) (F_w_built : Fn S) : Sv S :=
    (sSeq (sSet 5 (cN pTup (aCons (cCall 1 F_w_plain (aCons (cVar 1) aNil)) (aCons (cN pTuple (aCons (cNl (lcF (iOf asT (cVar 2)) (gNm 9) qYes (cCall 1 F_w_plain (aCons (cVar 9) aNil)) [9])) aNil)) aNil))))
    (sSeq (sFor (iOfA pR1 (aCons (cB pMul (cB pMul (cN pLen (aCons (cVar 3) aNil)) (cN pLen (aCons (cVar 3) aNil))) (cN pLen (aCons (cVar 3) aNil))) aNil)) (gNm 6)
    (sSeq (sSet 7 (cN pTup (aCons (cB pIx (cVar 3) (cB pMod (cVar 6) (cN pLen (aCons (cVar 3) aNil)))) (aCons (cB pIx (cVar 3) (cB pMod (cB pFdiv (cVar 6) (cN pLen (aCons (cVar 3) aNil))) (cN pLen (aCons (cVar 3) aNil)))) (aCons (cB pIx (cVar 3) (cB pFdiv (cB pFdiv (cVar 6) (cN pLen (aCons (cVar 3) aNil))) (cN pLen (aCons (cVar 3) aNil)))) aNil)))))
      (sFor (iOfA pR1 (aCons (cB pMul (cN pLen (aCons (cVar 4) aNil)) (cN pLen (aCons (cVar 4) aNil))) aNil)) (gNm 8)
      (sIf (qT (cB pEq (cCall 4 F_w_built (aCons (cVar 0) (aCons (cVar 7) (aCons (cN pTup (aCons (cB pIx (cVar 4) (cB pMod (cVar 8) (cN pLen (aCons (cVar 4) aNil)))) (aCons (cB pIx (cVar 4) (cB pFdiv (cVar 8) (cN pLen (aCons (cVar 4) aNil)))) aNil))) (aCons (cK (.str "x")) aNil))))) (cVar 5)))
        (sRet (cK (.bool true)))
        sNx))))
    (sRet (cK (.bool false)))))
def K_w_due {S : Type} (F_w_plain : Fn S) (F_w_built : Fn S) : Fn S := fnD 10 (B_w_due F_w_plain F_w_built)

-- _law_told: slots _law_word_here 0, _law_form 1, _law_forms 2, _law_due_here 3, _law_found 4
def B_w_told {S : Type} (F_counted : Fn S) : Sv S :=
    (sSeq (sSet 4 (cCall 3 F_counted (aCons (cVar 0) (aCons (cVar 1) (aCons (cVar 2) aNil)))))
    (sRet (cAnd (cU (pIsi "bool") (cVar 4)) (cB pEq (cVar 4) (cVar 3)))))
def K_w_told {S : Type} (F_counted : Fn S) : Fn S := fnD 5 (B_w_told F_counted)

-- _law_bent_one: slots _law_form 0, _law_forms 1, _law_deck_here 2, _law_kinds_here 3, _law_names_here 4, _law_at 5
end Lw38
set_option Elab.async false
set_option linter.all false
set_option maxRecDepth 100000
set_option maxHeartbeats 1000000
/-! what is drawn: words, kinds, names, letters -/
namespace Lw38
open PySem PySem.Spec L2 Dl Mx Ds Lw01 Lw41
theorem ok_wordN {s : DS} {lo hi : Nat} (h1 : lo ≤ hi) (h2 : hi ≤ 20) {Q : D → DS → Prop} (q : ∀ l s', lo ≤ l.length → l.length ≤ hi → inAll l smS = true → Q (.str (mk l)) s') : Ok (Lw38.K_w_word Fdraw8 [hnd 0, .int (lo : Nat), .int (hi : Nat)] s) Q := by
  unfold Lw38.K_w_word Lw38.B_w_word
  refine k_fn (k_seq (k_set ?_))
  walk_at "E"
  refine k_seq (k_set ?_)
  walk_at "E"
  refine k_seq (k_forP (fun ds s' => ∃ n : Nat, lo ≤ n ∧ n ≤ hi ∧ ds = rngD 0 n) ?_ ?_)
  · walk_at "E"
    refine k_draw8 (by omega) (by omega) fun r s1 r0 r1 => ?_
    exact ⟨_, rfl, _, pr1 (by omega) (by omega), (lo + r).toNat, by omega, by omega, rfl⟩
  · rintro ds s1 ⟨n, n2, n8, rfl⟩
    refine ⟨fun j ρ _ => ∃ (l : List Nat) (o : Option D), ρ = [some (hnd 0), some (.int (lo : Nat)), some (.int (hi : Nat)), some (.str smS), some (.str (mk l)), o] ∧ l.length = j ∧ inAll l smS = true, ⟨[], none, rfl, rfl, rfl⟩, ?_, ?_⟩
    · rintro j d ρ s2 hd ⟨l, o, rfl, hl, hx⟩
      obtain ⟨hj, rfl⟩ := rng_get hd
      refine ⟨_, rfl, ?_⟩
      refine k_set ?_
      walk_at "E"
      refine k_draw8 (by omega) (by omega) fun r s3 r0 r1 => ?_
      obtain ⟨c, c1, _, hc⟩ := ix_at (z := smS) (r := r) (by decide) r0 r1
      refine ⟨_, hc, _, v_addS (by rw [mk_len, mk_len]; exact szL (by simp; omega)), ?_⟩
      rw [mk_app]
      refine ⟨l ++ [c], _, rfl, by simp [hl], ?_⟩
      rw [inAll_app, hx, inAll_one c1]
      rfl
    · rintro ρ s2 ⟨l, o, rfl, hl, hx⟩
      rw [rng_len] at hl
      refine k_ret ?_
      walk_at "E"
      exact q l _ (by omega) (by omega) hx
/-! letters -/
def letS (a b : Nat) : Str := mk (([117, 118, 119, 120, 121, 122].getD a 0) :: (([[], [48], [49], [57]] : List (List Nat)).getD b []))
theorem let_one : ∀ a < 6, ∀ b < 4, pAdd (.str ⟨#[[117, 118, 119, 120, 121, 122].getD a 0]⟩) (.str (mk ((([[], [48], [49], [57]] : List (List Nat)).getD b [])))) = some (.str (letS a b)) := by
  intro a ha b hb
  rw [v_addS (by
    have : (mk ((([[], [48], [49], [57]] : List (List Nat)).getD b []))).length ≤ 1 := by
      match b, hb with
      | 0, _ => decide
      | 1, _ => decide
      | 2, _ => decide
      | 3, _ => decide
    show 1 + _ ≤ _
    exact szL (by omega))]
  exact congrArg some (congrArg PyData.str (mk_app [_] _))
theorem ok_letter {s : DS} {Q : D → DS → Prop} (q : ∀ a b s', a < 6 → b < 4 → Q (.str (letS a b)) s') : Ok (Lw38.K_w_letter Fdraw8 [hnd 0] s) Q := by
  unfold Lw38.K_w_letter Lw38.B_w_letter
  refine k_fn (k_ret ?_)
  walk_at "E"
  refine k_draw8 (by omega) (by omega) fun r s1 r0 r1 => ?_
  obtain ⟨c, c1, c2, hc⟩ := ix_at (z := Str.ofString "uvwxyz") (r := r) (by decide) r0 r1
  refine ⟨_, hc, ?_⟩
  refine k_draw8 (by omega) (by omega) fun t s2 t0 t1 => ?_
  have ec : c = [117, 118, 119, 120, 121, 122].getD r.toNat 0 := by
    have e : (Str.ofString "uvwxyz").cps.toList = [117, 118, 119, 120, 121, 122] := by decide +kernel
    rw [e] at c2
    rw [List.getD_eq_getElem?_getD, c2]
    rfl
  obtain ⟨v, hv, hv2, ev⟩ := atI_lt (xs := [PyData.str (mk []), .str (mk [48]), .str (mk [49]), .str (mk [57])]) t0 t1
  have e2 : v = .str (mk ((([[], [48], [49], [57]] : List (List Nat)).getD t.toNat []))) := by
    have ht : t.toNat < 4 := by omega
    generalize t.toNat = b at hv2 ht
    match b, ht with
    | 0, _ => cases hv2; rfl
    | 1, _ => cases hv2; rfl
    | 2, _ => cases hv2; rfl
    | 3, _ => cases hv2; rfl
  refine ⟨v, ev, ?_⟩
  rw [e2, ec]
  exact ⟨_, let_one r.toNat (by omega) t.toNat (by omega), q _ _ _ (by omega) (by omega)⟩
/-! names -/
def qS : List Str := [Str.ofString "Qa", Str.ofString "Qb", Str.ofString "Qc", Str.ofString "Qd", Str.ofString "Qe", Str.ofString "Qf", Str.ofString "Qg"]
theorem q_nd : qS.Nodup := by decide +kernel
theorem q_nm : ∀ x ∈ qS, nameB (.str x) = true := by
  have h : (qS.all fun x => nameB (.str x)) = true := by decide +kernel
  exact fun x hx => List.all_eq_true.mp h x hx
theorem q_one {xs : List Str} (h : xs.length < 7) : ∃ x r, (qS.filter fun y => !decide (y ∈ xs)) = x :: r ∧ x ∈ qS ∧ x ∉ xs := by
  cases e : qS.filter fun y => !decide (y ∈ xs) with
  | nil =>
    exfalso
    have : ∀ y ∈ qS, y ∈ xs := fun y hy => by
      have := List.filter_eq_nil_iff.mp e y hy
      simpa using this
    have := nd_sub q_nd this
    have e7 : qS.length = 7 := rfl
    omega
  | cons x r =>
    have hm : x ∈ qS.filter fun y => !decide (y ∈ xs) := by rw [e]; exact List.mem_cons_self
    rw [List.mem_filter] at hm
    exact ⟨x, r, rfl, hm.1, by simpa using hm.2⟩
abbrev nbE : Ev DS := cFl (cB pIx (cNl (lcF (iOf asL (cN pLst (aCons (cK (.str "Qa")) (aCons (cK (.str "Qb")) (aCons (cK (.str "Qc")) (aCons (cK (.str "Qd")) (aCons (cK (.str "Qe")) (aCons (cK (.str "Qf")) (aCons (cK (.str "Qg")) aNil))))))))) (gNm 5) (qT (cB pNotIn (cVar 5) (cVar 2))) (cVar 5) [5])) (cK (.int 0)))
theorem nb_eq {s : DS} {xs : List Str} {a b d e f : Option D} (hl : xs.length < 7) : ∃ x, nbE [a, b, some (.list (xs.map .str)), d, e, f] s = some (.str x, s) ∧ x ∈ qS ∧ x ∉ xs := by
  obtain ⟨x, r, e1, hx, hn⟩ := q_one hl
  refine ⟨x, ?_, hx, hn⟩
  have h0 := k_keep (S := DS) (ds := qS.map PyData.str) (q := qT (cB pNotIn (cVar 5) (cVar 2))) (f := cVar 5) (fi := iOf asL (cN pLst (aCons (cK (.str "Qa")) (aCons (cK (.str "Qb")) (aCons (cK (.str "Qc")) (aCons (cK (.str "Qd")) (aCons (cK (.str "Qe")) (aCons (cK (.str "Qf")) (aCons (cK (.str "Qg")) aNil))))))))) (t := gNm 5) (vs := [5]) (ρ := [a, b, some (.list (xs.map .str)), d, e, f]) (s := s) (fun d => match d with | .str z => !decide (z ∈ xs) | _ => false) id (by decide) rfl (fun d hd => by
    obtain ⟨z, hz, rfl⟩ := List.mem_map.mp hd
    refine ⟨_, rfl, ?_, fun _ => rfl⟩
    show bnd (put (pNotIn (.str z) (.list (xs.map .str))) s) (fun x s => put (truth x) s) = _
    rw [notIn_strsL]
    rfl)
  have h2 : lcF (S := DS) (iOf asL (cN pLst (aCons (cK (.str "Qa")) (aCons (cK (.str "Qb")) (aCons (cK (.str "Qc")) (aCons (cK (.str "Qd")) (aCons (cK (.str "Qe")) (aCons (cK (.str "Qf")) (aCons (cK (.str "Qg")) aNil))))))))) (gNm 5) (qT (cB pNotIn (cVar 5) (cVar 2))) (cVar 5) [5] [a, b, some (.list (xs.map .str)), d, e, f] s = some ((qS.filter fun y => !decide (y ∈ xs)).map .str, s) := by
    rw [h0, List.map_id, List.filter_map]
    rfl
  rw [e1] at h2
  exact fl_ix0 h2
theorem ok_names {s : DS} {n : Nat} (h : n ≤ 6) {Q : D → DS → Prop} (q : ∀ xs s', Nms xs n → Q (.list (xs.map .str)) s') : Ok (Lw38.K_w_names Fdraw8 (Lw38.K_w_word Fdraw8) [hnd 0, .int (n : Nat)] s) Q := by
  unfold Lw38.K_w_names Lw38.B_w_names
  refine k_fn (k_seq (k_own ?_))
  walk_at "E"
  refine k_seq (k_forP (fun ds s' => ds = rngD 0 n) ?_ ?_)
  · walk_at "E"
    rw [pr1 (by omega) (by omega)]
    walk_at "E"
    rfl
  · rintro ds s1 rfl
    refine ⟨fun j ρ _ => ∃ (xs : List Str) (o3 o4 o5 : Option D), ρ = [some (hnd 0), some (.int (n : Nat)), some (.list (xs.map .str)), o3, o4, o5] ∧ Nms xs j, ⟨[], none, none, none, rfl, rfl, List.nodup_nil, by simp⟩, ?_, ?_⟩
    · rintro j d ρ s2 hd ⟨xs, o3, o4, o5, rfl, hk⟩
      obtain ⟨hj, rfl⟩ := rng_get hd
      refine ⟨_, rfl, ?_⟩
      refine k_seq (k_set ?_)
      walk_at "E"
      refine k_draw8 (by omega) (by omega) fun r s3 r0 r1 => ?_
      obtain ⟨c, c1, _, hc⟩ := ix_at (z := grS) (r := r) (by decide) r0 r1
      refine ⟨_, hc, ?_⟩
      refine ok_wordN (lo := 0) (hi := 7) (by decide) (by decide) fun l s4 _ l7 hs => ?_
      refine ⟨_, v_addS (by rw [mk_len, mk_len]; exact szL (by simp; omega)), ?_⟩
      rw [mk_app]
      have hnm : nameB (.str (mk ([c] ++ l))) = true := name_mk (l := l) c1 l7 hs
      generalize mk ([c] ++ l) = y at hnm
      refine k_seq (Ok.imp (Q := fun r _ => ∃ x, r = .nx [some (hnd 0), some (.int (n : Nat)), some (.list (xs.map .str)), some (.int (0 + (j : Int))), some (.str x), o5] ∧ nameB (.str x) = true ∧ x ∉ xs) ?_ ?_)
      · refine k_sIf ?_
        walk_at "E"
        rw [in_strsL]
        walk_at "E"
        by_cases hi : y ∈ xs
        · rw [decide_eq_true hi]
          walk_at "E"
          obtain ⟨x, hx, hx1, hx2⟩ := nb_eq (s := s4) (xs := xs) (a := some (hnd 0)) (b := some (.int (n : Nat))) (d := some (.int (0 + (j : Int)))) (e := some (.str y)) (f := o5) (by rw [hk.len]; omega)
          refine k_set ?_
          exact ⟨_, _, hx, x, rfl, q_nm x hx1, hx2⟩
        · rw [decide_eq_false hi]
          walk_at "E"
          exact k_nx ⟨y, rfl, hnm, hi⟩
      rintro r s7 ⟨x, rfl, hx, hn⟩
      refine k_app (ds := xs.map PyData.str) rfl (by rw [List.length_map, hk.len]; exact szl (by omega)) ?_
      walk_at "E"
      refine ⟨xs ++ [x], some (.int (0 + (j : Int))), some (.str x), o5, by simp only [List.map_append, List.map_cons, List.map_nil], by simp [hk.len], nodup_snoc hk.nd hn, fun y hy => ?_⟩
      rcases List.mem_append.mp hy with hy | hy
      · exact hk.nm y hy
      · rw [List.mem_singleton.mp hy]
        exact hx
    · rintro ρ s2 ⟨xs, o3, o4, o5, rfl, hk⟩
      rw [rng_len] at hk
      refine k_ret ?_
      walk_at "E"
      exact q xs _ hk
end Lw38
set_option Elab.async false
set_option linter.all false
set_option maxRecDepth 100000
set_option maxHeartbeats 1000000
/-! the law's forms as a type of their own -/
namespace Lw38
open PySem PySem.Spec L2 Dl Mx Ds Lw01 Lw41
inductive Jw | and | or | if'
inductive Qw | every | some
def Jw.s : Jw → Str
  | .and => Str.ofString "and"
  | .or => Str.ofString "or"
  | .if' => Str.ofString "if"
def Qw.s : Qw → Str
  | .every => Str.ofString "every"
  | .some => Str.ofString "some"
inductive Fm
  | is (t k : Str)
  | same (t u : Str)
  | least (a b : Tot)
  | no (f : Fm)
  | jn (w : Jw) (f g : Fm)
  | qu (w : Qw) (x : Str) (f : Fm)
def Fm.d : Fm → D
  | .is t k => .tuple [.str (Str.ofString "is"), .str t, .str k]
  | .same t u => .tuple [.str (Str.ofString "same"), .str t, .str u]
  | .least a b => .tuple [.str (Str.ofString "least"), totD a, totD b]
  | .no f => .tuple [.str (Str.ofString "not"), f.d]
  | .jn w f g => .tuple [.str w.s, f.d, g.d]
  | .qu w x f => .tuple [.str w.s, .str x, f.d]
def Fm.dep : Fm → Nat
  | .no f => f.dep + 1
  | .jn _ f g => max f.dep g.dep + 1
  | .qu _ _ f => f.dep + 1
  | _ => 0
def Fm.put (x t : Str) : Fm → Fm
  | .is u k => .is (if u = x then t else u) k
  | .no f => .no (f.put x t)
  | .jn w f g => .jn w (f.put x t) (g.put x t)
  | f => f
section
variable {S : Type} {s : S}
theorem ix_pick {a b : D} (c : Bool) : pIx (.list [a, b]) (.int (if c = true then 1 else 0)) = some (if c = true then b else a) := by
  cases c with
  | true => simp only [pIx]; exact atI_nat (j := 1) rfl
  | false => exact v_ix0L
end
end Lw38
set_option Elab.async false
set_option linter.all false
set_option maxRecDepth 100000
set_option maxHeartbeats 1000000
namespace Lw38
open PySem PySem.Spec L2 Dl Mx Ds Lw01 Lw41
section
variable {S : Type} {s : S}
def Fm.head : Fm → Str
  | .is _ _ => Str.ofString "is"
  | .same _ _ => Str.ofString "same"
  | .least _ _ => Str.ofString "least"
  | .no _ => Str.ofString "not"
  | .jn w _ _ => w.s
  | .qu w _ _ => w.s
def Fm.isQ : Fm → Bool
  | .qu _ _ _ => true
  | _ => false
def Fm.plain : Fm → Fm
  | .qu w x f => .qu w (Str.ofString "x") (f.put x (Str.ofString "x"))
  | f => f
end
end Lw38
set_option Elab.async false
set_option linter.all false
set_option maxRecDepth 100000
set_option maxHeartbeats 1000000
namespace Lw38
open PySem PySem.Spec L2 Dl Mx Ds Lw01 Lw41
section
variable {S : Type} {s : S}
def Fm.subs : Fm → List Fm
  | .no f => [f]
  | .jn _ f g => [f, g]
  | .qu _ _ f => [f]
  | _ => []
def Fm.kd : Fm → List Str
  | .is _ k => [k]
  | _ => []
def Fm.size : Fm → Nat
  | .no f => f.size + 1
  | .jn _ f g => f.size + g.size + 1
  | .qu _ _ f => f.size + 1
  | _ => 1
def Fm.parts : Fm → List Fm
  | .no f => .no f :: f.parts
  | .jn w f g => .jn w f g :: (f.parts ++ g.parts)
  | .qu w x f => .qu w x f :: f.parts
  | f => [f]
theorem parts_len : ∀ f : Fm, f.parts.length = f.size
  | .no f => by show f.parts.length + 1 = _; rw [parts_len f]; rfl
  | .jn w f g => by show (f.parts ++ g.parts).length + 1 = _; rw [List.length_append, parts_len f, parts_len g]; rfl
  | .qu w x f => by show f.parts.length + 1 = _; rw [parts_len f]; rfl
  | .is _ _ => rfl
  | .same _ _ => rfl
  | .least _ _ => rfl
end
end Lw38
set_option Elab.async false
set_option linter.all false
set_option maxRecDepth 100000
set_option maxHeartbeats 1000000
/-! forms are alike as data just where they are the same -/
namespace Lw38
open PySem PySem.Spec L2 Dl Mx Ds Lw01 Lw41
mutual
def smp : D → Bool
  | .none => true
  | .int _ => true
  | .str x => PyData.strOk x
  | .tuple xs => smpAll xs
  | _ => false
def smpAll : List D → Bool
  | [] => true
  | x :: xs => smp x && smpAll xs
end
mutual
theorem smp_lay : ∀ x : D, smp x = true → PyData.canLay0 x = true
  | .none, _ => by simp [PyData.canLay0]
  | .int _, _ => by simp [PyData.canLay0]
  | .str x, h => by simp only [smp] at h; simp [PyData.canLay0, h]
  | .tuple xs, h => by simp only [smp] at h; simp only [PyData.canLay0]; exact smp_lays xs h
  | .bool _, h => by simp [smp] at h
  | .list _, h => by simp [smp] at h
  | .dict _, h => by simp [smp] at h
theorem smp_lays : ∀ xs : List D, smpAll xs = true → PyData.canLayAll0 xs = true
  | [], _ => by simp [PyData.canLayAll0]
  | x :: xs, h => by
    simp only [smpAll, Bool.and_eq_true] at h
    simp only [PyData.canLayAll0, Bool.and_eq_true]
    exact ⟨smp_lay x h.1, smp_lays xs h.2⟩
end
mutual
theorem smp_eq : ∀ x y : D, smp x = true → smp y = true → (PyData.eqv x y = true ↔ x = y)
  | .none, y, _, h => by cases y <;> simp [smp, PyData.eqv] at h ⊢
  | .int i, y, _, h => by cases y <;> simp [smp, PyData.eqv] at h ⊢
  | .str i, y, _, h => by cases y <;> simp [smp, PyData.eqv] at h ⊢
  | .tuple xs, y, h1, h => by
    cases y with
    | tuple ys =>
      simp only [smp] at h1 h
      simp only [PyData.eqv, PyData.tuple.injEq]
      exact smp_eqs xs ys h1 h
    | _ => simp [smp, PyData.eqv] at h ⊢
  | .bool _, _, h, _ => by simp [smp] at h
  | .list _, _, h, _ => by simp [smp] at h
  | .dict _, _, h, _ => by simp [smp] at h
theorem smp_eqs : ∀ xs ys : List D, smpAll xs = true → smpAll ys = true → (PyData.eqvAll xs ys = true ↔ xs = ys)
  | [], ys, _, _ => by cases ys <;> simp [PyData.eqvAll]
  | x :: xs, [], _, _ => by simp [PyData.eqvAll]
  | x :: xs, y :: ys, h1, h2 => by
    simp only [smpAll, Bool.and_eq_true] at h1 h2
    simp only [PyData.eqvAll, Bool.and_eq_true, List.cons.injEq]
    rw [smp_eq x y h1.1 h2.1, smp_eqs xs ys h1.2 h2.2]
end
/-- may be held against another -/
structure Sp (x : D) : Prop where
  sm : smp x = true
  dp : PyData.depth x ≤ 64
theorem Sp.shape {x : D} (h : Sp x) : SeqAt.shaped x = true := by
  unfold SeqAt.shaped
  rw [smp_lay x h.sm, decide_eq_true h.dp]
  rfl
/-! forms -/
def Fm.tl : Fm → List D
  | .is t k => [.str t, .str k]
  | .same t u => [.str t, .str u]
  | .least a b => [totD a, totD b]
  | .no f => [f.d]
  | .jn w f g => [f.d, g.d]
  | .qu w x f => [.str x, f.d]
end Lw38
set_option Elab.async false
set_option linter.all false
set_option maxRecDepth 100000
set_option maxHeartbeats 4000000
/-! the deck of the laws of rules: the cells, taken from the front, and the last number -/
namespace Dl
open PySem PySem.Spec PyProof.Rows L2 GxR
def d9a (n : Int) : Int := (n * n + 48271 * n + 11) % 2147483647
def d9b (n : Int) : Int := (d9a n * d9a n + 69621 * d9a n + 7) % 2147483629
def d9c (n : Int) : Int := (n + 69621) % 2147483629
def d9n (x n : Int) : Int := (x % 2147483647 * 48271 + d9c n) % 2147483629
def drawK (s : DS) (m : Int) : Int × DS := match s with
  | ([], n, k) => (d9b n / 8 % m, ([], d9b n, k))
  | (x :: r, n, k) => if 10 ^ 18 ≤ x then (x % m, (x / m :: r, n, k)) else ((d9n x n * d9n x n + 16807 * d9n x n) % 2147483587 / 8 % m, (r, d9c n, k))
theorem drawK_range (s : DS) {m : Int} (hm : 0 < m) : 0 ≤ (drawK s m).1 ∧ (drawK s m).1 < m := by
  have fin : ∀ r : Int, 0 ≤ r % m ∧ r % m < m := fun r => ⟨Int.emod_nonneg _ (by omega), Int.emod_lt_of_pos _ hm⟩
  unfold drawK
  split
  · exact fin _
  · split
    · exact fin _
    · exact fin _
def Fdraw9 : Fn DS := fun ds s => match ds with
  | [.dict [(.int 0, .none)], .int m] => if 0 < m ∧ m < 1073741824 then some (.int (drawK s m).1, (drawK s m).2) else none
  | _ => none
theorem fdraw9 {s : DS} {m : Int} (h : 0 < m) (h2 : m < 1073741824) : Fdraw9 [hnd 0, .int m] s = some (.int (drawK s m).1, (drawK s m).2) := by
  show (if 0 < m ∧ m < 1073741824 then some (PyData.int (drawK s m).1, (drawK s m).2) else none) = _
  rw [if_pos ⟨h, h2⟩]
theorem k_draw9 {s : DS} {m : Int} {Q : D → DS → Prop} (h : 0 < m) (h2 : m < 1073741824) (q : ∀ (r : Int) s', 0 ≤ r → r < m → Q (.int r) s') : Ok (Fdraw9 [hnd 0, .int m] s) Q :=
  ⟨_, _, fdraw9 h h2, q _ _ (drawK_range s h).1 (drawK_range s h).2⟩
section
variable {P : Program} {w : World} {K : PySem.W.Frag} {mg : Str → Option Value} {base : Heap} {f : Addr} {fd : FuncData}
end
end Dl
set_option Elab.async false
set_option linter.all false
set_option maxRecDepth 100000
set_option maxHeartbeats 1000000
/-! what the laws of rules draw: texts, vocabularies, sums, forms -/
namespace Lw30
open PySem PySem.Spec L2 Dl Mx Ds Lw01 Lw41
abbrev Jw := Lw38.Jw
abbrev Qw := Lw38.Qw
/-! plain texts -/
structure Tk (n : Nat) (x : Str) : Prop where
  len : x.cps.toList.length ≤ n
  ok : ∀ c ∈ x.cps.toList, c < 128
theorem Tk.length {n : Nat} {x : Str} (h : Tk n x) : x.length ≤ n := by
  have e : x.length = x.cps.toList.length := (Array.length_toList).symm
  rw [e]
  exact h.len
theorem Tk.sok {n : Nat} {x : Str} (h : Tk n x) : PyData.strOk x = true := by
  unfold PyData.strOk
  rw [Array.all_eq_true_iff_forall_mem]
  intro c hc
  exact decide_eq_true (Nat.lt_trans (h.ok c (by simpa using hc)) (by decide))
theorem Tk.mono {n m : Nat} {x : Str} (h : Tk n x) (k : n ≤ m) : Tk m x := ⟨Nat.le_trans h.len k, h.ok⟩
theorem Tk.app {n m : Nat} {x y : Str} (h : Tk n x) (k : Tk m y) : Tk (n + m) (x ++ y) := by
  have e : (x ++ y).cps.toList = x.cps.toList ++ y.cps.toList := TL.tl_append x y
  refine ⟨?_, fun c hc => ?_⟩
  · rw [e, List.length_append]
    have := h.len
    have := k.len
    omega
  · rw [e] at hc
    rcases List.mem_append.mp hc with hc | hc
    · exact h.ok c hc
    · exact k.ok c hc
theorem tk_mk {l : List Nat} {n : Nat} (h : l.length ≤ n) (k : ∀ c ∈ l, c < 128) : Tk n (mk l) := ⟨by rw [mk_cps]; exact h, by rw [mk_cps]; exact k⟩
theorem tk_small {l : List Nat} {n : Nat} (h : l.length ≤ n) (k : inAll l smS = true) : Tk n (mk l) := tk_mk h fun c hc => by
  have := of_decide_eq_true (List.all_eq_true.mp k c hc)
  have h2 : (smS.cps.toList.all fun c => decide (c < 128)) = true := by decide +kernel
  exact of_decide_eq_true (List.all_eq_true.mp h2 c this)
/-! a def's own dict -/
theorem k_fnDg {S : Type} {n i : Nat} {F : Sv (S × Dg.KV Bool)} {ds : List D} {s : S} {Q : D → S → Prop} (hn : noHs ds = true) (h : Ok (F ((startR n ds).set i (some (hnd 1))) (s, [])) fun r s' => ∃ d, r = .rt d ∧ noH d = true ∧ Q d s'.1) : Ok (Dg.fnDk (VA := Bool) n i F ds s) Q := by
  obtain ⟨r, s', e, d, rfl, h1, h2⟩ := h
  refine ⟨d, s'.1, ?_, h2⟩
  unfold Dg.fnDk
  rw [if_pos hn, e]
  simp only
  rw [if_pos h1]
theorem k_up {S : Type} {F : Fn S} {ds : List D} {s : S × Dg.KV Bool} {Q : D → S × Dg.KV Bool → Prop} (hn : noHs ds = true) (h : Ok (F ds s.1) fun d s1 => noH d = true ∧ Q d (s1, s.2)) : Ok (Dg.upK (VA := Bool) F ds s) Q := by
  obtain ⟨d, s1, e, h1, h2⟩ := h
  refine ⟨d, (s1, s.2), ?_, h2⟩
  unfold Dg.upK
  rw [if_pos hn, e]
  simp only
  rw [if_pos h1]
theorem put_mem {m : Dg.KV Bool} {k x : Str} (h : x ∈ (Dg.kvPut m k true).map (·.1)) : x = k ∨ x ∈ m.map (·.1) := by
  unfold Dg.kvPut at h
  split at h
  · rw [List.map_map] at h
    obtain ⟨p, hp, e⟩ := List.mem_map.mp h
    right
    refine List.mem_map.mpr ⟨p, hp, ?_⟩
    rw [← e]
    show p.1 = (if p.1 = k then (p.1, true) else p).1
    split <;> rfl
  · rw [List.map_append, List.mem_append] at h
    rcases h with h | h
    · exact .inr h
    · exact .inl (by simpa using h)
theorem put_len (m : Dg.KV Bool) (k : Str) : (Dg.kvPut m k true).length ≤ m.length + 1 ∧ 1 ≤ (Dg.kvPut m k true).length := by
  unfold Dg.kvPut
  split
  · rename_i h
    rw [List.length_map]
    refine ⟨Nat.le_succ _, ?_⟩
    cases m with
    | nil => simp at h
    | cons p m => simp
  · simp
theorem noH_strs : ∀ xs : List Str, noHs (xs.map .str) = true
  | [] => rfl
  | x :: xs => by
    show (noH (.str x) && noHs (xs.map .str)) = true
    rw [noH_strs xs]
    rfl
/-! words -/
abbrev Fword : Fn DS := Lw30.K_w_word Fdraw9
theorem ok_word9 {s : DS} {m : Nat} (hm : m ≤ 20) {Q : D → DS → Prop} (q : ∀ l s', l.length ≤ m → inAll l smS = true → Q (.str (mk l)) s') : Ok (Fword [hnd 0, .int (m : Nat)] s) Q := by
  unfold Fword Lw30.K_w_word Lw30.B_w_word
  refine k_fn (k_seq (k_set ?_))
  walk_at "E"
  refine k_ret ?_
  walk_at "E"
  refine k_lcP (fun ds s' => ∃ n : Nat, n ≤ m ∧ ds = rngD 0 n) ?_ ?_
  · walk_at "E"
    refine k_draw9 (by omega) (by omega) fun r s1 r0 r1 => ?_
    exact ⟨_, pr1 (by omega) (by omega), r.toNat, by omega, rfl⟩
  rintro ds s1 ⟨n, hn, rfl⟩
  refine ⟨by rw [rng_len]; exact szL (by omega), fun j acc _ => ∃ l : List Nat, acc = l.map sgD ∧ l.length = j ∧ inAll l smS = true, ⟨[], rfl, rfl, rfl⟩, ?_, ?_⟩
  · rintro j d acc s2 hd ⟨l, rfl, hl, hx⟩
    refine ⟨_, rfl, ?_⟩
    walk_at "E"
    refine k_draw9 (by omega) (by omega) fun r s3 r0 r1 => ?_
    obtain ⟨c, c1, _, hc⟩ := ix_at (z := smS) (r := r) (by decide) r0 r1
    refine ⟨_, hc, l ++ [c], by simp; rfl, by simp [hl], ?_⟩
    rw [inAll_app, hx, inAll_one c1]
    rfl
  · rintro acc s2 ⟨l, rfl, hl, hx⟩
    rw [rng_len] at hl
    exact ⟨_, join_eq (by omega), q l _ (by omega) hx⟩
/-- a text drawn: a head, small signs, the tail -/
structure Sw (heads : Str) (tl : List Nat) (x : Str) : Prop where
  ex : ∃ c l, x = mk (c :: (l ++ tl)) ∧ c ∈ heads.cps.toList ∧ inAll l smS = true ∧ l.length ≤ 6
theorem Sw.tk {heads x : Str} {tl : List Nat} (h : Sw heads tl x) (hk : Tk 30 heads) (h2 : tl.length ≤ 2) (h3 : inAll tl smS = true) : Tk 20 x := by
  obtain ⟨c, l, rfl, hc, hl, hn⟩ := h.ex
  have sm : ∀ {l : List Nat}, inAll l smS = true → ∀ c ∈ l, c < 128 := fun {l} k c hc => (tk_small (Nat.le_refl l.length) k).ok c (by rw [mk_cps]; exact hc)
  refine tk_mk (by simp; omega) fun x hx => ?_
  rcases List.mem_cons.mp hx with rfl | hx
  · exact hk.ok _ hc
  · rcases List.mem_append.mp hx with hx | hx
    · exact sm hl x hx
    · exact sm h3 x hx
theorem inAll_take {l : List Nat} {z : Str} (h : inAll l z = true) (n : Nat) : inAll (l.take n) z = true := by
  unfold inAll at *
  rw [List.all_eq_true] at *
  exact fun x hx => h x (List.mem_of_mem_take hx)
abbrev Fsome : Fn DS := Lw30.K_w_some Fdraw9 Fword
theorem ok_some9 {s : DS} {many most : Nat} {heads : Str} {tl : List Nat} (hm : many ≤ 7) (hh : 0 < heads.length) (hk : Tk 30 heads) (ht : tl.length ≤ 2) (htl : inAll tl smS = true) (hmost : most ≤ 6) {Q : D → DS → Prop} (q : ∀ xs s', xs.length ≤ many → (1 ≤ many → xs ≠ []) → (∀ x ∈ xs, Sw heads tl x) → Q (.tuple (xs.map .str)) s') :
    Ok (Fsome [hnd 0, .int (many : Nat), .str heads, .str (mk tl), .int (most : Nat)] s) Q := by
  have htk2 : Tk 2 (mk tl) := tk_small ht htl
  have tlen : (mk tl).length ≤ 2 := htk2.length
  unfold Fsome Lw30.K_w_some
  refine k_fnDg rfl ?_
  unfold Lw30.B_w_some
  have hl := hk.length
  refine k_seq (k_forP (fun ds s' => ds = rngD 0 many ∧ s' = (s, [])) ?_ ?_)
  · walk_at "E"
    exact ⟨_, pr1 (by omega) (by omega), rfl⟩
  rintro ds s1 ⟨rfl, rfl⟩
  refine ⟨fun j ρ s' => (∃ o6 o7, ρ = [some (hnd 0), some (.int (many : Nat)), some (.str heads), some (.str (mk tl)), some (.int (most : Nat)), some (hnd 1), o6, o7]) ∧ s'.2.length ≤ j ∧ (1 ≤ j → 1 ≤ s'.2.length) ∧ ∀ x ∈ s'.2.map (·.1), Sw heads tl x, ⟨⟨none, none, rfl⟩, Nat.le_refl _, fun h => h, by simp⟩, ?_, ?_⟩
  · rintro j d ρ s2 hd ⟨⟨o6, o7, rfl⟩, hlen, hone, htk⟩
    obtain ⟨hj, rfl⟩ := rng_get hd
    refine ⟨_, rfl, ?_⟩
    refine k_seq (k_set ?_)
    simp_arith [v_lenS (show heads.length ≤ sizeLine from szL (by omega))]
    refine k_up rfl (k_draw9 (by omega) (by omega) fun r s3 r0 r1 => ⟨rfl, ?_⟩)
    obtain ⟨c, c1, _, hc⟩ := ix_at (z := heads) (r := r) (szL (by omega)) r0 r1
    refine ⟨_, hc, ?_⟩
    refine k_up rfl (ok_word9 (by omega) fun l s4 hl4 hx => ⟨rfl, ?_⟩)
    have t1 : Tk 1 (mk [c]) := tk_mk (by simp) fun x hx => by rw [List.mem_singleton.mp hx]; exact hk.ok c c1
    have t2 : Tk 6 (mk l) := tk_small (by omega) hx
    have t3 : Sw heads tl (mk [c] ++ mk l ++ mk tl) := ⟨c, l, by rw [mk_app, mk_app]; rfl, c1, hx, by omega⟩
    refine ⟨_, v_addS (szL (by have := t1.length; have := t2.length; omega)), ?_⟩
    refine ⟨_, v_addS (szL (by have := (t1.app t2).length; omega)), ?_⟩
    refine k_seq (Ok.imp (Q := fun rs s' => ∃ x, rs = .nx [some (hnd 0), some (.int (many : Nat)), some (.str heads), some (.str (mk tl)), some (.int (most : Nat)), some (hnd 1), some (.int (0 + (j : Int))), some (.str x)] ∧ Sw heads tl x ∧ s'.2 = s2.2) ?_ ?_)
    · refine k_sIf ?_
      have isH1 : Dg.isH [some (hnd 0), some (.int (many : Nat)), some (.str heads), some (.str (mk tl)), some (.int (most : Nat)), some (hnd 1), some (.int (0 + (j : Int))), some (.str (mk [c] ++ mk l ++ mk tl))] 5 = true := rfl
      refine k_qAnd ?_
      simp_arith [v_mod (show (0 : Int) < 2 by decide)]
      by_cases e1 : (0 + (j : Int)) % 2 = 1
      · simp_arith [e1]
        refine ⟨.int s2.2.length, (s4, s2.2), by unfold Dg.cDlen; rw [if_pos isH1], ?_⟩
        walk_at "E"
        by_cases e2 : (0 : Int) < (s2.2.length : Int)
        · simp_arith [e2]
          refine k_up rfl (k_draw9 (by omega) (by omega) fun r s5 r0 r1 => ⟨rfl, ?_⟩)
          walk_at "E"
          by_cases e3 : r = 0
          · simp_arith [e3]
            refine k_set ?_
            walk_at "E"
            obtain ⟨p, m, em⟩ : ∃ p m, s2.2 = p :: m := by
              cases h : s2.2 with
              | nil => rw [h] at e2; simp at e2
              | cons p m => exact ⟨p, m, rfl⟩
            have t0 : Sw heads tl p.1 := htk p.1 (by rw [em]; simp)
            have t4 : Tk 20 p.1 := t0.tk hk ht htl
            refine ⟨(s2.2.map (·.1)).map .str, (s5, s2.2), by unfold Dg.aDk; rw [if_pos isH1], ?_⟩
            rw [em]
            walk_at "E"
            rw [show (4 : Int) = ((4 : Nat) : Int) from rfl]
            obtain ⟨c0, l0, e0, hc0, hl0, hn0⟩ := t0.ex
            have e4 : cutS p.1 none (some ((4 : Nat) : Int)) = mk (c0 :: (l0 ++ tl).take 3) := by rw [e0, cut_to]; rfl
            have len3 : ((l0 ++ tl).take 3).length ≤ 3 := by rw [List.length_take]; omega
            have t6 : Sw heads tl (mk (c0 :: (l0 ++ tl).take 3) ++ Str.ofString "q" ++ mk tl) := ⟨c0, (l0 ++ tl).take 3 ++ [113], by
              rw [show Str.ofString "q" = mk [113] from by decide +kernel, mk_app, mk_app]
              simp, hc0, by rw [inAll_app, inAll_take (by rw [inAll_app, hl0, htl]; rfl)]; decide +kernel, by rw [List.length_append]; simp; omega⟩
            refine ⟨_, v_slS (szL (by have := t4.length; omega)), ?_⟩
            rw [e4]
            have q1 : (Str.ofString "q").length = 1 := by decide +kernel
            have q2 : (mk (c0 :: (l0 ++ tl).take 3)).length ≤ 4 := by rw [mk_len, List.length_cons]; omega
            refine ⟨_, v_addS (szL (by omega)), ?_⟩
            refine ⟨_, v_addS (szL (by
              have e1 : (mk (c0 :: (l0 ++ tl).take 3) ++ Str.ofString "q").length ≤ 5 := by
                rw [show Str.ofString "q" = mk [113] from by decide +kernel, mk_app, mk_len]
                simp
                omega
              omega)), ?_⟩
            exact ⟨_, rfl, t6⟩
          · simp_arith [e3]
            exact k_nx ⟨_, rfl, t3, rfl⟩
        · simp_arith [e2]
          exact k_nx ⟨_, rfl, t3, rfl⟩
      · simp_arith [e1]
        exact k_nx ⟨_, rfl, t3, rfl⟩
    rintro rs s5 ⟨x, rfl, hx, e5⟩
    obtain ⟨s5a, s5b⟩ := s5
    have e5 : s5b = s2.2 := e5
    subst e5
    refine ⟨.nx [some (hnd 0), some (.int (many : Nat)), some (.str heads), some (.str (mk tl)), some (.int (most : Nat)), some (hnd 1), some (.int (0 + (j : Int))), some (.str x)], (s5a, Dg.kvPut s2.2 x true), ?_, ?_⟩
    · show (if true = true then bnd (some (PyData.bool true, (s5a, s2.2))) _ else none) = _
      show (if s2.2.length < 1000 then _ else none) = _
      rw [if_pos (by omega)]
    · have := put_len s2.2 x
      refine ⟨⟨_, _, rfl⟩, by show (Dg.kvPut s2.2 x true).length ≤ _; omega, fun _ => this.2, fun y hy => ?_⟩
      rcases put_mem hy with rfl | hy
      · exact hx
      · exact htk y hy
  · rintro ρ s2 ⟨⟨o6, o7, rfl⟩, hlen, hone, htk⟩
    rw [rng_len] at hlen hone
    refine k_ret ?_
    walk_at "E"
    refine ⟨(sortS (s2.2.map (·.1))).map .str, s2, by unfold Dg.aSd; rw [if_pos ⟨rfl, by omega⟩], ?_⟩
    refine ⟨_, rfl, by show noHs _ = true; exact noH_strs _, ?_⟩
    have e := (sortS_perm (s2.2.map (·.1))).length_eq
    rw [List.length_map] at e
    refine q (sortS (s2.2.map (·.1))) _ (by omega) (fun h1 h2 => ?_) (fun x hx => htk x ((sortS_perm _).mem_iff.mp hx))
    have := hone h1
    rw [h2] at e
    simp at e
    omega
end Lw30
set_option Elab.async false
set_option linter.all false
set_option maxRecDepth 100000
set_option maxHeartbeats 1000000
/-! vocabularies, sums, forms drawn -/
namespace Lw30
open PySem PySem.Spec L2 Dl Mx Ds Lw01 Lw41
/-- the letters that a law binds -/
def lets : List Str := [Str.ofString "x", Str.ofString "y", Str.ofString "z", Str.ofString "u", Str.ofString "x1", Str.ofString "w"]
theorem lets_at {x : Str} (h : x ∈ lets) : ∃ a b, x = mk (a :: b) ∧ b.length ≤ 1 ∧ (b ≠ [] → b = [49]) := by
  have : lets = [mk [120], mk [121], mk [122], mk [117], mk [120, 49], mk [119]] := by decide +kernel
  rw [this] at h
  simp only [List.mem_cons, List.not_mem_nil, or_false] at h
  rcases h with rfl | rfl | rfl | rfl | rfl | rfl <;> exact ⟨_, _, rfl, by simp, by simp⟩
theorem kind_far {h x : Str} (k : Sw h [113] x) : x ∉ lets := fun hx => by
  obtain ⟨c, l, rfl, _, _, _⟩ := k.ex
  obtain ⟨a, b, e, h1, h2⟩ := lets_at hx
  have e := congrArg (fun z : Str => z.cps.toList) e
  simp only [mk_cps, List.cons.injEq] at e
  have hb : b = [49] := h2 (by rw [← e.2]; simp)
  rw [hb] at e
  have := congrArg List.getLast? e.2
  simp at this
theorem doing_far {h x : Str} (k : Sw h [113, 122] x) : x ∉ lets := fun hx => by
  obtain ⟨c, l, rfl, _, _, _⟩ := k.ex
  obtain ⟨a, b, e, h1, h2⟩ := lets_at hx
  have e := congrArg (fun z : Str => z.cps.toList) e
  simp only [mk_cps, List.cons.injEq] at e
  rw [← e.2] at h1
  simp at h1
inductive Fo
  | is (t k : Str)
  | does (e t u : Str)
  | same (t u : Str)
  | least (a b : Tot)
  | fals
  | no (f : Fo)
  | jn (w : Jw) (f g : Fo)
  | qu (w : Qw) (x : Str) (f : Fo)
def Fo.d : Fo → D
  | .is t k => .tuple [.str (Str.ofString "is"), .str t, .str k]
  | .does e t u => .tuple [.str (Str.ofString "does"), .str e, .str t, .str u]
  | .same t u => .tuple [.str (Str.ofString "same"), .str t, .str u]
  | .least a b => .tuple [.str (Str.ofString "least"), totD a, totD b]
  | .fals => .tuple [.str (Str.ofString "false")]
  | .no f => .tuple [.str (Str.ofString "not"), f.d]
  | .jn w f g => .tuple [.str w.s, f.d, g.d]
  | .qu w x f => .tuple [.str w.s, .str x, f.d]
def Fo.dep : Fo → Nat
  | .no f => f.dep + 1
  | .jn _ f g => max f.dep g.dep + 1
  | .qu _ _ f => f.dep + 1
  | _ => 0
abbrev sok (x : Str) : Prop := PyData.strOk x = true
def Fo.ok : Fo → Prop
  | .is t k => sok t ∧ sok k ∧ k ∉ lets
  | .does e t u => sok e ∧ sok t ∧ sok u ∧ e ∉ lets
  | .same t u => sok t ∧ sok u
  | .least a b => (∀ p ∈ a.1, sok p.1) ∧ ∀ p ∈ b.1, sok p.1
  | .fals => True
  | .no f => f.ok
  | .jn _ f g => f.ok ∧ g.ok
  | .qu _ x f => sok x ∧ f.ok ∧ x ∈ lets
/-! drawing -/
theorem pick9 {r : Int} {xs : List Str} (h0 : 0 ≤ r) (h1 : r < xs.length) : ∃ x, x ∈ xs ∧ pIx (.list (xs.map .str)) (.int r) = some (.str x) := by
  obtain ⟨v, hv, hv2, ev⟩ := atI_lt (xs := xs.map PyData.str) h0 (by rw [List.length_map]; exact h1)
  obtain ⟨x, hx, rfl⟩ := List.mem_map.mp hv
  exact ⟨x, hx, ev⟩
theorem pick9T {r : Int} {xs : List Str} (h0 : 0 ≤ r) (h1 : r < xs.length) : ∃ x, x ∈ xs ∧ pIx (.tuple (xs.map .str)) (.int r) = some (.str x) := by
  obtain ⟨v, hv, hv2, ev⟩ := atI_lt (xs := xs.map PyData.str) h0 (by rw [List.length_map]; exact h1)
  obtain ⟨x, hx, rfl⟩ := List.mem_map.mp hv
  exact ⟨x, hx, ev⟩
structure Vc (ns ks es : List Str) : Prop where
  n0 : ns ≠ []
  k0 : ks ≠ []
  nl : ns.length ≤ 7
  kl : ks.length ≤ 7
  el : es.length ≤ 7
  n : ∀ x ∈ ns, Tk 20 x
  k : ∀ x ∈ ks, Tk 20 x
  e : ∀ x ∈ es, Tk 20 x
  nm : ∀ x ∈ ns, nameB (.str x) = true
  kf : ∀ x ∈ ks, x ∉ lets
  ef : ∀ x ∈ es, x ∉ lets
def vcD (ns ks es : List Str) : D := .tuple [.tuple (ns.map .str), .tuple (ks.map .str), .tuple (es.map .str)]
abbrev Fvoc : Fn DS := Lw30.K_w_vocabulary Fsome Fdraw9
theorem tk_great : Tk 30 (Str.ofString "ABCDEFGHIJKLM") := ⟨by decide +kernel, by decide +kernel⟩
theorem tk_smS : Tk 30 (Str.ofString "abcdefghijklmnopqrstuvwxyz") := ⟨by decide +kernel, by decide +kernel⟩
theorem ok_voc {s : DS} {a b c : Nat} (ha : 1 ≤ a) (ha2 : a ≤ 6) (hb : 1 ≤ b) (hb2 : b ≤ 6) (hc : c ≤ 3) {Q : D → DS → Prop} (q : ∀ ns ks es s', Vc ns ks es → Q (vcD ns ks es) s') : Ok (Fvoc [hnd 0, .int (a : Nat), .int (b : Nat), .int (c : Nat)] s) Q := by
  unfold Fvoc Lw30.K_w_vocabulary Lw30.B_w_vocabulary
  refine k_fn (k_seq (k_set ?_))
  walk_at "E"
  refine k_draw9 (by omega) (by omega) fun r s1 r0 r1 => ?_
  refine ⟨_, rfl, ?_⟩
  rw [show (PyData.int (1 + r)) = .int (((1 + r).toNat : Nat) : Int) from by congr 1; omega]
  rw [show PyData.str (Str.ofString "") = .str (mk []) from rfl]
  refine ok_some9 (most := 6) (tl := []) (by omega) (by decide +kernel) tk_great (by decide) rfl (by decide) fun ns s2 n1 n2 n3 => ?_
  refine k_seq (k_set ?_)
  walk_at "E"
  refine k_draw9 (by omega) (by omega) fun t s3 t0 t1 => ?_
  refine ⟨_, rfl, ?_⟩
  rw [show (PyData.int (1 + t)) = .int (((1 + t).toNat : Nat) : Int) from by congr 1; omega]
  rw [show PyData.str (Str.ofString "q") = .str (mk [113]) from by congr 1]
  refine ok_some9 (most := 5) (tl := [113]) (by omega) (by decide +kernel) tk_smS (by decide) (by decide +kernel) (by decide) fun ks s4 k1 k2 k3 => ?_
  refine k_seq (k_set ?_)
  walk_at "E"
  refine k_draw9 (by omega) (by omega) fun u s5 u0 u1 => ?_
  rw [show (PyData.int u) = .int ((u.toNat : Nat) : Int) from by congr 1; omega]
  rw [show PyData.str (Str.ofString "qz") = .str (mk [113, 122]) from by congr 1]
  refine ok_some9 (most := 4) (tl := [113, 122]) (by omega) (by decide +kernel) tk_smS (by decide) (by decide +kernel) (by decide) fun es s6 e1 e2 e3 => ?_
  refine k_ret ?_
  walk_at "E"
  exact q ns ks es _ ⟨n2 (by omega), k2 (by omega), by omega, by omega, by omega, fun x hx => (n3 x hx).tk tk_great (by decide) rfl, fun x hx => (k3 x hx).tk tk_smS (by decide) (by decide +kernel), fun x hx => (e3 x hx).tk tk_smS (by decide) (by decide +kernel), fun x hx => by
    obtain ⟨c, l, rfl, hc, hl, hn⟩ := (n3 x hx).ex
    rw [List.append_nil]
    have hg : ((Str.ofString "ABCDEFGHIJKLM").cps.toList.all fun c => decide (c ∈ (Str.ofString "ABCDEFGHIJKLMNOPQRSTUVWXYZ").cps.toList)) = true := by decide +kernel
    rw [nameB_str, mk_cps, nameL_cons, hl, of_decide_eq_true (List.all_eq_true.mp hg c hc) |> decide_eq_true, decide_eq_true (show l.length ≤ 7 by omega)]
    rfl, fun x hx => kind_far (k3 x hx), fun x hx => doing_far (e3 x hx)⟩
abbrev Fsum9 : Fn DS := Lw30.K_w_sum Fdraw9
theorem ok_sum9 {s : DS} {ks : List Str} (hl : ks.length ≤ 7) {Q : D → DS → Prop} (q : ∀ t s', (∀ p ∈ t.1, p.1 ∈ ks) → Q (totD t) s') : Ok (Fsum9 [hnd 0, .tuple (ks.map .str)] s) Q := by
  unfold Fsum9 Lw30.K_w_sum Lw30.B_w_sum
  refine k_fn (k_seq (k_set ?_))
  walk_at "E"
  refine k_lcP (fun ds s' => ds = ks.map .str) ⟨_, _, rfl, rfl⟩ ?_
  rintro ds s1 rfl
  refine ⟨by rw [List.length_map]; exact szL (by omega), fun j acc _ => ∃ ps : List Pt, acc = ps.map ptD ∧ ∀ p ∈ ps, p.1 ∈ ks, ⟨[], rfl, by simp⟩, ?_, ?_⟩
  · rintro j d acc s2 hd ⟨ps, rfl, hp⟩
    obtain ⟨k, hk, rfl⟩ := List.mem_map.mp (List.mem_of_getElem? hd)
    refine ⟨_, rfl, ?_⟩
    walk_at "E"
    refine k_draw9 (by omega) (by omega) fun r s3 r0 r1 => ?_
    walk_at "E"
    by_cases e : r = 0
    · simp_arith [e]
      refine k_draw9 (by omega) (by omega) fun t s4 t0 t1 => ?_
      refine ⟨_, rfl, ps ++ [(k, 1 + t)], by rw [List.map_append]; rfl, fun p hp2 => ?_⟩
      rcases List.mem_append.mp hp2 with hp2 | hp2
      · exact hp p hp2
      · rw [List.mem_singleton.mp hp2]
        exact hk
    · simp_arith [e]
      exact ⟨ps, rfl, hp⟩
  · rintro acc s2 ⟨ps, rfl, hp⟩
    refine k_ret ?_
    walk_at "E"
    refine k_draw9 (by omega) (by omega) fun t s4 t0 t1 => ?_
    exact q (ps, t) _ hp
abbrev Fatom : Fn DS := Lw30.K_w_atom Fdraw9 Fsum9
theorem ok_atom {s : DS} {ns ks es L : List Str} (v : Vc ns ks es) (hL : ∀ x ∈ L, sok x) (hl : L.length ≤ 20) {Q : D → DS → Prop} (q : ∀ f s', Fo.ok f → f.dep = 0 → Q f.d s') : Ok (Fatom [hnd 0, vcD ns ks es, .list (L.map .str)] s) Q := by
  unfold Fatom Lw30.K_w_atom Lw30.B_w_atom
  have n1 := List.length_pos_iff.mpr v.n0
  have k1 := List.length_pos_iff.mpr v.k0
  have nl := v.nl
  have kl := v.kl
  have el := v.el
  refine k_fn (k_seq (k_asg ?_))
  walk_at "E"
  refine ⟨_, rfl, ?_⟩
  refine k_seq (k_set ?_)
  walk_at "E"
  refine ⟨_, v_addL (by rw [List.length_map, List.length_map]; exact szL (by omega)), ?_⟩
  refine ⟨_, v_addL (by rw [List.length_append, List.length_map, List.length_map]; exact szL (by omega)), ?_⟩
  rw [← List.map_append, ← List.map_append]
  have tl : (ns ++ L ++ L).length ≤ 60 := by
    rw [List.length_append, List.length_append]
    omega
  have t0 : 0 < (ns ++ L ++ L).length := by
    rw [List.length_append, List.length_append]
    omega
  have tok : ∀ x ∈ ns ++ L ++ L, sok x := fun x hx => by
    rw [List.mem_append, List.mem_append] at hx
    rcases hx with (hx | hx) | hx
    · exact (v.n x hx).sok
    · exact hL x hx
    · exact hL x hx
  generalize ns ++ L ++ L = T at tl t0 tok
  refine k_seq (k_set ?_)
  simp_arith [List.length_map]
  refine k_draw9 (by omega) (by omega) fun r s1 r0 r1 => ?_
  obtain ⟨t, ht, et⟩ := pick9 (xs := T) r0 (by omega)
  refine ⟨_, et, ?_⟩
  refine k_seq (k_set ?_)
  simp_arith [List.length_map]
  refine k_draw9 (by omega) (by omega) fun r s2 r0 r1 => ?_
  obtain ⟨u, hu, eu⟩ := pick9 (xs := T) r0 (by omega)
  refine ⟨_, eu, ?_⟩
  refine k_seq (k_set ?_)
  walk_at "E"
  refine k_draw9 (by omega) (by omega) fun y s3 y0 y1 => ?_
  refine k_seq (k_sIf ?_)
  walk_at "E"
  by_cases e0 : y = 0
  · simp_arith [e0]
    refine k_ret ?_
    walk_at "E"
    exact q (.same t u) _ ⟨tok t ht, tok u hu⟩ rfl
  simp_arith [e0]
  refine k_nx (k_seq (k_sIf ?_))
  walk_at "E"
  by_cases e1 : y = 1
  · simp_arith [e1]
    refine k_ret ?_
    walk_at "E"
    refine ok_sum9 v.kl fun a s4 ha => ?_
    refine ok_sum9 v.kl fun b s5 hb => ?_
    exact q (.least a b) _ ⟨fun p hp => (v.k _ (ha p hp)).sok, fun p hp => (v.k _ (hb p hp)).sok⟩ rfl
  simp_arith [e1]
  refine k_nx (k_seq (k_sIf ?_))
  walk_at "E"
  have last : ∀ s, Ok (sSeq (sIf (qAnd (qT (cB pLt (cVar 9) (cK (.int 5)))) (qT (cB pNe (cVar 5) (cN pTup aNil))))
      (sRet (cN pTup (aCons (cK (.str (Str.ofString "does"))) (aCons (cB pIx (cVar 5) (cCall 2 Fdraw9 (aCons (cVar 0) (aCons (cN pLen (aCons (cVar 5) aNil)) aNil)))) (aCons (cVar 7) (aCons (cVar 8) aNil))))))
      sNx)
      (sRet (cN pTup (aCons (cK (.str (Str.ofString "is"))) (aCons (cVar 7) (aCons (cB pIx (cVar 4) (cCall 2 Fdraw9 (aCons (cVar 0) (aCons (cN pLen (aCons (cVar 4) aNil)) aNil)))) aNil)))))
      [some (hnd 0), some (vcD ns ks es), some (.list (L.map .str)), some (.tuple (ns.map .str)), some (.tuple (ks.map .str)), some (.tuple (es.map .str)), some (.list (T.map .str)), some (.str t), some (.str u), some (.int y)] s) fun r s => match r with | .rt d => Q d s | .nx _ => Q .none s | _ => False := fun s => by
    have fin : ∀ s, Ok (sRet (cN pTup (aCons (cK (.str (Str.ofString "is"))) (aCons (cVar 7) (aCons (cB pIx (cVar 4) (cCall 2 Fdraw9 (aCons (cVar 0) (aCons (cN pLen (aCons (cVar 4) aNil)) aNil)))) aNil)))) [some (hnd 0), some (vcD ns ks es), some (.list (L.map .str)), some (.tuple (ns.map .str)), some (.tuple (ks.map .str)), some (.tuple (es.map .str)), some (.list (T.map .str)), some (.str t), some (.str u), some (.int y)] s) fun r s => match r with | .rt d => Q d s | .nx _ => Q .none s | _ => False := fun s => by
      refine k_ret ?_
      simp_arith [List.length_map]
      refine k_draw9 (by omega) (by omega) fun r s2 r0 r1 => ?_
      obtain ⟨k, hk, ek⟩ := pick9T (xs := ks) r0 (by omega)
      refine ⟨_, ek, ?_⟩
      exact q (.is t k) _ ⟨tok t ht, (v.k k hk).sok, v.kf k hk⟩ rfl
    refine k_seq (k_sIf ?_)
    walk_at "E"
    by_cases e5 : y < 5
    · simp_arith [e5]
      by_cases e6 : es = []
      · subst e6
        simp_arith [List.isEmpty_nil]
        exact k_nx (fin s)
      · have el1 := List.length_pos_iff.mpr e6
        rw [show (es.map PyData.str).isEmpty = false from by cases es with | nil => exact absurd rfl e6 | cons _ _ => rfl]
        walk_at "E"
        refine k_ret ?_
        simp_arith [List.length_map]
        refine k_draw9 (by omega) (by omega) fun r s2 r0 r1 => ?_
        obtain ⟨k, hk, ek⟩ := pick9T (xs := es) r0 (by omega)
        refine ⟨_, ek, ?_⟩
        exact q (.does k t u) _ ⟨(v.e k hk).sok, tok t ht, tok u hu, v.ef k hk⟩ rfl
    · simp_arith [e5]
      exact k_nx (fin s)
  by_cases e2 : y = 2
  · simp_arith [e2]
    by_cases e3 : L = []
    · subst e3
      simp_arith [List.isEmpty_nil]
      refine k_ret ?_
      walk_at "E"
      exact q .fals _ trivial rfl
    · rw [show (L.map PyData.str).isEmpty = false from by cases L with | nil => exact absurd rfl e3 | cons _ _ => rfl]
      walk_at "E"
      subst e2
      exact k_nx (last _)
  · simp_arith [e2]
    exact k_nx (last _)
def Fform : Nat → Fn DS
  | 0 => fun _ _ => none
  | m + 1 => Lw30.K_w_form Fdraw9 Fatom (Fform m)
theorem pick_x {r : Int} (h0 : 0 ≤ r) (h1 : r < 5) : ∃ x : Str, (sok x ∧ x ∈ lets) ∧ pIx (.list [.str (Str.ofString "x"), .str (Str.ofString "y"), .str (Str.ofString "z"), .str (Str.ofString "u"), .str (Str.ofString "x1")]) (.int r) = some (.str x) := by
  have h : (([Str.ofString "x", Str.ofString "y", Str.ofString "z", Str.ofString "u", Str.ofString "x1"] : List Str).all fun x => PyData.strOk x) = true := by decide +kernel
  obtain ⟨x, hx, e⟩ := pick9 (xs := [Str.ofString "x", Str.ofString "y", Str.ofString "z", Str.ofString "u", Str.ofString "x1"]) h0 h1
  exact ⟨x, ⟨List.all_eq_true.mp h x hx, by simp only [lets, List.mem_cons, List.not_mem_nil, or_false] at hx ⊢; rcases hx with h | h | h | h | h <;> simp [h]⟩, e⟩
theorem pick_q {r : Int} (h0 : 0 ≤ r) (h1 : r < 2) : ∃ w : Qw, pIx (.list [.str (Str.ofString "every"), .str (Str.ofString "some")]) (.int r) = some (.str w.s) := by
  obtain rfl | rfl : r = 0 ∨ r = 1 := by omega
  · exact ⟨.every, v_ix0L⟩
  · exact ⟨.some, by simp only [pIx]; exact atI_nat (j := 1) rfl⟩
theorem pick_j {r : Int} (h0 : 0 ≤ r) (h1 : r < 4) : ∃ w : Jw, pIx (.list [.str (Str.ofString "and"), .str (Str.ofString "or"), .str (Str.ofString "if"), .str (Str.ofString "if")]) (.int r) = some (.str w.s) := by
  obtain rfl | rfl | rfl | rfl : r = 0 ∨ r = 1 ∨ r = 2 ∨ r = 3 := by omega
  · exact ⟨.and, v_ix0L⟩
  · exact ⟨.or, by simp only [pIx]; exact atI_nat (j := 1) rfl⟩
  · exact ⟨.if', by simp only [pIx]; exact atI_nat (j := 2) rfl⟩
  · exact ⟨.if', by simp only [pIx]; exact atI_nat (j := 3) rfl⟩
theorem ok_form {ns ks es : List Str} (v : Vc ns ks es) : ∀ (m p : Nat) (L : List Str) (s : DS) (Q : D → DS → Prop), p < m → (∀ x ∈ L, sok x) → L.length + p ≤ 20 → (∀ f s', Fo.ok f → f.dep ≤ p → Q f.d s') → Ok (Fform m [hnd 0, vcD ns ks es, .list (L.map .str), .int (p : Nat)] s) Q
  | 0, _, _, _, _, h, _, _, _ => absurd h (Nat.not_lt_zero _)
  | m + 1, p, L, s, Q, hm, hL, hl, q => by
    have ih := ok_form v m
    unfold Fform Lw30.K_w_form Lw30.B_w_form
    refine k_fn (k_seq (k_set ?_))
    walk_at "E"
    refine k_draw9 (by omega) (by omega) fun y s1 y0 y1 => ?_
    have atom : ∀ {R : Rs → DS → Prop}, (∀ d s', Q d s' → R (.rt d) s') → Ok (sRet (cCall 3 Fatom (aCons (cVar 0) (aCons (cVar 1) (aCons (cVar 2) aNil)))) [some (hnd 0), some (vcD ns ks es), some (.list (L.map .str)), some (.int (p : Nat)), some (.int y), none, none, none] s1) R := fun hR => by
      refine k_ret ?_
      walk_at "E"
      exact ok_atom v hL (by omega) fun f s2 hf hd => hR _ _ (q f s2 hf (by omega))
    refine k_seq (k_sIf ?_)
    walk_at "E"
    cases p with
    | zero =>
      rw [show decide (((0 : Nat) : Int) = 0) = true from rfl]
      walk_at "E"
      exact atom fun d s h => h
    | succ p =>
      rw [show decide (((p + 1 : Nat) : Int) = 0) = false from decide_eq_false (by omega)]
      walk_at "E"
      by_cases e2 : y < 2
      · simp_arith [e2]
        exact atom fun d s h => h
      simp_arith [e2]
      have ep : (((p + 1 : Nat) : Int) - 1) = ((p : Nat) : Int) := by omega
      refine k_nx (k_seq (k_sIf ?_))
      walk_at "E"
      by_cases e3 : y = 2
      · simp_arith [e3]
        refine k_ret ?_
        simp_arith [ep]
        refine ih p L _ _ (by omega) hL (by omega) fun f s2 hf hd => ?_
        exact q (.no f) _ hf (by show f.dep + 1 ≤ p + 1; omega)
      simp_arith [e3]
      refine k_nx (k_seq (k_sIf ?_))
      walk_at "E"
      by_cases e6 : 6 < y
      · simp_arith [e6]
        refine k_seq (k_set ?_)
        walk_at "E"
        refine k_draw9 (by omega) (by omega) fun r s2 r0 r1 => ?_
        obtain ⟨x, ⟨hx, hxl⟩, ex⟩ := pick_x r0 r1
        refine ⟨_, ex, ?_⟩
        refine k_ret ?_
        simp_arith [ep]
        obtain ⟨w, ew⟩ := pick_q (r := y - 7) (by omega) (by omega)
        refine ⟨_, ew, ?_⟩
        refine ⟨_, v_addL (by rw [List.length_map]; exact szL (by simp; omega)), ?_⟩
        rw [show L.map PyData.str ++ [PyData.str x] = (L ++ [x]).map PyData.str from by simp]
        refine ih p (L ++ [x]) _ _ (by omega) (fun z hz => ?_) (by rw [List.length_append]; simp; omega) fun f s3 hf hd => ?_
        · rcases List.mem_append.mp hz with hz | hz
          · exact hL z hz
          · rw [List.mem_singleton.mp hz]
            exact hx
        · exact q (.qu w x f) _ ⟨hx, hf, hxl⟩ (by show f.dep + 1 ≤ p + 1; omega)
      simp_arith [e6]
      refine k_nx (k_seq (k_set ?_))
      simp_arith [ep]
      refine ih p L _ _ (by omega) hL (by omega) fun f s2 hf hd => ?_
      refine k_seq (k_set ?_)
      simp_arith [ep]
      refine ih p L _ _ (by omega) hL (by omega) fun g s3 hg hd2 => ?_
      refine k_ret ?_
      walk_at "E"
      obtain ⟨w, ew⟩ := pick_j (r := y - 3) (by omega) (by omega)
      refine ⟨_, ew, ?_⟩
      exact q (.jn w f g) _ ⟨hf, hg⟩ (by show max f.dep g.dep + 1 ≤ p + 1; omega)
end Lw30
set_option Elab.async false
set_option linter.all false
set_option maxRecDepth 100000
set_option maxHeartbeats 1000000
/-! which rule is asked -/
namespace Lw30
open PySem PySem.Spec L2 Dl Mx Ds Lw01 Lw41
section
variable {S : Type} {s : S} {ρ : Rho} {f : Ev S} {Q : Rs → S → Prop}
section
variable {F1 F2 F3 F4 F5 F6 F7 F8 F9 F10 F11 F12 F13 : Fn S} {x y z nm : D} {Q : D → S → Prop}
end
end
end Lw30
set_option Elab.async false
set_option linter.all false
set_option maxRecDepth 100000
set_option maxHeartbeats 1000000
/-! forms looked at and held against one another -/
namespace Lw30
open PySem PySem.Spec L2 Dl Mx Ds Lw01 Lw41
def Fo.head : Fo → Str
  | .is _ _ => Str.ofString "is"
  | .does _ _ _ => Str.ofString "does"
  | .same _ _ => Str.ofString "same"
  | .least _ _ => Str.ofString "least"
  | .fals => Str.ofString "false"
  | .no _ => Str.ofString "not"
  | .jn w _ _ => w.s
  | .qu w _ _ => w.s
def Fo.row : Fo → List D
  | .is t k => [.str t, .str k]
  | .does e t u => [.str e, .str t, .str u]
  | .same t u => [.str t, .str u]
  | .least a b => [totD a, totD b]
  | .fals => []
  | .no f => [f.d]
  | .jn w f g => [f.d, g.d]
  | .qu w x f => [.str x, f.d]
theorem d_row (f : Fo) : f.d = .tuple (.str f.head :: f.row) := by cases f <;> rfl
theorem head9 (f : Fo) : pIx f.d (.int 0) = some (.str f.head) := by rw [d_row]; exact v_ix0
abbrev e0 : Str := ⟨#[]⟩
theorem isi_fo (f : Fo) : pIsi "tuple" f.d = some (.bool true) := by rw [d_row]; rfl
theorem v_ix1L {c d : D} {ds : List D} : pIx (.list (c :: d :: ds)) (.int 1) = some d := by simp only [pIx]; exact atI_nat (j := 1) rfl
theorem pick_w {r : Int} (h0 : 0 ≤ r) (h1 : r < 3) : ∃ w : Jw, pIx (.list [.str (Str.ofString "and"), .str (Str.ofString "or"), .str (Str.ofString "if")]) (.int r) = some (.str w.s) := by
  obtain rfl | rfl | rfl : r = 0 ∨ r = 1 ∨ r = 2 := by omega
  · exact ⟨.and, v_ix0L⟩
  · exact ⟨.or, v_ix1L⟩
  · exact ⟨.if', by simp only [pIx]; exact atI_nat (j := 2) rfl⟩
/-- forms at any time: well made, not deep -/
structure Gf (n : Nat) (f : Fo) : Prop where
  ok : f.ok
  dp : f.dep ≤ n
theorem Gf.mono {n m : Nat} {f : Fo} (h : Gf n f) (k : n ≤ m) : Gf m f := ⟨h.ok, Nat.le_trans h.dp k⟩
theorem Gf.no {n : Nat} {f : Fo} (h : Gf n f) : Gf (n + 1) (.no f) := ⟨h.ok, Nat.succ_le_succ h.dp⟩
theorem Gf.jn {n : Nat} {w : Jw} {f g : Fo} (h : Gf n f) (k : Gf n g) : Gf (n + 1) (.jn w f g) := ⟨⟨h.ok, k.ok⟩, by have := h.dp; have := k.dp; show max f.dep g.dep + 1 ≤ n + 1; omega⟩
theorem Gf.fals {n : Nat} : Gf n .fals := ⟨trivial, Nat.zero_le _⟩
end Lw30
set_option Elab.async false
set_option linter.all false
set_option maxRecDepth 100000
set_option maxHeartbeats 1000000
/-! a name put for a letter: the program's way and the law's -/
namespace Lw30
open PySem PySem.Spec L2 Dl Mx Ds Lw01 Lw41
def Fo.put (x n : Str) : Fo → Fo
  | .is t k => .is (if t = x then n else t) k
  | .does e t u => .does e (if t = x then n else t) (if u = x then n else u)
  | .same t u => .same (if t = x then n else t) (if u = x then n else u)
  | .least a b => .least a b
  | .fals => .fals
  | .no f => .no (f.put x n)
  | .jn w f g => .jn w (f.put x n) (g.put x n)
  | .qu w y f => if y = x then .qu w y f else .qu w y (f.put x n)
theorem put_dep (x n : Str) : ∀ f : Fo, (f.put x n).dep = f.dep
  | .is t k => rfl
  | .does e t u => rfl
  | .same t u => rfl
  | .least a b => rfl
  | .fals => rfl
  | .no f => by show (f.put x n).dep + 1 = f.dep + 1; rw [put_dep x n f]
  | .jn w f g => by show max (f.put x n).dep (g.put x n).dep + 1 = max f.dep g.dep + 1; rw [put_dep x n f, put_dep x n g]
  | .qu w y f => by
    unfold Fo.put
    split
    · rfl
    · show (f.put x n).dep + 1 = f.dep + 1
      rw [put_dep x n f]
section
variable {S : Type} {s : S}
def Fo.bound : Fo → List Str
  | .qu _ y _ => [y]
  | _ => []
theorem pieces_x (f : Fo) : Lw30.K_pieces [f.d, .str (Str.ofString "x")] s = some (.list (f.bound.map .str), s) := by
  cases f with
  | jn w f g => cases w <;> rfl
  | qu w x f => cases w <;> rfl
  | _ => rfl
/-! put_at, place by place -/
section
variable {F : Fn S} {p : D} {x n : Str}
theorem at_F {d : D} (h : F [p, .str x, .str n] s = some (d, s)) : Lw30.K_put_at F [.str (Str.ofString "F"), p, .str x, .str n] s = some (d, s) := by
  refine ok_eq ?_
  unfold Lw30.K_put_at Lw30.B_put_at
  refine k_fn (k_seq (k_sIf ?_))
  walk_at "E"
  refine k_ret ?_
  walk_at "E"
  exact ⟨_, _, h, rfl, rfl⟩
theorem at_t {t : Str} : Lw30.K_put_at F [.str (Str.ofString "t"), .str t, .str x, .str n] s = some (.str (if t = x then n else t), s) := by
  refine ok_eq ?_
  unfold Lw30.K_put_at Lw30.B_put_at
  refine k_fn (k_seq (k_sIf ?_))
  walk_at "E"
  rw [show decide (Str.ofString "t" = Str.ofString "F") = false from by decide +kernel]
  walk_at "E"
  refine k_nx (k_seq (k_sIf ?_))
  walk_at "E"
  by_cases e : t = x
  · simp_arith [e]
    refine k_ret ?_
    walk_at "E"
  · simp_arith [e]
    refine k_nx (k_ret ?_)
    walk_at "E"
theorem at_o {pl : Str} (h1 : decide (pl = Str.ofString "F") = false) (h2 : decide (pl = Str.ofString "t") = false) : Lw30.K_put_at F [.str pl, p, .str x, .str n] s = some (p, s) := by
  refine ok_eq ?_
  unfold Lw30.K_put_at Lw30.B_put_at
  refine k_fn (k_seq (k_sIf ?_))
  simp_arith [h1]
  refine k_nx (k_seq (k_sIf ?_))
  simp_arith [h2]
  refine k_nx (k_ret ?_)
  walk_at "E"
end
theorem at_k {F : Fn S} {p : D} {x n : Str} : Lw30.K_put_at F [.str (Str.ofString "k"), p, .str x, .str n] s = some (p, s) := at_o (by decide +kernel) (by decide +kernel)
theorem at_d {F : Fn S} {p : D} {x n : Str} : Lw30.K_put_at F [.str (Str.ofString "d"), p, .str x, .str n] s = some (p, s) := at_o (by decide +kernel) (by decide +kernel)
theorem at_s {F : Fn S} {p : D} {x n : Str} : Lw30.K_put_at F [.str (Str.ofString "s"), p, .str x, .str n] s = some (p, s) := at_o (by decide +kernel) (by decide +kernel)
theorem at_x {F : Fn S} {p : D} {x n : Str} : Lw30.K_put_at F [.str (Str.ofString "x"), p, .str x, .str n] s = some (p, s) := at_o (by decide +kernel) (by decide +kernel)
/-- the row of places and pieces, walked -/
abbrev patE (F : Fn S) : Ev S := cCall 4 (Lw30.K_put_at F) (aCons (cVar 4) (aCons (cVar 5) (aCons (cVar 1) (aCons (cVar 2) aNil))))
abbrev patT : Tg := gTp (gC (gNm 4) (gC (gNm 5) gN0))
theorem row_nil {F : Fn S} {ρ : Rho} : compF patT qYes (patE F) ρ [] s = some ([], s) := rfl
theorem row_cons {F : Fn S} {a : Option D} {x n : Str} {pl : Str} {p d : D} {ds ys : List D} {o3 : Option D} (h : Lw30.K_put_at F [.str pl, p, .str x, .str n] s = some (d, s)) (hr : compF patT qYes (patE F) [a, some (.str x), some (.str n), o3, none, none] ds s = some (ys, s)) : compF patT qYes (patE F) [a, some (.str x), some (.str n), o3, none, none] (.tuple [.str pl, p] :: ds) s = some (d :: ys, s) := by
  have e1 : patE F [a, some (.str x), some (.str n), o3, some (.str pl), some p] s = some (d, s) := by
    refine ok_eq ?_
    walk_at "E"
    exact ⟨_, _, h, rfl, rfl⟩
  show bnd (patE F [a, some (.str x), some (.str n), o3, some (.str pl), some p] s) (fun y s => bnd (compF patT qYes (patE F) [a, some (.str x), some (.str n), o3, none, none] ds s) fun ys s => some (y :: ys, s)) = _
  rw [e1]
  show bnd (compF patT qYes (patE F) [a, some (.str x), some (.str n), o3, none, none] ds s) (fun ys s => some (d :: ys, s)) = _
  rw [hr]
  rfl
def Fpf : Nat → Fn S
  | 0 => fun _ _ => none
  | m + 1 => Lw30.K_put_for Lw30.K_pieces (Lw30.K_put_at (Fpf m))
/-- the whole of put_for, given the row -/
theorem for_eq {F : Fn S} {f : Fo} {x n : Str} {zs ys : List D} {pls : Str} (hb : decide (x ∈ f.bound) = false) (hs : pDt t_SHAPES (.str f.head) = some (.str pls)) (hz : pZipS [.str pls, .tuple f.row] = some zs) (hl : zs.length ≤ 5) (hr : compF patT qYes (patE F) [some f.d, some (.str x), some (.str n), none, none, none] zs s = some (ys, s)) (hy : ys.length ≤ 5) : Lw30.K_put_for Lw30.K_pieces (Lw30.K_put_at F) [f.d, .str x, .str n] s = some (.tuple (.str f.head :: ys), s) := by
  refine ok_eq ?_
  unfold Lw30.K_put_for Lw30.B_put_for
  refine k_fn (k_seq (k_sIf ?_))
  walk_at "E"
  refine ⟨_, _, pieces_x f, ?_⟩
  refine ⟨_, in_strsL x f.bound, ?_⟩
  rw [hb]
  walk_at "E"
  refine k_nx (k_seq (k_set ?_))
  walk_at "E"
  have hrow : pSl f.d (some 1) none = some (.tuple f.row) := by
    rw [d_row, v_slT, show (1 : Int) = ((1 : Nat) : Int) from rfl, cutD_from]
    rfl
  have hi : iOfA (S := S) pZipS (aCons (cU (pDt t_SHAPES) (cB pIx (cVar 0) (cK (.int 0)))) (aCons (cSl pSl (cVar 0) (oOf (cK (.int 1))) oNo) aNil)) [some f.d, some (.str x), some (.str n), none, none, none] s = some (zs, s) := by
    refine ok_eqL ?_
    simp_arith [head9]
    first | exact ⟨_, hs, _, hrow, _, hz, rfl⟩ | exact ⟨_, hs, _, hrow, hz⟩ | exact ⟨_, hs, _, hrow, hz, rfl⟩
  refine ⟨ys, s, ?_, ?_⟩
  · unfold lcF
    rw [hi]
    show (if zs.length ≤ sizeLine then compF patT qYes (patE F) [some f.d, some (.str x), some (.str n), none, none, none] zs s else none) = _
    rw [if_pos (szL (by omega)), hr]
  · refine k_ret ?_
    simp_arith [head9]
    refine ⟨_, _, (show aStar (cVar 3) aNil [some f.d, some (.str x), some (.str n), some (.list ys), none, none] s = some (ys, s) from by
      show some (ys ++ ([] : List D), s) = _
      rw [List.append_nil]), ?_⟩
    exact ⟨_, v_tup (by rw [List.length_cons]; exact szL (by omega)), rfl, rfl⟩
end
end Lw30
set_option Elab.async false
set_option linter.all false
set_option maxRecDepth 100000
set_option maxHeartbeats 1000000
namespace Lw30
open PySem PySem.Spec L2 Dl Mx Ds Lw01 Lw41
section
variable {S : Type} {s : S}
theorem for_same {F : Fn S} {f : Fo} {x n : Str} (hb : decide (x ∈ f.bound) = true) : Lw30.K_put_for Lw30.K_pieces (Lw30.K_put_at F) [f.d, .str x, .str n] s = some (f.d, s) := by
  refine ok_eq ?_
  unfold Lw30.K_put_for Lw30.B_put_for
  refine k_fn (k_seq (k_sIf ?_))
  walk_at "E"
  refine ⟨_, _, pieces_x f, ?_⟩
  refine ⟨_, in_strsL x f.bound, ?_⟩
  rw [hb]
  walk_at "E"
  refine k_ret ?_
  walk_at "E"
theorem pf_eq (x n : Str) : ∀ (f : Fo) (m : Nat) (s : S), f.dep < m → Fpf m [f.d, .str x, .str n] s = some ((f.put x n).d, s)
  | f, 0, _, h => absurd h (Nat.not_lt_zero _)
  | .is t k, m + 1, s, h => for_eq (f := .is t k) (pls := Str.ofString "tk") (zs := [.tuple [.str (Str.ofString "t"), .str t], .tuple [.str (Str.ofString "k"), .str k]]) (by simp [Fo.bound]) rfl rfl (by simp) (row_cons at_t (row_cons at_k row_nil)) (by simp)
  | .does e t u, m + 1, s, h => for_eq (f := .does e t u) (pls := Str.ofString "dtt") (zs := [.tuple [.str (Str.ofString "d"), .str e], .tuple [.str (Str.ofString "t"), .str t], .tuple [.str (Str.ofString "t"), .str u]]) (by simp [Fo.bound]) rfl rfl (by simp) (row_cons at_d (row_cons at_t (row_cons at_t row_nil))) (by simp)
  | .same t u, m + 1, s, h => for_eq (f := .same t u) (pls := Str.ofString "tt") (zs := [.tuple [.str (Str.ofString "t"), .str t], .tuple [.str (Str.ofString "t"), .str u]]) (by simp [Fo.bound]) rfl rfl (by simp) (row_cons at_t (row_cons at_t row_nil)) (by simp)
  | .least a b, m + 1, s, h => for_eq (f := .least a b) (pls := Str.ofString "ss") (zs := [.tuple [.str (Str.ofString "s"), totD a], .tuple [.str (Str.ofString "s"), totD b]]) (by simp [Fo.bound]) rfl rfl (by simp) (row_cons at_s (row_cons at_s row_nil)) (by simp)
  | .fals, m + 1, s, h => for_eq (f := .fals) (pls := Str.ofString "") (zs := []) (by simp [Fo.bound]) rfl rfl (by simp) row_nil (by simp)
  | .no f, m + 1, s, h => by
    have hd : f.dep + 1 < m + 1 := h
    exact for_eq (f := .no f) (pls := Str.ofString "F") (zs := [.tuple [.str (Str.ofString "F"), f.d]]) (by simp [Fo.bound]) rfl rfl (by simp) (row_cons (at_F (pf_eq x n f m s (by omega))) row_nil) (by simp)
  | .jn w f g, m + 1, s, h => by
    have hd : max f.dep g.dep + 1 < m + 1 := h
    exact for_eq (f := .jn w f g) (pls := Str.ofString "FF") (zs := [.tuple [.str (Str.ofString "F"), f.d], .tuple [.str (Str.ofString "F"), g.d]]) (by simp [Fo.bound]) (by cases w <;> rfl) rfl (by simp) (row_cons (at_F (pf_eq x n f m s (by omega))) (row_cons (at_F (pf_eq x n g m s (by omega))) row_nil)) (by simp)
  | .qu w y f, m + 1, s, h => by
    have hd : f.dep + 1 < m + 1 := h
    by_cases e : y = x
    · have ep : (Fo.qu w y f).put x n = .qu w y f := by unfold Fo.put; rw [if_pos e]
      rw [ep]
      exact for_same (f := .qu w y f) (by simp [Fo.bound, e])
    · have ep : (Fo.qu w y f).put x n = .qu w y (f.put x n) := by show (if y = x then _ else _) = _; rw [if_neg e]
      rw [ep]
      exact for_eq (f := .qu w y f) (pls := Str.ofString "xF") (zs := [.tuple [.str (Str.ofString "x"), .str y], .tuple [.str (Str.ofString "F"), f.d]]) (by simp only [Fo.bound, List.mem_singleton]; exact decide_eq_false fun h => e h.symm) (by cases w <;> rfl) rfl (by simp) (row_cons at_x (row_cons (at_F (pf_eq x n f m s (by omega))) row_nil)) (by simp)
/-! the law's way -/
def Fo.isFL : Fo → Bool
  | .fals => true
  | .least _ _ => true
  | _ => false
def Fo.isT : Fo → Bool
  | .is _ _ => true
  | .does _ _ _ => true
  | .same _ _ => true
  | _ => false
def Fo.isQ : Fo → Bool
  | .qu _ _ _ => true
  | _ => false
abbrev flS : List Str := [Str.ofString "false", Str.ofString "least"]
abbrev tS : List Str := [Str.ofString "is", Str.ofString "does", Str.ofString "same"]
abbrev qS : List Str := [Str.ofString "every", Str.ofString "some"]
theorem h_fl (f : Fo) : pIn (.str f.head) (.tuple [.str (Str.ofString "false"), .str (Str.ofString "least")]) = some (.bool f.isFL) := by
  refine (in_strs f.head flS).trans ?_
  congr 2
  cases f with
  | is t k => show decide (Str.ofString "is" ∈ flS) = false; decide +kernel
  | does e t k => show decide (Str.ofString "does" ∈ flS) = false; decide +kernel
  | same t k => show decide (Str.ofString "same" ∈ flS) = false; decide +kernel
  | least a b => show decide (Str.ofString "least" ∈ flS) = true; decide +kernel
  | fals => show decide (Str.ofString "false" ∈ flS) = true; decide +kernel
  | no f => show decide (Str.ofString "not" ∈ flS) = false; decide +kernel
  | jn w f g => show decide (w.s ∈ flS) = false; cases w <;> decide +kernel
  | qu w x f => show decide (w.s ∈ flS) = false; cases w <;> decide +kernel
theorem h_t (f : Fo) : pIn (.str f.head) (.tuple [.str (Str.ofString "is"), .str (Str.ofString "does"), .str (Str.ofString "same")]) = some (.bool f.isT) := by
  refine (in_strs f.head tS).trans ?_
  congr 2
  cases f with
  | is t k => show decide (Str.ofString "is" ∈ tS) = true; decide +kernel
  | does e t k => show decide (Str.ofString "does" ∈ tS) = true; decide +kernel
  | same t k => show decide (Str.ofString "same" ∈ tS) = true; decide +kernel
  | least a b => show decide (Str.ofString "least" ∈ tS) = false; decide +kernel
  | fals => show decide (Str.ofString "false" ∈ tS) = false; decide +kernel
  | no f => show decide (Str.ofString "not" ∈ tS) = false; decide +kernel
  | jn w f g => show decide (w.s ∈ tS) = false; cases w <;> decide +kernel
  | qu w x f => show decide (w.s ∈ tS) = false; cases w <;> decide +kernel
theorem h_q (f : Fo) : pIn (.str f.head) (.tuple [.str (Str.ofString "every"), .str (Str.ofString "some")]) = some (.bool f.isQ) := by
  refine (in_strs f.head qS).trans ?_
  congr 2
  cases f with
  | is t k => show decide (Str.ofString "is" ∈ qS) = false; decide +kernel
  | does e t k => show decide (Str.ofString "does" ∈ qS) = false; decide +kernel
  | same t k => show decide (Str.ofString "same" ∈ qS) = false; decide +kernel
  | least a b => show decide (Str.ofString "least" ∈ qS) = false; decide +kernel
  | fals => show decide (Str.ofString "false" ∈ qS) = false; decide +kernel
  | no f => show decide (Str.ofString "not" ∈ qS) = false; decide +kernel
  | jn w f g => show decide (w.s ∈ qS) = false; cases w <;> decide +kernel
  | qu w x f => show decide (w.s ∈ qS) = true; cases w <;> decide +kernel
theorem lit_far {x : Str} (h : x ∈ lets) : Str.ofString "is" ≠ x ∧ Str.ofString "does" ≠ x ∧ Str.ofString "same" ≠ x := by
  have a : (lets.all fun x => decide (Str.ofString "is" ≠ x ∧ Str.ofString "does" ≠ x ∧ Str.ofString "same" ≠ x)) = true := by decide +kernel
  exact of_decide_eq_true (List.all_eq_true.mp a x h)
def Flp : Nat → Fn S
  | 0 => fun _ _ => none
  | m + 1 => Lw30.K_w_put (Flp m)
abbrev swE : Ev S := cB pIx (cN pLst (aCons (cVar 4) (aCons (cVar 2) aNil))) (cN pInt (aCons (cB pEq (cVar 4) (cVar 1)) aNil))
theorem ix_pick {a b : D} (c : Bool) : pIx (.list [a, b]) (.int (if c = true then 1 else 0)) = some (if c = true then b else a) := by
  cases c with
  | true => exact v_ix1L
  | false => exact v_ix0L
theorem sw_row {a o3 : Option D} {x n : Str} : ∀ zs : List Str, compF (gNm 4) qYes (swE (S := S)) [a, some (.str x), some (.str n), o3, none] (zs.map .str) s = some ((zs.map fun z => if z = x then n else z).map .str, s)
  | [] => rfl
  | z :: zs => by
    have e1 : swE (S := S) [a, some (.str x), some (.str n), o3, some (.str z)] s = some (.str (if z = x then n else z), s) := by
      refine ok_eq ?_
      walk_at "E"
      refine ⟨_, ix_pick _, ?_⟩
      by_cases e : z = x <;> simp [e]
    show bnd (swE [a, some (.str x), some (.str n), o3, some (.str z)] s) (fun y s => bnd (compF (gNm 4) qYes swE [a, some (.str x), some (.str n), o3, none] (zs.map .str) s) fun ys s => some (y :: ys, s)) = _
    rw [e1]
    show bnd (compF (gNm 4) qYes swE [a, some (.str x), some (.str n), o3, none] (zs.map .str) s) (fun ys s => some (.str (if z = x then n else z) :: ys, s)) = _
    rw [sw_row zs]
    rfl
theorem lp_eq (x n : Str) (hx : x ∈ lets) : ∀ (f : Fo) (m : Nat) (s : S), f.ok → f.dep < m → Flp m [f.d, .str x, .str n] s = some ((f.put x n).d, s)
  | f, 0, _, _, h => absurd h (Nat.not_lt_zero _)
  | f, m + 1, s, hk, h => by
    obtain ⟨l1, l2, l3⟩ := lit_far hx
    refine ok_eq ?_
    unfold Flp Lw30.K_w_put Lw30.B_w_put
    refine k_fn (k_seq (k_set ?_))
    simp_arith [head9]
    refine k_seq (k_sIf ?_)
    simp_arith [h_fl]
    have tst : ∀ {zs : List Str} {ws : List Str}, f.isFL = false → f.isT = true → f.d = .tuple (zs.map .str) → zs.length ≤ 5 → (f.put x n).d = .tuple ((zs.map fun z => if z = x then n else z).map .str) → Ok (sSeq (sIf (qT (cB pIn (cVar 3) (cN pTup (aCons (cK (.str (Str.ofString "is"))) (aCons (cK (.str (Str.ofString "does"))) (aCons (cK (.str (Str.ofString "same"))) aNil))))))
    (sRet (cN pTuple (aCons (cNl (lcF (iOf asT (cVar 0)) (gNm 4) qYes swE [4])) aNil)))
    sNx) (sSeq (sIf (qT (cB pIn (cVar 3) (cN pTup (aCons (cK (.str (Str.ofString "every"))) (aCons (cK (.str (Str.ofString "some"))) aNil)))))
    (sSeq (sIf (qT (cB pEq (cB pIx (cVar 0) (cK (.int 1))) (cVar 1)))
      (sRet (cVar 0))
      sNx)
      (sRet (cN pTup (aCons (cVar 3) (aCons (cB pIx (cVar 0) (cK (.int 1))) (aCons (cCall 3 (Flp m) (aCons (cB pIx (cVar 0) (cK (.int 2))) (aCons (cVar 1) (aCons (cVar 2) aNil)))) aNil))))))
    sNx)
    (sRet (cB pAdd (cN pTup (aCons (cVar 3) aNil)) (cN pTuple (aCons (cNl (lcF (iOf asT (cSl pSl (cVar 0) (oOf (cK (.int 1))) oNo)) (gNm 4) qYes (cCall 3 (Flp m) (aCons (cVar 4) (aCons (cVar 1) (aCons (cVar 2) aNil)))) [4])) aNil))))) [some f.d, some (.str x), some (.str n), some (.str f.head), none] s) fun r s' => match r with | .rt d => d = (f.put x n).d ∧ s' = s | .nx _ => PyData.none = (f.put x n).d ∧ s' = s | _ => False := fun {zs ws} _ h2 h3 h4 h5 => by
      refine k_seq (k_sIf ?_)
      simp_arith [h_t, h2]
      refine k_ret ?_
      walk_at "E"
      have hl : lcF (S := S) (iOf asT (cVar 0)) (gNm 4) qYes swE [4] [some f.d, some (.str x), some (.str n), some (.str f.head), none] s = some ((zs.map fun z => if z = x then n else z).map .str, s) := by
        unfold lcF
        rw [h3]
        show (if (zs.map PyData.str).length ≤ sizeLine then compF (gNm 4) qYes swE [some (.tuple (zs.map .str)), some (.str x), some (.str n), some (.str f.head), none] (zs.map .str) s else none) = _
        rw [if_pos (by rw [List.length_map]; exact szL (by omega)), sw_row]
      refine ⟨_, _, hl, ?_⟩
      rw [h5]
      exact ⟨rfl, rfl⟩
    cases f with
    | least a b =>
      simp_arith [Fo.isFL]
      refine k_ret ?_
      walk_at "E"
      first | exact ⟨rfl, rfl⟩ | rfl
    | fals =>
      simp_arith [Fo.isFL]
      refine k_ret ?_
      walk_at "E"
      first | exact ⟨rfl, rfl⟩ | rfl
    | is t k =>
      have hne : ¬ k = x := fun e => hk.2.2 (by rw [e]; exact hx)
      simp_arith [Fo.isFL]
      exact k_nx (tst (zs := [Str.ofString "is", t, k]) (ws := []) rfl rfl rfl (by simp) (by simp only [List.map_cons, List.map_nil, if_neg l1, if_neg hne]; rfl))
    | does e t u =>
      have hne : ¬ e = x := fun e' => hk.2.2.2 (by rw [e']; exact hx)
      simp_arith [Fo.isFL]
      exact k_nx (tst (zs := [Str.ofString "does", e, t, u]) (ws := []) rfl rfl rfl (by simp) (by simp only [List.map_cons, List.map_nil, if_neg l2, if_neg hne]; rfl))
    | same t u =>
      simp_arith [Fo.isFL]
      exact k_nx (tst (zs := [Str.ofString "same", t, u]) (ws := []) rfl rfl rfl (by simp) (by simp only [List.map_cons, List.map_nil, if_neg l3]; rfl))
    | qu w y f =>
      have hd : f.dep + 1 < m + 1 := h
      have ih := lp_eq x n hx f m s hk.2.1 (by omega)
      simp_arith [Fo.isFL]
      refine k_nx (k_seq (k_sIf ?_))
      simp_arith [h_t, Fo.isT]
      refine k_nx (k_seq (k_sIf ?_))
      simp_arith [h_q, Fo.isQ]
      have q1 : pIx (Fo.qu w y f).d (.int 1) = some (.str y) := v_ix1
      have q2 : pIx (Fo.qu w y f).d (.int 2) = some f.d := v_ix2
      refine k_seq (k_sIf ?_)
      simp_arith [q1]
      by_cases e : y = x
      · have ep : (Fo.qu w y f).put x n = .qu w y f := by unfold Fo.put; rw [if_pos e]
        rw [ep]
        simp_arith [e]
        refine k_ret ?_
        walk_at "E"
      · have ep : (Fo.qu w y f).put x n = .qu w y (f.put x n) := by show (if y = x then _ else _) = _; rw [if_neg e]
        rw [ep]
        simp_arith [e]
        refine k_nx (k_ret ?_)
        simp_arith [q1, q2]
        refine ⟨_, _, ih, ?_⟩
        walk_at "E"
        first | exact ⟨rfl, rfl⟩ | rfl
    | no f =>
      have hd : f.dep + 1 < m + 1 := h
      have ih := lp_eq x n hx f m s hk (by omega)
      simp_arith [Fo.isFL]
      refine k_nx (k_seq (k_sIf ?_))
      simp_arith [h_t, Fo.isT]
      refine k_nx (k_seq (k_sIf ?_))
      simp_arith [h_q, Fo.isQ]
      refine k_nx (k_ret ?_)
      walk_at "E"
      have hl : lcF (S := S) (iOf asT (cSl pSl (cVar 0) (oOf (cK (.int 1))) oNo)) (gNm 4) qYes (cCall 3 (Flp m) (aCons (cVar 4) (aCons (cVar 1) (aCons (cVar 2) aNil)))) [4] [some (Fo.no f).d, some (.str x), some (.str n), some (.str (Fo.no f).head), none] s = some ([(f.put x n).d], s) := by
        have e1 : cCall 3 (Flp m) (aCons (cVar 4) (aCons (cVar 1) (aCons (cVar 2) aNil))) [some (Fo.no f).d, some (.str x), some (.str n), some (.str (Fo.no f).head), some f.d] s = some ((f.put x n).d, s) := by
          refine ok_eq ?_
          walk_at "E"
          exact ⟨_, _, ih, rfl, rfl⟩
        show compF (gNm 4) qYes (cCall 3 (Flp m) (aCons (cVar 4) (aCons (cVar 1) (aCons (cVar 2) aNil)))) [some (Fo.no f).d, some (.str x), some (.str n), some (.str (Fo.no f).head), none] [f.d] s = _
        show bnd (cCall 3 (Flp m) (aCons (cVar 4) (aCons (cVar 1) (aCons (cVar 2) aNil))) [some (Fo.no f).d, some (.str x), some (.str n), some (.str (Fo.no f).head), some f.d] s) (fun y s => bnd (some ([], s)) fun ys s => some (y :: ys, s)) = _
        rw [e1]
        rfl
      refine ⟨_, _, hl, ?_⟩
      exact ⟨_, rfl, rfl, rfl⟩
    | jn w f g =>
      have hd : max f.dep g.dep + 1 < m + 1 := h
      have ih := lp_eq x n hx f m s hk.1 (by omega)
      have ih2 := lp_eq x n hx g m s hk.2 (by omega)
      simp_arith [Fo.isFL]
      refine k_nx (k_seq (k_sIf ?_))
      simp_arith [h_t, Fo.isT]
      refine k_nx (k_seq (k_sIf ?_))
      simp_arith [h_q, Fo.isQ]
      refine k_nx (k_ret ?_)
      walk_at "E"
      have hl : lcF (S := S) (iOf asT (cSl pSl (cVar 0) (oOf (cK (.int 1))) oNo)) (gNm 4) qYes (cCall 3 (Flp m) (aCons (cVar 4) (aCons (cVar 1) (aCons (cVar 2) aNil)))) [4] [some (Fo.jn w f g).d, some (.str x), some (.str n), some (.str (Fo.jn w f g).head), none] s = some ([(f.put x n).d, (g.put x n).d], s) := by
        have e1 : ∀ (k : Fo), Flp m [k.d, .str x, .str n] s = some ((k.put x n).d, s) → cCall 3 (Flp m) (aCons (cVar 4) (aCons (cVar 1) (aCons (cVar 2) aNil))) [some (Fo.jn w f g).d, some (.str x), some (.str n), some (.str (Fo.jn w f g).head), some k.d] s = some ((k.put x n).d, s) := fun k ih => by
          refine ok_eq ?_
          walk_at "E"
          exact ⟨_, _, ih, rfl, rfl⟩
        show compF (gNm 4) qYes (cCall 3 (Flp m) (aCons (cVar 4) (aCons (cVar 1) (aCons (cVar 2) aNil)))) [some (Fo.jn w f g).d, some (.str x), some (.str n), some (.str (Fo.jn w f g).head), none] [f.d, g.d] s = _
        show bnd (cCall 3 (Flp m) (aCons (cVar 4) (aCons (cVar 1) (aCons (cVar 2) aNil))) [some (Fo.jn w f g).d, some (.str x), some (.str n), some (.str (Fo.jn w f g).head), some f.d] s) (fun y s => bnd (bnd (cCall 3 (Flp m) (aCons (cVar 4) (aCons (cVar 1) (aCons (cVar 2) aNil))) [some (Fo.jn w f g).d, some (.str x), some (.str n), some (.str (Fo.jn w f g).head), some g.d] s) fun y s => bnd (some ([], s)) fun ys s => some (y :: ys, s)) fun ys s => some (y :: ys, s)) = _
        rw [e1 f ih]
        show bnd (bnd (cCall 3 (Flp m) (aCons (cVar 4) (aCons (cVar 1) (aCons (cVar 2) aNil))) [some (Fo.jn w f g).d, some (.str x), some (.str n), some (.str (Fo.jn w f g).head), some g.d] s) fun y s => bnd (some ([], s)) fun ys s => some (y :: ys, s)) (fun ys s => some ((f.put x n).d :: ys, s)) = _
        rw [e1 g ih2]
        rfl
      refine ⟨_, _, hl, ?_⟩
      exact ⟨_, rfl, rfl, rfl⟩
end
end Lw30
set_option Elab.async false
set_option linter.all false
set_option maxRecDepth 100000
set_option maxHeartbeats 1000000
/-! letters, terms, sums, as equations -/
namespace Lw04
open PySem PySem.Spec L2 Dl Mx Ds Lw01 Lw41
section
variable {S : Type} {s : S}
abbrev figS : Str := Str.ofString "0123456789"
abbrev uvS : Str := Str.ofString "uvwxyz"
def letL : List Nat → Bool
  | [] => false
  | c :: r => decide (r.length ≤ 1) && (decide (c ∈ uvS.cps.toList) && inAll r figS)
theorem letL_cons (c : Nat) (r : List Nat) : letL (c :: r) = (decide (r.length ≤ 1) && (decide (c ∈ uvS.cps.toList) && inAll r figS)) := rfl
def letB (z : Str) : Bool := letL z.cps.toList
theorem let_eq {z : Str} (hl : z.length ≤ 1000) : K_is_letter K_is_all_of [.str z] s = some (.bool (letB z), s) := by
  apply ok_eq
  unfold K_is_letter B_is_letter
  have hz : z.length ≤ sizeLine := szL (Nat.le_trans hl (by decide))
  have hzl : z.length = z.cps.toList.length := (Array.length_toList).symm
  have hle : pLen [PyData.str z] = some (.int (z.length : Int)) := by
    first | rfl | (simp only [pLen]; rw [if_pos hz]) | (unfold pLen; rw [if_pos hz])
  refine k_fn (k_seq (k_sIf ?_))
  simp_arith [isi_str (d := .str z) hl, hle]
  unfold letB
  cases e : z.cps.toList with
  | nil =>
    rw [e] at hzl
    have hzl : z.length = 0 := hzl
    simp_arith [hzl, show decide ((1 : Int) ≤ ((0 : Nat) : Int)) = false from rfl]
    refine k_ret ?_
    walk_at "E"
    rfl
  | cons c r =>
    rw [e] at hzl
    have hzl : z.length = r.length + 1 := hzl
    simp_arith [decide_eq_true (show (1 : Int) ≤ (z.length : Int) by omega)]
    by_cases h1 : r.length ≤ 1
    · simp_arith [decide_eq_true (show (z.length : Int) ≤ 2 by omega)]
      refine k_nx (k_ret ?_)
      have hix : pIx (.str z) (.int 0) = some (.str ⟨#[c]⟩) := by
        simp only [pIx]
        rw [if_pos hz, e, show atI (c :: r) 0 = some c from atI_nat (j := 0) rfl]
        rfl
      have hc := cut1 e
      simp_arith [hix, in_sign, v_slS hz, all_of_eq, ok_some]
      rw [hc]
      rw [letL_cons, decide_eq_true h1]
      by_cases h2 : c ∈ uvS.cps.toList
      · rw [decide_eq_true h2]
        walk_at "E"
        try rfl
      · rw [decide_eq_false h2]
        walk_at "E"
        try rfl
    · simp_arith [decide_eq_false (show ¬ (z.length : Int) ≤ 2 by omega)]
      refine k_ret ?_
      walk_at "E"
      rw [letL_cons, decide_eq_false h1]
      rfl
abbrev Pname : Fn S := K_is_name (K_is_small K_is_all_of)
abbrev Pkind : Fn S := K_is_kind (K_is_small K_is_all_of)
abbrev Plet : Fn S := K_is_letter K_is_all_of
abbrev Pterm : Fn S := K_is_term Plet Pname
abbrev Pwhole : Fn S := K_is_whole_from K_is_whole
abbrev Pshare : Fn S := K_is_share Pwhole Pkind
abbrev Psum : Fn S := K_is_sum Pshare Pwhole K_rises
def terB (z : Str) : Bool := nameB (.str z) || letB z
theorem ter_eq {z : Str} (hl : z.length ≤ 1000) : Pterm [.str z] s = some (.bool (terB z), s) := by
  apply ok_eq
  unfold Pterm K_is_term B_is_term
  refine k_fn (k_ret ?_)
  simp_arith [name_eq (d := .str z) hl, ok_some]
  unfold terB
  cases e : nameB (.str z) with
  | true => simp_arith [Bool.true_or]
  | false => simp_arith [let_eq hl, ok_some, Bool.false_or]
theorem whole_eq {i j : Int} : Pwhole [.int i, .int j] s = some (.bool (decide (j ≤ i)), s) := by
  apply ok_eq
  unfold Pwhole K_is_whole_from B_is_whole_from
  refine k_fn (k_ret ?_)
  walk_at "E"
  refine ⟨.bool true, s, ?_, ?_⟩
  · apply ok_eq
    unfold K_is_whole B_is_whole
    refine k_fn (k_ret ?_)
    simp_arith [show pIsi "int" (.int i) = some (.bool true) from rfl, show pIsi "bool" (.int i) = some (.bool false) from rfl]
  · walk_at "E"
/-! sums -/
theorem share_eq {p : Pt} (hl : p.1.length ≤ 1000) (hk : kindB (.str p.1) = true) (hn : 1 ≤ p.2) : Pshare [ptD p] s = some (.bool true, s) := by
  apply ok_eq
  unfold Pshare K_is_share B_is_share ptD
  refine k_fn (k_seq (k_sIf ?_))
  simp_arith [show pIsi "tuple" (.tuple [.str p.1, .int p.2]) = some (.bool true) from rfl]
  refine k_nx (k_ret ?_)
  simp_arith [kind_eq (d := .str p.1) hl, hk, ok_some, whole_eq, decide_eq_true hn]
theorem zip_pair : ∀ (xs ys : List Str), ∀ d ∈ zipD (xs.map .str) (ys.map .str), ∃ a b : Str, d = .tuple [.str a, .str b]
  | [], _, d, h => by simp [zipD] at h
  | _ :: _, [], d, h => by simp [zipD] at h
  | x :: xs, y :: ys, d, h => by
    have h : d = .tuple [.str x, .str y] ∨ d ∈ zipD (xs.map .str) (ys.map .str) := by simpa [zipD, pairD] using h
    exact h.elim (fun h => ⟨x, y, h⟩) (zip_pair xs ys d)
theorem rises_eqL {xs : List Str} : K_rises [.list (xs.map .str)] s = some (.bool (risS xs), s) := by
  apply ok_eq
  unfold K_rises B_rises
  refine k_fn (k_ret ?_)
  have hi : (iOfA pZip (aCons (cVar 0) (aCons (cSl pSl (cVar 0) (oOf (cK (.int 1))) oNo) aNil))) (startR 3 [.list (xs.map PyData.str)]) s = some (zipD (xs.map .str) ((xs.drop 1).map .str), s) := by
    apply ok_eqL
    simp_arith [v_slL]
    rw [show (1 : Int) = ((1 : Nat) : Int) from rfl, cutD_from, List.map_drop]
    first | exact ⟨_, rfl, rfl, rfl⟩ | exact ⟨_, rfl, rfl⟩ | rfl
  refine Ok.of (k_all (S := S) (t := gTp (gC (gNm 1) (gC (gNm 2) gN0))) (q := qYes) (f := cB pLt (cVar 1) (cVar 2)) (vs := [1, 2]) (fun _ => true) (fun d => match d with | .tuple [.str a, .str b] => ltS a b | _ => false) hi fun d hd => ?_) ⟨?_, rfl⟩
  · obtain ⟨a, b, rfl⟩ := zip_pair _ _ d hd
    exact ⟨_, rfl, rfl, fun _ => rfl⟩
  · rw [List.filter_eq_self.mpr (fun _ _ => rfl), List.map_drop]
    exact congrArg PyData.bool (zip_ris xs)
/-- a sum that is one -/
structure Sok (t : Tot) : Prop where
  k : ∀ p ∈ t.1, kindB (.str p.1) = true ∧ p.1.length ≤ 1000 ∧ 1 ≤ p.2
  r : risS (t.1.map (·.1)) = true
  n : 0 ≤ t.2
  l : t.1.length ≤ 100
theorem lc_kinds {ρ0 ρ1 ρ2 : Option D} : ∀ ps : List Pt, compF (gTp (gC (gNm 4) (gC (gNm 5) gN0))) qYes (cVar (S := S) 4) [ρ0, ρ1, ρ2, none, none, none] (ps.map ptD) s = some ((ps.map (·.1)).map .str, s)
  | [] => rfl
  | p :: ps => by
    show bnd (compF _ qYes _ _ (ps.map ptD) s) (fun ys s => some (.str p.1 :: ys, s)) = _
    rw [lc_kinds ps]
    rfl
theorem sum_eq04 {t : Tot} (h : Sok t) : Psum [totD t] s = some (.bool true, s) := by
  apply ok_eq
  unfold Psum K_is_sum B_is_sum totD
  refine k_fn (k_seq (k_sIf ?_))
  simp_arith [show pIsi "tuple" (.tuple [.tuple (t.1.map ptD), .int t.2]) = some (.bool true) from rfl]
  refine k_nx (k_seq (k_asg ?_))
  walk_at "E"
  refine ⟨_, rfl, ?_⟩
  refine k_seq (k_sIf ?_)
  simp_arith [show pIsi "tuple" (.tuple (t.1.map ptD)) = some (.bool true) from rfl]
  have hall : cQu false (iOf asT (cVar 1)) (gNm 3) qYes (cCall 1 (Pshare (S := S)) (aCons (cVar 3) aNil)) [3] [some (.tuple [.tuple (t.1.map ptD), .int t.2]), some (.tuple (t.1.map ptD)), some (.int t.2), none, none, none] s = some (.bool true, s) := by
    refine Eq.trans (k_all (S := S) (fun _ => true) (fun _ => true) (ds := t.1.map ptD) rfl fun d hd => ?_) ?_
    · obtain ⟨p, hp, rfl⟩ := List.mem_map.mp hd
      obtain ⟨h1, h2, h3⟩ := h.k p hp
      refine ⟨_, rfl, rfl, fun _ => ?_⟩
      refine ok_eq ?_
      walk_at "E"
      exact ⟨_, _, share_eq h2 h1 h3, rfl, rfl⟩
    · rw [List.filter_eq_self.mpr (fun _ _ => rfl), List.all_eq_true.mpr (fun _ _ => rfl)]
  refine Ok.of hall ?_
  walk_at "E"
  refine k_nx (k_ret ?_)
  walk_at "E"
  refine ⟨_, _, show lcF (iOf asT (cVar 1)) (gTp (gC (gNm 4) (gC (gNm 5) gN0))) qYes (cVar 4) [4, 5] [some (.tuple [.tuple (t.1.map ptD), .int t.2]), some (.tuple (t.1.map ptD)), some (.int t.2), none, none, none] s = some ((t.1.map (·.1)).map .str, s) from ?_, ?_⟩
  · have hl : (t.1.map ptD).length ≤ sizeLine := by rw [List.length_map]; exact szL (Nat.le_trans h.l (by decide))
    show (if (t.1.map ptD).length ≤ sizeLine then compF _ _ _ [some (.tuple [.tuple (t.1.map ptD), .int t.2]), some (.tuple (t.1.map ptD)), some (.int t.2), none, none, none] (t.1.map ptD) s else none) = _
    rw [if_pos hl]
    exact lc_kinds t.1
  · simp_arith [rises_eqL, h.r, whole_eq, decide_eq_true h.n, ok_some]
end
end Lw04
set_option Elab.async false
set_option linter.all false
set_option maxRecDepth 100000
set_option maxHeartbeats 1000000
/-! what a form is, as an equation -/
namespace Lw04
open PySem PySem.Spec L2 Dl Mx Ds Lw01 Lw41
open Lw30 (Fo Fo.d Fo.dep Fo.head Fo.row d_row head9)
section
variable {S : Type} {s : S}
theorem name_len {z : Str} (h : nameB (.str z) = true) : z.length ≤ 8 := by
  rw [nameB_str] at h
  have hz : z.length = z.cps.toList.length := (Array.length_toList).symm
  cases e : z.cps.toList with
  | nil => rw [e] at hz; rw [hz]; decide
  | cons c r =>
    rw [e] at h hz
    unfold nameL at h
    simp only [Bool.and_eq_true, decide_eq_true_eq] at h
    rw [hz, List.length_cons]
    omega
theorem let_len {z : Str} (h : letB z = true) : z.length ≤ 2 := by
  unfold letB at h
  have hz : z.length = z.cps.toList.length := (Array.length_toList).symm
  cases e : z.cps.toList with
  | nil => rw [e] at hz; rw [hz]; decide
  | cons c r =>
    rw [e] at h hz
    rw [letL_cons] at h
    simp only [Bool.and_eq_true, decide_eq_true_eq] at h
    rw [hz, List.length_cons]
    omega
theorem ter_len {z : Str} (h : terB z = true) : z.length ≤ 1000 := by
  unfold terB at h
  rw [Bool.or_eq_true] at h
  exact h.elim (fun h => Nat.le_trans (name_len h) (by decide)) fun h => Nat.le_trans (let_len h) (by decide)
theorem kind_len {z : Str} (h : kindB (.str z) = true) : z.length ≤ 1000 := by
  rw [kindB_str, smallB_str] at h
  simp only [Bool.and_eq_true, decide_eq_true_eq] at h
  omega
/-- a name is no letter -/
theorem name_let {z : Str} (h : nameB (.str z) = true) : letB z = false := by
  rw [nameB_str] at h
  unfold letB
  cases e : z.cps.toList with
  | nil => rfl
  | cons c r =>
    rw [e] at h
    unfold nameL at h
    simp only [Bool.and_eq_true, decide_eq_true_eq] at h
    rw [letL_cons]
    have hc : c ∉ uvS.cps.toList := fun hu => by
      have h1 : ∀ c ∈ (Str.ofString "ABCDEFGHIJKLMNOPQRSTUVWXYZ").cps.toList, c < 91 := by decide +kernel
      have h2 : ∀ c ∈ uvS.cps.toList, 91 ≤ c := by decide +kernel
      exact absurd (h1 c h.1) (Nat.not_lt.mpr (h2 c hu))
    rw [decide_eq_false hc, Bool.false_and, Bool.and_false]
def wf : Fo → Prop
  | .is t k => terB t = true ∧ kindB (.str k) = true
  | .does e t u => kindB (.str e) = true ∧ terB t = true ∧ terB u = true
  | .same t u => terB t = true ∧ terB u = true
  | .least a b => Sok a ∧ Sok b
  | .fals => True
  | .no f => wf f
  | .jn _ f g => wf f ∧ wf g
  | .qu _ x f => letB x = true ∧ wf f
section
variable {F : Fn S} {p : D}
abbrev Pfits (F : Fn S) : Fn S := K_fits F Pterm Plet Psum Pkind
theorem fit_F {b : Bool} (h : F [p] s = some (.bool b, s)) : Pfits F [.str (Str.ofString "F"), p] s = some (.bool b, s) := by
  refine ok_eq ?_
  unfold Pfits K_fits B_fits
  refine k_fn (k_seq (k_sIf ?_))
  walk_at "E"
  refine k_ret ?_
  walk_at "E"
  exact ⟨_, _, h, rfl, rfl⟩
theorem fit_t {z : Str} (h : terB z = true) : Pfits F [.str (Str.ofString "t"), .str z] s = some (.bool true, s) := by
  refine ok_eq ?_
  unfold Pfits K_fits B_fits
  refine k_fn (k_seq (k_sIf ?_))
  walk_at "E"
  rw [show decide (Str.ofString "t" = Str.ofString "F") = false from by decide +kernel]
  walk_at "E"
  refine k_nx (k_seq (k_sIf ?_))
  walk_at "E"
  refine k_ret ?_
  simp_arith [ter_eq (ter_len h), h, ok_some]
theorem fit_x {z : Str} (h : letB z = true) : Pfits F [.str (Str.ofString "x"), .str z] s = some (.bool true, s) := by
  refine ok_eq ?_
  unfold Pfits K_fits B_fits
  refine k_fn (k_seq (k_sIf ?_))
  walk_at "E"
  rw [show decide (Str.ofString "x" = Str.ofString "F") = false from by decide +kernel]
  walk_at "E"
  refine k_nx (k_seq (k_sIf ?_))
  walk_at "E"
  rw [show decide (Str.ofString "x" = Str.ofString "t") = false from by decide +kernel]
  walk_at "E"
  refine k_nx (k_seq (k_sIf ?_))
  walk_at "E"
  refine k_ret ?_
  simp_arith [let_eq (Nat.le_trans (let_len h) (by decide)), h, ok_some]
theorem fit_s {t : Tot} (h : Sok t) : Pfits F [.str (Str.ofString "s"), totD t] s = some (.bool true, s) := by
  refine ok_eq ?_
  unfold Pfits K_fits B_fits
  refine k_fn (k_seq (k_sIf ?_))
  walk_at "E"
  rw [show decide (Str.ofString "s" = Str.ofString "F") = false from by decide +kernel]
  walk_at "E"
  refine k_nx (k_seq (k_sIf ?_))
  walk_at "E"
  rw [show decide (Str.ofString "s" = Str.ofString "t") = false from by decide +kernel]
  walk_at "E"
  refine k_nx (k_seq (k_sIf ?_))
  walk_at "E"
  rw [show decide (Str.ofString "s" = Str.ofString "x") = false from by decide +kernel]
  walk_at "E"
  refine k_nx (k_seq (k_sIf ?_))
  walk_at "E"
  refine k_ret ?_
  simp_arith [sum_eq04 h, ok_some]
theorem fit_o {pl z : Str} (h1 : decide (pl = Str.ofString "F") = false) (h2 : decide (pl = Str.ofString "t") = false) (h3 : decide (pl = Str.ofString "x") = false) (h4 : decide (pl = Str.ofString "s") = false) (h : kindB (.str z) = true) : Pfits F [.str pl, .str z] s = some (.bool true, s) := by
  refine ok_eq ?_
  unfold Pfits K_fits B_fits
  refine k_fn (k_seq (k_sIf ?_))
  simp_arith [h1]
  refine k_nx (k_seq (k_sIf ?_))
  simp_arith [h2]
  refine k_nx (k_seq (k_sIf ?_))
  simp_arith [h3]
  refine k_nx (k_seq (k_sIf ?_))
  simp_arith [h4]
  refine k_nx (k_ret ?_)
  simp_arith [kind_eq (d := .str z) (kind_len h), h, ok_some]
end
def Fif : Nat → Fn S
  | 0 => fun _ _ => none
  | m + 1 => K_is_form (Pfits (Fif m))
theorem isform_eq {F : Fn S} {f : Fo} {pls : Str} {zs : List D} (hs : pDg t_SHAPES (.str f.head) = some (.str pls)) (hn : pls.length = f.row.length) (hm : pls.length ≤ 5) (hz : pZipS [.str pls, .tuple f.row] = some zs) (hr : ∀ d ∈ zs, ∃ pl p, d = .tuple [.str pl, p] ∧ Pfits F [.str pl, p] s = some (.bool true, s)) :
    K_is_form (Pfits F) [f.d] s = some (.bool true, s) := by
  refine ok_eq ?_
  unfold K_is_form B_is_form
  have hd := d_row f
  have hrow : pSl f.d (some 1) none = some (.tuple f.row) := by
    rw [d_row, v_slT, show (1 : Int) = ((1 : Nat) : Int) from rfl, cutD_from]
    rfl
  have htr : truth f.d = some true := by
    rw [d_row]
    first | rfl | (simp only [truth, nonD]; rfl)
  have hlen : pLen [f.d] = some (.int ((f.row.length + 1 : Nat) : Int)) := by rw [d_row]; rfl
  have hpl : pLen [PyData.str pls] = some (.int (pls.length : Int)) := v_lenS (szL (by omega))
  refine k_fn (k_seq (k_sIf ?_))
  simp_arith [Lw30.isi_fo, htr, head9, show pIsi "str" (.str f.head) = some (.bool true) from rfl]
  refine k_nx (k_seq (k_set ?_))
  simp_arith [head9]
  refine ⟨_, hs, ?_⟩
  refine k_seq (k_sIf ?_)
  simp_arith [hlen, hpl]
  rw [decide_eq_true (show ((pls.length : Nat) : Int) = ((f.row.length + 1 : Nat) : Int) - 1 by omega)]
  walk_at "E"
  refine k_nx (k_ret ?_)
  have hi : iOfA (S := S) pZipS (aCons (cVar 1) (aCons (cSl pSl (cVar 0) (oOf (cK (.int 1))) oNo) aNil)) [some f.d, some (.str pls), none, none] s = some (zs, s) := by
    refine ok_eqL ?_
    walk_at "E"
    first | exact ⟨_, hrow, _, hz, rfl⟩ | exact ⟨_, hrow, hz⟩ | exact ⟨_, hrow, hz, rfl⟩
  refine Ok.of (k_all (S := S) (fun _ => true) (fun _ => true) hi fun d hd => ?_) ⟨?_, rfl⟩
  · obtain ⟨pl, p, rfl, h⟩ := hr d hd
    refine ⟨_, rfl, rfl, fun _ => ?_⟩
    refine ok_eq ?_
    walk_at "E"
    exact ⟨_, _, h, rfl, rfl⟩
  · rw [List.filter_eq_self.mpr (fun _ _ => rfl), List.all_eq_true.mpr (fun _ _ => rfl)]
theorem row0 {F : Fn S} : ∀ d ∈ ([] : List D), ∃ pl p, d = .tuple [.str pl, p] ∧ Pfits F [.str pl, p] s = some (.bool true, s) := fun d h => nomatch h
theorem rowc {F : Fn S} {pl : Str} {p : D} {zs : List D} (h : Pfits F [.str pl, p] s = some (.bool true, s)) (hr : ∀ d ∈ zs, ∃ pl p, d = .tuple [.str pl, p] ∧ Pfits F [.str pl, p] s = some (.bool true, s)) :
    ∀ d ∈ (PyData.tuple [.str pl, p] :: zs), ∃ pl p, d = .tuple [.str pl, p] ∧ Pfits F [.str pl, p] s = some (.bool true, s) := fun d hd => by
  rcases List.mem_cons.mp hd with e | e
  · exact ⟨pl, p, e, h⟩
  · exact hr d e
theorem fit_k {F : Fn S} {z : Str} (h : kindB (.str z) = true) : Pfits F [.str (Str.ofString "k"), .str z] s = some (.bool true, s) := fit_o (by decide +kernel) (by decide +kernel) (by decide +kernel) (by decide +kernel) h
theorem fit_d {F : Fn S} {z : Str} (h : kindB (.str z) = true) : Pfits F [.str (Str.ofString "d"), .str z] s = some (.bool true, s) := fit_o (by decide +kernel) (by decide +kernel) (by decide +kernel) (by decide +kernel) h
theorem form_true : ∀ (f : Fo) (m : Nat) (s : S), wf f → f.dep < m → Fif m [f.d] s = some (.bool true, s)
  | f, 0, _, _, h => absurd h (Nat.not_lt_zero _)
  | .is t k, m + 1, s, w, h => isform_eq (f := .is t k) (pls := Str.ofString "tk") (zs := [.tuple [.str (Str.ofString "t"), .str t], .tuple [.str (Str.ofString "k"), .str k]]) rfl rfl (by decide +kernel) rfl (rowc (fit_t w.1) (rowc (fit_k w.2) row0))
  | .does e t u, m + 1, s, w, h => isform_eq (f := .does e t u) (pls := Str.ofString "dtt") (zs := [.tuple [.str (Str.ofString "d"), .str e], .tuple [.str (Str.ofString "t"), .str t], .tuple [.str (Str.ofString "t"), .str u]]) rfl rfl (by decide +kernel) rfl (rowc (fit_d w.1) (rowc (fit_t w.2.1) (rowc (fit_t w.2.2) row0)))
  | .same t u, m + 1, s, w, h => isform_eq (f := .same t u) (pls := Str.ofString "tt") (zs := [.tuple [.str (Str.ofString "t"), .str t], .tuple [.str (Str.ofString "t"), .str u]]) rfl rfl (by decide +kernel) rfl (rowc (fit_t w.1) (rowc (fit_t w.2) row0))
  | .least a b, m + 1, s, w, h => isform_eq (f := .least a b) (pls := Str.ofString "ss") (zs := [.tuple [.str (Str.ofString "s"), totD a], .tuple [.str (Str.ofString "s"), totD b]]) rfl rfl (by decide +kernel) rfl (rowc (fit_s w.1) (rowc (fit_s w.2) row0))
  | .fals, m + 1, s, w, h => isform_eq (f := .fals) (pls := Str.ofString "") (zs := []) rfl rfl (by decide +kernel) rfl row0
  | .no f, m + 1, s, w, h => by
    have hd : f.dep + 1 < m + 1 := h
    exact isform_eq (f := .no f) (pls := Str.ofString "F") (zs := [.tuple [.str (Str.ofString "F"), f.d]]) rfl rfl (by decide +kernel) rfl (rowc (fit_F (form_true f m s w (by omega))) row0)
  | .jn w f g, m + 1, s, k, h => by
    have hd : max f.dep g.dep + 1 < m + 1 := h
    exact isform_eq (f := .jn w f g) (pls := Str.ofString "FF") (zs := [.tuple [.str (Str.ofString "F"), f.d], .tuple [.str (Str.ofString "F"), g.d]]) (by cases w <;> rfl) rfl (by decide +kernel) rfl (rowc (fit_F (form_true f m s k.1 (by omega))) (rowc (fit_F (form_true g m s k.2 (by omega))) row0))
  | .qu w y f, m + 1, s, k, h => by
    have hd : f.dep + 1 < m + 1 := h
    exact isform_eq (f := .qu w y f) (pls := Str.ofString "xF") (zs := [.tuple [.str (Str.ofString "x"), .str y], .tuple [.str (Str.ofString "F"), f.d]]) (by cases w <;> rfl) rfl (by decide +kernel) rfl (rowc (fit_x k.1) (rowc (fit_F (form_true f m s k.2 (by omega))) row0))
end
end Lw04
set_option Elab.async false
set_option linter.all false
set_option maxRecDepth 100000
set_option maxHeartbeats 1000000
/-! all parts, all kinds of a form -/
namespace Lw38
open PySem PySem.Spec L2 Dl Mx Ds Lw01 Lw41
section
variable {S : Type} {s : S} {ρ : Rho} {f : Ev S} {Q : Rs → S → Prop}
theorem k_extT {i : Nat} {ds : List D} (hd : ρ[i]? = some (some (.list ds))) (h : Ok (f ρ s) fun d s => ∃ es, d = .tuple es ∧ ds.length + es.length ≤ sizeLine ∧ Q (.nx (ρ.set i (some (.list (ds ++ es))))) s) : Ok (sExtT i f ρ s) Q := by
  obtain ⟨d, s1, h1, es, rfl, h2, q⟩ := h
  refine ⟨_, s1, ?_, q⟩
  unfold sExtT
  rw [hd]
  simp only [h1, bnd]
  rw [if_pos h2]
theorem flat_len : ∀ (fs : List Fm), (fs.flatMap Fm.parts).length = (fs.map Fm.size).sum
  | [] => rfl
  | f :: fs => by rw [List.flatMap_cons, List.length_append, parts_len, flat_len fs]; rfl
theorem comp_id {a b c o : Option D} : ∀ ds : List D, compF (gNm 3) qYes (cVar 3) [a, b, c, o] ds s = some (ds, s)
  | [] => rfl
  | d :: ds => by
    show bnd (compF (gNm 3) qYes (cVar 3) [a, b, c, o] ds s) (fun ys s => some (d :: ys, s)) = _
    rw [comp_id ds]
    rfl
def Fm.kinds (f : Fm) : List Str := f.parts.flatMap Fm.kd
end
end Lw38
set_option Elab.async false
set_option linter.all false
set_option maxRecDepth 100000
set_option maxHeartbeats 1000000
/-! letters that are free, as an equation -/
namespace Lw04
open PySem PySem.Spec L2 Dl Mx Ds Lw01 Lw41
open Lw30 (Fo Fo.d Fo.dep Fo.head Fo.row Fo.bound d_row head9)
section
variable {S : Type} {s : S}
def terms : Fo → List Str
  | .is t _ => [t]
  | .does _ t u => [t, u]
  | .same t u => [t, u]
  | _ => []
def subs : Fo → List Fo
  | .no f => [f]
  | .jn _ f g => [f, g]
  | .qu _ _ f => [f]
  | _ => []
theorem piecesF (f : Fo) : K_pieces [f.d, .str (Str.ofString "F")] s = some (.list ((subs f).map Fo.d), s) := by
  cases f with
  | jn w f g => cases w <;> rfl
  | qu w x f => cases w <;> rfl
  | _ => rfl
theorem piecesT (f : Fo) : K_pieces [f.d, .str (Str.ofString "t")] s = some (.list ((terms f).map .str), s) := by
  cases f with
  | jn w f g => cases w <;> rfl
  | qu w x f => cases w <;> rfl
  | _ => rfl
def srt (b l : List Str) : List Str := sortS (gath (l.filter fun z => !decide (z ∈ b)))
def fr : Fo → List Str
  | .is t _ => srt [] ([t].filter letB)
  | .does _ t u => srt [] ([t, u].filter letB)
  | .same t u => srt [] ([t, u].filter letB)
  | .least _ _ => srt [] []
  | .fals => srt [] []
  | .no f => srt [] (fr f)
  | .jn _ f g => srt [] (fr f ++ fr g)
  | .qu _ x f => srt [x] (fr f)
def cnt : Fo → Nat
  | .is _ _ => 1
  | .does _ _ _ => 2
  | .same _ _ => 2
  | .least _ _ => 0
  | .fals => 0
  | .no f => cnt f
  | .jn _ f g => cnt f + cnt g
  | .qu _ _ f => cnt f
theorem mem_srt {b l : List Str} {z : Str} : z ∈ srt b l ↔ z ∈ l ∧ z ∉ b := by
  unfold srt
  rw [(sortS_perm _).mem_iff, gath_mem, List.mem_filter]
  simp
theorem comp_keep {t : Tg} {q : Et S} {f : Ev S} {ρ : Rho} (p : Str → Bool) : ∀ xs : List Str, (∀ x ∈ xs, ∃ ρ1, t (.str x) ρ = some ρ1 ∧ q ρ1 s = some (p x, s) ∧ f ρ1 s = some (.str x, s)) → compF t q f ρ (xs.map .str) s = some ((xs.filter p).map .str, s)
  | [], _ => rfl
  | x :: xs, h => by
    obtain ⟨ρ1, h1, h2, h3⟩ := h x List.mem_cons_self
    have ih := comp_keep p xs fun y hy => h y (List.mem_cons_of_mem _ hy)
    show (match t (.str x) ρ with | none => none | some ρ1 => bnd (q ρ1 s) fun b s => if b = true then bnd (f ρ1 s) fun y s => bnd (compF t q f ρ (xs.map .str) s) fun ys s => some (y :: ys, s) else compF t q f ρ (xs.map .str) s) = _
    rw [h1]
    show bnd (q ρ1 s) _ = _
    rw [h2]
    show (if p x = true then bnd (f ρ1 s) _ else _) = _
    cases e : p x with
    | true =>
      rw [if_pos rfl, h3, List.filter_cons_of_pos e]
      show bnd (compF t q f ρ (xs.map .str) s) _ = _
      rw [ih]
      rfl
    | false => rw [if_neg (by simp), ih, List.filter_cons_of_neg (by simp [e])]
theorem ter_of {f : Fo} (w : wf f) : ∀ t ∈ terms f, terB t = true := fun t ht => by
  cases f with
  | is a b => have e : t = a := by simpa [terms] using ht
              rw [e]; exact w.1
  | does a b c => have e : t = b ∨ t = c := by simpa [terms] using ht
                  exact e.elim (fun e => by rw [e]; exact w.2.1) fun e => by rw [e]; exact w.2.2
  | same b c => have e : t = b ∨ t = c := by simpa [terms] using ht
                exact e.elim (fun e => by rw [e]; exact w.1) fun e => by rw [e]; exact w.2
  | _ => simp [terms] at ht
end
end Lw04
set_option Elab.async false
set_option linter.all false
set_option maxRecDepth 100000
set_option maxHeartbeats 1000000
namespace Lw04
open PySem PySem.Spec L2 Dl Mx Ds Lw01 Lw41
open Lw30 (Fo Fo.d Fo.dep Fo.head Fo.row Fo.bound d_row head9)
section
variable {S : Type} {s : S}
end
end Lw04
set_option Elab.async false
set_option linter.all false
set_option maxRecDepth 100000
set_option maxHeartbeats 1000000
/-! all parts, names, as equations -/
namespace Lw04
open PySem PySem.Spec L2 Dl Mx Ds Lw01 Lw41
open Lw30 (Fo Fo.d Fo.dep Fo.head Fo.row Fo.bound d_row head9)
section
variable {S : Type} {s : S}
def parts : Fo → List Fo
  | .no f => .no f :: parts f
  | .jn w f g => .jn w f g :: (parts f ++ parts g)
  | .qu w x f => .qu w x f :: parts f
  | .is t k => [.is t k]
  | .does e t u => [.does e t u]
  | .same t u => [.same t u]
  | .least a b => [.least a b]
  | .fals => [.fals]
theorem parts_all (f : Fo) : parts f = f :: (subs f).flatMap parts := by cases f <;> simp [parts, subs]
def Fpa : Nat → Fn S
  | 0 => fun _ _ => none
  | m + 1 => K_parts_of K_pieces (Fpa m)
theorem sub_parts {f g : Fo} (h : g ∈ subs f) : (parts g).length ≤ (parts f).length := by
  rw [parts_all f, List.length_cons]
  have : (parts g).length ≤ ((subs f).flatMap parts).length := by
    cases f with
    | no a => have e : g = a := by simpa [subs] using h
              rw [e]; simp [subs]
    | qu q x a => have e : g = a := by simpa [subs] using h
                  rw [e]; simp [subs]
    | jn j a b => have e : g = a ∨ g = b := by simpa [subs] using h
                  rcases e with e | e <;> rw [e] <;> simp [subs]
    | _ => simp [subs] at h
  omega
theorem sub_dep {f g : Fo} (h : g ∈ subs f) : g.dep < f.dep := by
  cases f with
  | no a => have e : g = a := by simpa [subs] using h
            rw [e]; exact Nat.lt_succ_self _
  | qu q x a => have e : g = a := by simpa [subs] using h
                rw [e]; exact Nat.lt_succ_self _
  | jn j a b => have e : g = a ∨ g = b := by simpa [subs] using h
                rcases e with e | e
                · rw [e]; exact Nat.lt_succ_of_le (Nat.le_max_left _ _)
                · rw [e]; exact Nat.lt_succ_of_le (Nat.le_max_right _ _)
  | _ => simp [subs] at h
theorem take_parts (fs : List Fo) (j : Nat) : ((fs.take j).flatMap parts).length ≤ (fs.flatMap parts).length := by
  have h : fs.flatMap parts = (fs.take j).flatMap parts ++ (fs.drop j).flatMap parts := by rw [← List.flatMap_append, List.take_append_drop]
  rw [h, List.length_append]
  omega
theorem pa_eq : ∀ (m : Nat) (f : Fo) (s : S), f.dep < m → (parts f).length ≤ 1000 → Fpa m [f.d] s = some (.tuple ((parts f).map Fo.d), s)
  | 0, f, s, h, _ => absurd h (Nat.not_lt_zero _)
  | m + 1, f, s, hd, hz => by
    refine ok_eq ?_
    unfold Fpa K_parts_of B_parts_of
    refine k_fn (k_seq (k_own ?_))
    walk_at "E"
    refine k_seq (k_forP (fun ds s' => ds = (subs f).map Fo.d ∧ s' = s) ?_ ?_)
    · walk_at "E"
      refine ⟨_, _, piecesF f, ?_⟩
      walk_at "E"
    · rintro ds s1 ⟨rfl, rfl⟩
      refine ⟨fun j ρ s' => ∃ o, ρ = [some f.d, some (.list ((f :: ((subs f).take j).flatMap parts).map Fo.d)), o] ∧ s' = s1, ⟨none, rfl, rfl⟩, ?_, ?_⟩
      · rintro j d ρ s2 hj ⟨o, rfl, rfl⟩
        rw [List.getElem?_map, Option.map_eq_some_iff] at hj
        obtain ⟨g, hg, rfl⟩ := hj
        have hm : g ∈ subs f := List.mem_of_getElem? hg
        have h3 := sub_parts hm
        have h4 := sub_dep hm
        refine ⟨_, rfl, ?_⟩
        refine Lw38.k_extT rfl ?_
        walk_at "E"
        refine ⟨_, _, pa_eq m g s2 (by omega) (by omega), _, rfl, ?_, ?_⟩
        · have h5 := take_parts (subs f) j
          have hz2 := hz
          rw [parts_all f, List.length_cons] at hz2
          rw [List.length_map, List.length_map]
          exact szL (by omega)
        · refine ⟨some g.d, ?_, rfl⟩
          rw [take_snoc hg, List.flatMap_append]
          simp only [List.flatMap_cons, List.flatMap_nil, List.append_nil, List.map_cons, List.map_append, List.cons_append]
      · rintro ρ s2 ⟨o, rfl, rfl⟩
        rw [List.length_map, List.take_length, ← parts_all]
        refine k_ret ?_
        walk_at "E"
def alls (f : Fo) : List Str := (parts f).flatMap terms
theorem comp2_t {a o p : Option D} : ∀ fs : List Fo, compF2 (gNm 2) qYes (iOf asL (cCall 2 K_pieces (aCons (cVar 2) (aCons (cVar 1) aNil)))) (gNm 3) qYes (cVar 3) [3] [a, some (.str (Str.ofString "t")), o, p] (fs.map Fo.d) s = some ((fs.flatMap terms).map .str, s)
  | [] => rfl
  | f :: fs => by
    show bnd (iOf asL (cCall 2 K_pieces (aCons (cVar 2) (aCons (cVar 1) aNil))) [a, some (.str (Str.ofString "t")), some f.d, p] s) (fun xs s => bnd (compF (gNm 3) qYes (cVar 3) [a, some (.str (Str.ofString "t")), some f.d, none] xs s) fun ys s => bnd (compF2 (gNm 2) qYes (iOf asL (cCall 2 K_pieces (aCons (cVar 2) (aCons (cVar 1) aNil)))) (gNm 3) qYes (cVar 3) [3] [a, some (.str (Str.ofString "t")), o, p] (fs.map Fo.d) s) fun zs s => some (ys ++ zs, s)) = _
    have e1 : iOf asL (cCall 2 K_pieces (aCons (cVar 2) (aCons (cVar 1) aNil))) [a, some (.str (Str.ofString "t")), some f.d, p] s = some ((terms f).map .str, s) := by
      refine ok_eqL ?_
      walk_at "E"
      exact ⟨_, _, piecesT f, by walk_at "E"⟩
    rw [e1]
    show bnd (compF (gNm 3) qYes (cVar 3) [a, some (.str (Str.ofString "t")), some f.d, none] ((terms f).map .str) s) _ = _
    rw [Lw38.comp_id]
    show bnd (compF2 (gNm 2) qYes (iOf asL (cCall 2 K_pieces (aCons (cVar 2) (aCons (cVar 1) aNil)))) (gNm 3) qYes (cVar 3) [3] [a, some (.str (Str.ofString "t")), o, p] (fs.map Fo.d) s) _ = _
    rw [comp2_t fs]
    show some ((terms f).map PyData.str ++ (fs.flatMap terms).map PyData.str, s) = _
    rw [List.flatMap_cons, List.map_append]
theorem alls_cnt : ∀ f : Fo, (alls f).length = cnt f
  | .is _ _ => rfl
  | .does _ _ _ => rfl
  | .same _ _ => rfl
  | .least _ _ => rfl
  | .fals => rfl
  | .no f => by show ((parts f).flatMap terms).length = cnt f; exact alls_cnt f
  | .jn w f g => by
    have h1 := alls_cnt f
    have h2 := alls_cnt g
    unfold alls at h1 h2 ⊢
    show ((parts f ++ parts g).flatMap terms).length = cnt f + cnt g
    rw [List.flatMap_append, List.length_append, h1, h2]
  | .qu _ _ f => by show ((parts f).flatMap terms).length = cnt f; exact alls_cnt f
theorem all_t {m : Nat} {f : Fo} (hd : f.dep < m) (hz : (parts f).length ≤ 1000) (hc : cnt f ≤ 200) : K_all_pieces (Fpa m) K_pieces [f.d, .str (Str.ofString "t")] s = some (.list ((alls f).map .str), s) := by
  refine ok_eq ?_
  unfold K_all_pieces B_all_pieces
  refine k_fn (k_ret ?_)
  walk_at "E"
  refine ⟨_, s, ?_, rfl, rfl⟩
  unfold lcF2
  have e1 : iOf asT (cCall 1 (Fpa m) (aCons (cVar 0) aNil)) [some f.d, some (.str (Str.ofString "t")), none, none] s = some ((parts f).map Fo.d, s) := by
    refine ok_eqL ?_
    walk_at "E"
    exact ⟨_, _, pa_eq m f s hd hz, by walk_at "E"⟩
  rw [e1]
  show bnd (compF2 (gNm 2) qYes (iOf asL (cCall 2 K_pieces (aCons (cVar 2) (aCons (cVar 1) aNil)))) (gNm 3) qYes (cVar 3) [3] [some f.d, some (.str (Str.ofString "t")), none, none] ((parts f).map Fo.d) s) _ = _
  rw [comp2_t]
  show (if (((parts f).flatMap terms).map PyData.str).length ≤ sizeLine then _ else _) = _
  have h1 := alls_cnt f
  unfold alls at h1
  rw [if_pos (by rw [List.length_map]; exact szL (by omega))]
  rfl
theorem alls_ter : ∀ f : Fo, wf f → ∀ t ∈ alls f, terB t = true
  | .is a b, w, t, h => ter_of (f := .is a b) w t (by simpa [alls, parts] using h)
  | .does a b c, w, t, h => ter_of (f := .does a b c) w t (by simpa [alls, parts] using h)
  | .same a b, w, t, h => ter_of (f := .same a b) w t (by simpa [alls, parts] using h)
  | .least a b, w, t, h => ter_of (f := .least a b) w t (by simpa [alls, parts] using h)
  | .fals, w, t, h => ter_of (f := .fals) w t (by simpa [alls, parts] using h)
  | .no f, w, t, h => alls_ter f w t (by simpa [alls, parts, terms] using h)
  | .jn j f g, w, t, h => by
    have h : t ∈ alls f ∨ t ∈ alls g := by
      have h2 : t ∈ (parts f ++ parts g).flatMap terms := by simpa [alls, parts, terms] using h
      rw [List.flatMap_append, List.mem_append] at h2
      exact h2
    exact h.elim (alls_ter f w.1 t) (alls_ter g w.2 t)
  | .qu _ _ f, w, t, h => alls_ter f w.2 t (by simpa [alls, parts, terms] using h)
abbrev Fno (m : Nat) : Fn S := K_names_of (K_all_pieces (Fpa m) K_pieces) Pname
def nms (f : Fo) : List Str := sortS (gath ((alls f).filter fun z => nameB (.str z)))
theorem no_eq {m : Nat} {f : Fo} (hd : f.dep < m) (w : wf f) (hz : (parts f).length ≤ 1000) (hc : cnt f ≤ 200) : Fno m [f.d] s = some (.tuple ((nms f).map .str), s) := by
  refine ok_eq ?_
  unfold Fno K_names_of B_names_of
  refine k_fn (k_ret ?_)
  have hx : xSc (iOf asL (cCall 2 (K_all_pieces (Fpa m) K_pieces) (aCons (cVar 0) (aCons (cK (.str (Str.ofString "t"))) aNil)))) (gNm 1) (qT (cCall 1 (Pname (S := S)) (aCons (cVar 1) aNil))) (cVar 1) [1] [some f.d, none] s = some (gath ((alls f).filter fun z => nameB (.str z)), s) := by
    have hi : iOf asL (cCall 2 (K_all_pieces (Fpa m) K_pieces) (aCons (cVar 0) (aCons (cK (.str (Str.ofString "t"))) aNil))) [some f.d, none] s = some ((alls f).map .str, s) := by
      refine ok_eqL ?_
      walk_at "E"
      exact ⟨_, _, all_t hd hz hc, by walk_at "E"⟩
    have hl := alls_cnt f
    unfold xSc lcF
    rw [hi]
    show bnd (if ((alls f).map PyData.str).length ≤ sizeLine then compF _ _ _ [some f.d, none] ((alls f).map PyData.str) s else none) _ = _
    rw [if_pos (by rw [List.length_map]; exact szL (by omega)), comp_keep (fun z => nameB (.str z)) _ fun x hx => ⟨_, rfl, ?_, rfl⟩]
    · show (match dStrs (List.map PyData.str _) with | some xs => if xs.length ≤ 1000 then some (gath xs, s) else none | none => none) = _
      rw [dStrs_map]
      show (if _ then _ else _) = _
      rw [if_pos]
      exact Nat.le_trans (List.length_filter_le _ _) (by omega)
    · have e : cCall 1 (Pname (S := S)) (aCons (cVar 1) aNil) [some f.d, some (.str x)] s = some (.bool (nameB (.str x)), s) := by
        refine ok_eq ?_
        simp_arith [name_eq (d := .str x) (ter_len (alls_ter f w x hx)), ok_some]
      show qT (cCall 1 (Pname (S := S)) (aCons (cVar 1) aNil)) [some f.d, some (.str x)] s = _
      unfold qT
      rw [e]
      rfl
  have hs : aSortX (xSc (iOf asL (cCall 2 (K_all_pieces (Fpa m) K_pieces) (aCons (cVar 0) (aCons (cK (.str (Str.ofString "t"))) aNil)))) (gNm 1) (qT (cCall 1 (Pname (S := S)) (aCons (cVar 1) aNil))) (cVar 1) [1]) [some f.d, none] s = some ((nms f).map .str, s) := by
    unfold aSortX
    rw [hx]
    rfl
  walk_at "E"
  refine ⟨_, _, hs, ?_⟩
  walk_at "E"
end
end Lw04
set_option Elab.async false
set_option linter.all false
set_option maxRecDepth 100000
set_option maxHeartbeats 1000000
/-! what a put leaves of letters and names -/
namespace Lw04
open PySem PySem.Spec L2 Dl Mx Ds Lw01 Lw41
open Lw30 (Fo Fo.d Fo.dep Fo.head Fo.row Fo.bound d_row head9 Fo.put)
def fv (z : Str) : Fo → Prop
  | .is t _ => z = t
  | .does _ t u => z = t ∨ z = u
  | .same t u => z = t ∨ z = u
  | .least _ _ => False
  | .fals => False
  | .no f => fv z f
  | .jn _ f g => fv z f ∨ fv z g
  | .qu _ x f => fv z f ∧ z ≠ x
theorem mem_fr {z : Str} : ∀ f : Fo, z ∈ fr f ↔ letB z = true ∧ fv z f
  | .is t k => by unfold fr fv; rw [mem_srt, List.mem_filter]; simp; constructor <;> (rintro ⟨h, k⟩; exact ⟨k, h⟩)
  | .does e t u => by unfold fr fv; rw [mem_srt, List.mem_filter]; simp; constructor <;> (rintro ⟨h, k⟩; exact ⟨k, h⟩)
  | .same t u => by unfold fr fv; rw [mem_srt, List.mem_filter]; simp; constructor <;> (rintro ⟨h, k⟩; exact ⟨k, h⟩)
  | .least a b => by unfold fr fv; rw [mem_srt]; simp
  | .fals => by unfold fr fv; rw [mem_srt]; simp
  | .no f => by unfold fr fv; rw [mem_srt, mem_fr f]; simp
  | .jn w f g => by
    unfold fr fv; rw [mem_srt, List.mem_append, mem_fr f, mem_fr g]; simp
    constructor
    · rintro (⟨h, k⟩ | ⟨h, k⟩)
      · exact ⟨h, .inl k⟩
      · exact ⟨h, .inr k⟩
    · rintro ⟨h, k | k⟩
      · exact .inl ⟨h, k⟩
      · exact .inr ⟨h, k⟩
  | .qu w x f => by
    unfold fr fv; rw [mem_srt, mem_fr f]; simp [and_assoc]
/-! rows that rise are alike where their members are -/
theorem mem_nms {f : Fo} {z : Str} : z ∈ nms f ↔ nameB (.str z) = true ∧ z ∈ alls f := by
  unfold nms
  rw [(sortS_perm _).mem_iff, gath_mem, List.mem_filter]
  exact and_comm
/-! what a put keeps -/
theorem ter_if {t x n : Str} (hn : nameB (.str n) = true) (ht : terB t = true) : terB (if t = x then n else t) = true := by
  split
  · unfold terB; rw [hn]; rfl
  · exact ht
theorem wf_put {x n : Str} (hn : nameB (.str n) = true) : ∀ f : Fo, wf f → wf (f.put x n)
  | .is t k, h => ⟨ter_if hn h.1, h.2⟩
  | .does e t u, h => ⟨h.1, ter_if hn h.2.1, ter_if hn h.2.2⟩
  | .same t u, h => ⟨ter_if hn h.1, ter_if hn h.2⟩
  | .least a b, h => h
  | .fals, h => h
  | .no f, h => wf_put hn f h
  | .jn w f g, h => ⟨wf_put hn f h.1, wf_put hn g h.2⟩
  | .qu w y f, h => by
    unfold Fo.put
    split
    · exact h
    · exact ⟨h.1, wf_put hn f h.2⟩
theorem cnt_put (x n : Str) : ∀ f : Fo, cnt (f.put x n) = cnt f
  | .is t k => rfl
  | .does e t u => rfl
  | .same t u => rfl
  | .least a b => rfl
  | .fals => rfl
  | .no f => cnt_put x n f
  | .jn w f g => by show cnt (f.put x n) + cnt (g.put x n) = cnt f + cnt g; rw [cnt_put x n f, cnt_put x n g]
  | .qu w y f => by
    unfold Fo.put
    split
    · rfl
    · exact cnt_put x n f
theorem prt_put (x n : Str) : ∀ f : Fo, (parts (f.put x n)).length = (parts f).length
  | .is t k => rfl
  | .does e t u => rfl
  | .same t u => rfl
  | .least a b => rfl
  | .fals => rfl
  | .no f => congrArg Nat.succ (prt_put x n f)
  | .jn w f g => by
    show (parts (f.put x n) ++ parts (g.put x n)).length + 1 = (parts f ++ parts g).length + 1
    rw [List.length_append, List.length_append, prt_put x n f, prt_put x n g]
  | .qu w y f => by
    unfold Fo.put
    split
    · rfl
    · exact congrArg Nat.succ (prt_put x n f)
end Lw04
set_option Elab.async false
set_option linter.all false
set_option maxRecDepth 100000
set_option maxHeartbeats 1000000
/-! the program's put and the law's -/
namespace Lw04
open PySem PySem.Spec L2 Dl Mx Ds Lw01 Lw41
open Lw30 (Fo Fo.d Fo.dep Fo.head Fo.row Fo.bound d_row head9 Fo.put Fo.isQ h_q)
section
variable {S : Type} {s : S}
def Fpf : Nat → Fn S
  | 0 => fun _ _ => none
  | m + 1 => K_put_for K_pieces (K_put_at (Fpf m))
theorem fpf_eq : ∀ m : Nat, (Fpf m : Fn S) = Lw30.Fpf m
  | 0 => rfl
  | m + 1 => by
    show K_put_for K_pieces (K_put_at (Fpf m)) = Lw30.K_put_for Lw30.K_pieces (Lw30.K_put_at (Lw30.Fpf m))
    rw [fpf_eq m]
    rfl
theorem pf_eq (x n : Str) (f : Fo) {m : Nat} (h : f.dep < m) : Fpf m [f.d, .str x, .str n] s = some ((f.put x n).d, s) := by
  rw [fpf_eq]
  exact Lw30.pf_eq x n f m s h
def isJ : Fo → Bool
  | .no _ => true
  | .jn _ _ _ => true
  | _ => false
abbrev jS : List Str := [Str.ofString "not", Str.ofString "and", Str.ofString "or", Str.ofString "if"]
theorem h_j (f : Fo) : pIn (.str f.head) (.tuple [.str (Str.ofString "not"), .str (Str.ofString "and"), .str (Str.ofString "or"), .str (Str.ofString "if")]) = some (.bool (isJ f)) := by
  show pIn (.str f.head) (.tuple (jS.map .str)) = _
  rw [in_strs]
  congr 2
  cases f with
  | is t k => show decide (Str.ofString "is" ∈ jS) = false; decide +kernel
  | does e t k => show decide (Str.ofString "does" ∈ jS) = false; decide +kernel
  | same t k => show decide (Str.ofString "same" ∈ jS) = false; decide +kernel
  | least a b => show decide (Str.ofString "least" ∈ jS) = false; decide +kernel
  | fals => show decide (Str.ofString "false" ∈ jS) = false; decide +kernel
  | no f => show decide (Str.ofString "not" ∈ jS) = true; decide +kernel
  | jn w f g => show decide (w.s ∈ jS) = true; cases w <;> decide +kernel
  | qu w x f => show decide (w.s ∈ jS) = false; cases w <;> decide +kernel
def isL : Fo → Bool
  | .least _ _ => true
  | _ => false
theorem h_l (f : Fo) : decide (f.head = Str.ofString "least") = isL f := by
  cases f with
  | is t k => show decide (Str.ofString "is" = Str.ofString "least") = false; decide +kernel
  | does e t k => show decide (Str.ofString "does" = Str.ofString "least") = false; decide +kernel
  | same t k => show decide (Str.ofString "same" = Str.ofString "least") = false; decide +kernel
  | least a b => show decide (Str.ofString "least" = Str.ofString "least") = true; decide +kernel
  | fals => show decide (Str.ofString "false" = Str.ofString "least") = false; decide +kernel
  | no f => show decide (Str.ofString "not" = Str.ofString "least") = false; decide +kernel
  | jn w f g => show decide (w.s = Str.ofString "least") = false; cases w <;> decide +kernel
  | qu w x f => show decide (w.s = Str.ofString "least") = false; cases w <;> decide +kernel
def Flp : Nat → Fn S
  | 0 => fun _ _ => none
  | m + 1 => K_w_put (Flp m)
abbrev putBody (F : Fn S) : Sv S := (sIf (qT (cB pIn (cB pIx (cVar 0) (cK (.int 0))) (cN pTup (aCons (cK (.str "not")) (aCons (cK (.str "and")) (aCons (cK (.str "or")) (aCons (cK (.str "if")) aNil)))))))
      (sApp 3 (cCall 3 F (aCons (cVar 4) (aCons (cVar 1) (aCons (cVar 2) aNil)))))
      (sIf (qOr (qT (cB pEq (cB pIx (cVar 0) (cK (.int 0))) (cK (.str "least")))) (qT (cB pNe (cVar 4) (cVar 1))))
        (sApp 3 (cVar 4))
        (sApp 3 (cVar 2))))
/-- a turn of the loop -/
def Turns (F : Fn S) (f : Fo) (x n : Str) (s : S) (d e : D) : Prop := ∀ acc : List D, acc.length ≤ 5 → Ok (putBody F [some f.d, some (.str x), some (.str n), some (.list acc), some d] s) fun r s' => r = .nx [some f.d, some (.str x), some (.str n), some (.list (acc ++ [e])), some d] ∧ s' = s
theorem turn_j {F : Fn S} {f : Fo} {x n : Str} {d e : D} (h : isJ f = true) (hF : F [d, .str x, .str n] s = some (e, s)) : Turns F f x n s d e := fun acc hl => by
  unfold putBody
  refine k_sIf ?_
  simp_arith [head9, h_j, h]
  refine k_app rfl (show acc.length < sizeLine from Nat.lt_of_le_of_lt hl (by decide)) ?_
  walk_at "E"
  exact ⟨_, _, hF, rfl, rfl⟩
theorem turn_l {F : Fn S} {f : Fo} {x n : Str} {d : D} (h : isJ f = false) (h2 : isL f = true) : Turns F f x n s d d := fun acc hl => by
  unfold putBody
  refine k_sIf ?_
  simp_arith [head9, h_j, h]
  refine k_sIf ?_
  simp_arith [head9, h_l, h2]
  refine k_app rfl (show acc.length < sizeLine from Nat.lt_of_le_of_lt hl (by decide)) ?_
  walk_at "E"
theorem turn_t {F : Fn S} {f : Fo} {x n z : Str} (h : isJ f = false) (h2 : isL f = false) : Turns F f x n s (.str z) (.str (if z = x then n else z)) := fun acc hl => by
  unfold putBody
  refine k_sIf ?_
  simp_arith [head9, h_j, h]
  refine k_sIf ?_
  simp_arith [head9, h_l, h2]
  by_cases e : z = x
  · simp_arith [e]
    refine k_app rfl (show acc.length < sizeLine from Nat.lt_of_le_of_lt hl (by decide)) ?_
    walk_at "E"
  · simp_arith [e]
    refine k_app rfl (show acc.length < sizeLine from Nat.lt_of_le_of_lt hl (by decide)) ?_
    walk_at "E"
theorem row_len (f : Fo) : f.row.length ≤ 3 := by cases f <;> simp [Fo.row]
theorem lp_row {m : Nat} {f g : Fo} {x n : Str} (hq : f.isQ = false) (hh : g.head = f.head) (hl : g.row.length = f.row.length) (ht : ∀ (j : Nat) (d : D), f.row[j]? = some d → ∃ e : D, g.row[j]? = some e ∧ Turns (Flp m) f x n s d e) : Flp (m + 1) [f.d, .str x, .str n] s = some (g.d, s) := by
  refine ok_eq ?_
  unfold Flp K_w_put B_w_put
  refine k_fn (k_seq (k_sIf ?_))
  simp_arith [head9, h_q, hq]
  refine k_nx (k_seq (k_own ?_))
  simp_arith [head9]
  have hrow : pSl f.d (some 1) none = some (.tuple f.row) := by
    rw [d_row, v_slT, show (1 : Int) = ((1 : Nat) : Int) from rfl, cutD_from]
    rfl
  refine k_seq (k_forP (fun ds s' => ds = f.row ∧ s' = s) ?_ ?_)
  · simp_arith [hrow]
  · rintro ds s1 ⟨rfl, rfl⟩
    refine ⟨fun j ρ s' => ∃ o, ρ = [some f.d, some (.str x), some (.str n), some (.list (.str f.head :: g.row.take j)), o] ∧ s' = s1, ⟨none, rfl, rfl⟩, ?_, ?_⟩
    · rintro j d ρ s2 hj ⟨o, rfl, rfl⟩
      obtain ⟨e, he, tu⟩ := ht j d hj
      refine ⟨_, rfl, ?_⟩
      have hr := row_len g
      refine (tu (.str f.head :: g.row.take j) (by rw [List.length_cons, List.length_take]; omega)).imp ?_
      rintro r s3 ⟨rfl, rfl⟩
      refine ⟨some d, ?_, rfl⟩
      rw [take_snoc he]
      rfl
    · rintro ρ s2 ⟨o, rfl, rfl⟩
      rw [← hl, List.take_length]
      refine k_ret ?_
      walk_at "E"
      rw [d_row g, hh]
end
end Lw04
set_option Elab.async false
set_option linter.all false
set_option maxRecDepth 100000
set_option maxHeartbeats 1000000
/-! the law's put, as an equation; drawing -/
namespace Lw04
open PySem PySem.Spec L2 Dl Mx Ds Lw01 Lw41
open Lw30 (Fo Fo.d Fo.dep Fo.head Fo.row Fo.bound d_row head9 Fo.put Fo.isQ h_q)
section
variable {S : Type} {s : S}
theorem kind_let {k x : Str} (hk : kindB (.str k) = true) (hx : letB x = true) : k ≠ x := fun e => by
  rw [← e] at hx
  rw [kindB_str, smallB_str] at hk
  unfold letB at hx
  have hl : k.length = k.cps.toList.length := (Array.length_toList).symm
  simp only [Bool.and_eq_true, decide_eq_true_eq] at hk
  cases e : k.cps.toList with
  | nil => rw [e] at hx; cases hx
  | cons c r =>
    rw [e] at hx hk hl
    rw [letL_cons] at hx
    simp only [Bool.and_eq_true, decide_eq_true_eq] at hx
    cases r with
    | nil =>
      have hl : k.length = 1 := hl
      omega
    | cons d r =>
      have h1 : d ∈ figS.cps.toList := of_decide_eq_true (List.all_eq_true.mp hx.2.2 d List.mem_cons_self)
      have h2 : d ∈ (Str.ofString "abcdefghijklmnopqrstuvwxyz").cps.toList := of_decide_eq_true (List.all_eq_true.mp hk.1.2.2 d (List.mem_cons_of_mem _ List.mem_cons_self))
      have h3 : ∀ c ∈ figS.cps.toList, c < 60 := by decide +kernel
      have h4 : ∀ c ∈ (Str.ofString "abcdefghijklmnopqrstuvwxyz").cps.toList, 60 ≤ c := by decide +kernel
      exact absurd (h3 d h1) (Nat.not_lt.mpr (h4 d h2))
section
variable {T : D → D → Prop} {a b c a' b' c' : D}
theorem ht1 (h : T a a') : ∀ (j : Nat) (d : D), [a][j]? = some d → ∃ e : D, [a'][j]? = some e ∧ T d e
  | 0, d, e => by cases e; exact ⟨_, rfl, h⟩
  | j + 1, d, e => by cases e
theorem ht2 (h : T a a') (k : T b b') : ∀ (j : Nat) (d : D), [a, b][j]? = some d → ∃ e : D, [a', b'][j]? = some e ∧ T d e
  | 0, d, e => by cases e; exact ⟨_, rfl, h⟩
  | j + 1, d, e => ht1 k j d e
theorem ht3 (h : T a a') (k : T b b') (l : T c c') : ∀ (j : Nat) (d : D), [a, b, c][j]? = some d → ∃ e : D, [a', b', c'][j]? = some e ∧ T d e
  | 0, d, e => by cases e; exact ⟨_, rfl, h⟩
  | j + 1, d, e => ht2 k l j d e
end
theorem turn_n {F : Fn S} {f : Fo} {x n z : Str} (h : isJ f = false) (h2 : isL f = false) (hz : z ≠ x) : Turns F f x n s (.str z) (.str z) := by
  have := turn_t (F := F) (f := f) (x := x) (n := n) (z := z) (s := s) h h2
  rw [if_neg hz] at this
  exact this
theorem lp_eq (x n : Str) (hx : letB x = true) : ∀ (f : Fo) (m : Nat) (s : S), wf f → f.dep < m → Flp m [f.d, .str x, .str n] s = some ((f.put x n).d, s)
  | f, 0, _, _, h => absurd h (Nat.not_lt_zero _)
  | .is t k, m + 1, s, w, h => lp_row (f := .is t k) (g := .is (if t = x then n else t) k) rfl rfl rfl (ht2 (turn_t rfl rfl) (turn_n rfl rfl (kind_let w.2 hx)))
  | .does e t u, m + 1, s, w, h => lp_row (f := .does e t u) (g := .does e (if t = x then n else t) (if u = x then n else u)) rfl rfl rfl (ht3 (turn_n rfl rfl (kind_let w.1 hx)) (turn_t rfl rfl) (turn_t rfl rfl))
  | .same t u, m + 1, s, w, h => lp_row (f := .same t u) (g := .same (if t = x then n else t) (if u = x then n else u)) rfl rfl rfl (ht2 (turn_t rfl rfl) (turn_t rfl rfl))
  | .least a b, m + 1, s, w, h => lp_row (f := .least a b) (g := .least a b) rfl rfl rfl (ht2 (turn_l rfl rfl) (turn_l rfl rfl))
  | .fals, m + 1, s, w, h => lp_row (f := .fals) (g := .fals) rfl rfl rfl (fun j d e => by cases e)
  | .no f, m + 1, s, w, h => by
    have hd : f.dep + 1 < m + 1 := h
    exact lp_row (f := .no f) (g := .no (f.put x n)) rfl rfl rfl (ht1 (turn_j rfl (lp_eq x n hx f m s w (by omega))))
  | .jn j f g, m + 1, s, w, h => by
    have hd : max f.dep g.dep + 1 < m + 1 := h
    exact lp_row (f := .jn j f g) (g := .jn j (f.put x n) (g.put x n)) rfl rfl rfl (ht2 (turn_j rfl (lp_eq x n hx f m s w.1 (by omega))) (turn_j rfl (lp_eq x n hx g m s w.2 (by omega))))
  | .qu w y f, m + 1, s, k, h => by
    have hd : f.dep + 1 < m + 1 := h
    have ih := lp_eq x n hx f m s k.2 (by omega)
    refine ok_eq ?_
    unfold Flp K_w_put B_w_put
    refine k_fn (k_seq (k_sIf ?_))
    simp_arith [head9, h_q, Fo.isQ]
    have q1 : pIx (Fo.qu w y f).d (.int 1) = some (.str y) := v_ix1
    have q2 : pIx (Fo.qu w y f).d (.int 2) = some f.d := v_ix2
    have q3 : pSl (Fo.qu w y f).d none (some 2) = some (.tuple [.str w.s, .str y]) := rfl
    refine k_seq (k_sIf ?_)
    simp_arith [q1]
    by_cases e : y = x
    · have ep : (Fo.qu w y f).put x n = .qu w y f := by unfold Fo.put; rw [if_pos e]
      rw [ep]
      simp_arith [e]
      refine k_ret ?_
      walk_at "E"
    · have ep : (Fo.qu w y f).put x n = .qu w y (f.put x n) := by show (if y = x then _ else _) = _; rw [if_neg e]
      rw [ep]
      simp_arith [e]
      refine k_nx (k_ret ?_)
      simp_arith [q2, q3]
      refine ⟨_, _, ih, ?_⟩
      walk_at "E"
      exact ⟨_, rfl, rfl⟩
end
/-! drawing: letters, terms -/
section
variable {s : DS}
theorem fig_ok : (([Str.ofString "", Str.ofString "", Str.ofString "", Str.ofString "0", Str.ofString "7", Str.ofString "9"] : List Str).all fun f => uvS.cps.toList.all fun c => letB ((⟨#[c]⟩ : Str) ++ f)) = true := by decide +kernel
abbrev figL : List Str := [Str.ofString "", Str.ofString "", Str.ofString "", Str.ofString "0", Str.ofString "7", Str.ofString "9"]
abbrev Fletter : Fn DS := K_w_letter Ftake
theorem ok_letter {Q : D → DS → Prop} (q : ∀ z s', letB z = true → Q (.str z) s') : Ok (Fletter [hnd 0] s) Q := by
  unfold Fletter K_w_letter B_w_letter
  refine k_fn (k_ret ?_)
  walk_at "E"
  refine k_take (m := 6) (by decide) (by decide) fun r s1 r0 r1 => ?_
  obtain ⟨c, hc, _, e1⟩ := ix_at (z := uvS) (by decide) r0 (by exact r1)
  simp_arith [e1]
  refine ⟨_, rfl, ?_⟩
  refine k_take (m := 6) (by decide) (by decide) fun t s2 t0 t1 => ?_
  obtain ⟨f, hf, e2⟩ := Lw30.pick9 (xs := figL) t0 t1
  have e2 : pIx (.list [.str (Str.ofString ""), .str (Str.ofString ""), .str (Str.ofString ""), .str (Str.ofString "0"), .str (Str.ofString "7"), .str (Str.ofString "9")]) (.int t) = some (.str f) := e2
  simp_arith [e2]
  have hl : letB (mk [c] ++ f) = true := List.all_eq_true.mp (List.all_eq_true.mp fig_ok f hf) c hc
  have h1 : f.length ≤ 1 := of_decide_eq_true (List.all_eq_true.mp (show (figL.all fun f => decide (f.length ≤ 1)) = true by decide +kernel) f hf)
  exact ⟨_, v_addS (by rw [mk_len]; exact szL (by simp only [List.length_cons, List.length_nil]; omega)), q _ s2 hl⟩
abbrev Fterm : Fn DS := K_w_term Ftake Fletter
theorem ter_name {z : Str} (h : nameB (.str z) = true) : terB z = true := by unfold terB; rw [h]; rfl
theorem ter_let {z : Str} (h : letB z = true) : terB z = true := by unfold terB; rw [h, Bool.or_true]
theorem ok_term {n k d b : List Str} (v : Voc n k d) (hb : ∀ x ∈ b, letB x = true) (hl : b.length ≤ 10) {Q : D → DS → Prop} (q : ∀ z s', terB z = true → Q (.str z) s') : Ok (Fterm [hnd 0, vocD n k d, .list (b.map .str)] s) Q := by
  have hnl := v.nl
  unfold Fterm K_w_term B_w_term vocD
  refine k_fn (k_seq (k_set ?_))
  walk_at "E"
  refine ⟨_, v_addL (by rw [List.length_map, List.length_map]; exact szL (by omega)), ?_⟩
  rw [← List.map_append]
  have tl : (n ++ b).length ≤ 20 := by rw [List.length_append]; omega
  have tok : ∀ x ∈ n ++ b, terB x = true := fun x hx => (List.mem_append.mp hx).elim (fun h => ter_name (v.nm x h)) fun h => ter_let (hb x h)
  generalize n ++ b = T at tl tok
  refine k_seq (k_sIf ?_)
  walk_at "E"
  cases T with
  | nil =>
    simp_arith [List.map_nil, List.isEmpty_nil]
    refine k_ret ?_
    walk_at "E"
    exact ok_letter fun z s' h => q z s' (ter_let h)
  | cons t0 T =>
    simp_arith [List.map_cons, List.isEmpty_cons]
    refine k_take (m := 8) (by decide) (by decide) fun r s1 r0 r1 => ?_
    by_cases e : r = 7
    · simp_arith [e]
      refine k_ret ?_
      walk_at "E"
      exact ok_letter fun z s' h => q z s' (ter_let h)
    · simp_arith [e]
      refine k_nx (k_ret ?_)
      simp_arith [List.length_map]
      simp only [List.length_cons] at tl
      refine k_take (by omega) (by omega) fun i s2 i0 i1 => ?_
      obtain ⟨z, hz, ez⟩ := Lw30.pick9 (xs := t0 :: T) i0 (by rw [List.length_cons]; omega)
      exact ⟨_, ez, q z s2 (tok z hz)⟩
abbrev Fsum : Fn DS := K_w_sum Ftake
theorem pow9 : pPow (.int 10) (.int 9) = some (.int 1000000000) := by rfl
theorem pick_m (u a b : Int) : ∃ z, pEq (.int u) (.int 7) = some z ∧ ∃ z1, pInt [z] = some z1 ∧ pIx (.list [.int a, .int b]) z1 = some (.int (if u = 7 then b else a)) := by
  refine ⟨_, v_eqI, _, v_intB, ?_⟩
  by_cases e : u = 7
  · rw [if_pos e, decide_eq_true e]
    exact Lw30.v_ix1L
  · rw [if_neg e, decide_eq_false e]
    exact v_ix0L
theorem ok_sum {n k d : List Str} (v : Voc n k d) {Q : D → DS → Prop} (q : ∀ t s', Sok t → Q (totD t) s') : Ok (Fsum [hnd 0, vocD n k d] s) Q := by
  have hkl := v.kl
  unfold Fsum K_w_sum B_w_sum vocD
  refine k_fn (k_seq (k_own ?_))
  walk_at "E"
  refine k_seq (k_forP (fun ds s' => ds = k.map .str) ?_ ?_)
  · walk_at "E"
  · rintro ds s1 rfl
    refine ⟨fun j ρ _ => ∃ (ps : List Pt) (o : Option D), ρ = [some (hnd 0), some (.tuple [.tuple (n.map .str), .tuple (k.map .str), .tuple (d.map .str)]), some (.list (ps.map ptD)), o] ∧ (ps.map (·.1)).Sublist (k.take j) ∧ ∀ p ∈ ps, 1 ≤ p.2, ⟨[], none, rfl, by simp, by simp⟩, ?_, ?_⟩
    · rintro j e ρ s2 hj ⟨ps, o, rfl, h1, h2⟩
      rw [List.getElem?_map, Option.map_eq_some_iff] at hj
      obtain ⟨w, hw, rfl⟩ := hj
      refine ⟨_, rfl, ?_⟩
      refine k_sIf ?_
      walk_at "E"
      refine k_take (m := 3) (by decide) (by decide) fun r s3 r0 r1 => ?_
      by_cases e : r = 0
      · simp_arith [e]
        have hz := h1.length_le
        rw [List.length_map, List.length_take] at hz
        refine k_app rfl (show (ps.map ptD).length < sizeLine from by rw [List.length_map]; exact Nat.lt_of_le_of_lt (show ps.length ≤ 6 by omega) (by decide)) ?_
        simp_arith [pow9]
        refine k_take (m := 8) (by decide) (by decide) fun u s4 u0 u1 => ?_
        obtain ⟨z, e1, z1, e2, e3⟩ := pick_m u 3 (1000000000 - 1)
        refine ⟨z, e1, z1, e2, _, e3, ?_⟩
        refine k_take (by split <;> decide) (by split <;> decide) fun y s5 y0 y1 => ?_
        refine ⟨_, v_addI, ps ++ [(w, 1 + y)], some (.str w), ?_, ?_, ?_⟩
        · rw [List.map_append]
          rfl
        · rw [take_snoc hw, List.map_append]
          exact h1.append (List.Sublist.refl _)
        · intro p hp
          rcases List.mem_append.mp hp with hp | hp
          · exact h2 p hp
          · rw [List.mem_singleton.mp hp]
            show 1 ≤ 1 + y
            omega
      · simp_arith [e]
        refine k_nx ?_
        refine ⟨ps, some (.str w), rfl, ?_, h2⟩
        rw [take_snoc hw]
        exact h1.trans (List.sublist_append_left _ _)
    · rintro ρ s2 ⟨ps, o, rfl, h1, h2⟩
      rw [List.length_map, List.take_length] at h1
      refine k_ret ?_
      simp_arith [pow9]
      refine k_take (m := 8) (by decide) (by decide) fun u s4 u0 u1 => ?_
      obtain ⟨z, e1, z1, e2, e3⟩ := pick_m u 4 1000000000
      refine ⟨z, e1, z1, e2, _, e3, ?_⟩
      refine k_take (by split <;> decide) (by split <;> decide) fun y s5 y0 y1 => ?_
      have hz := h1.length_le
      rw [List.length_map] at hz
      refine q (ps, y) s5 ⟨fun p hp => ?_, ris_pw.mpr ((ris_pw.mp v.kr).sublist h1), y0, by show ps.length ≤ 100; omega⟩
      have hk := v.kd p.1 (h1.subset (List.mem_map_of_mem hp))
      exact ⟨hk, kind_len hk, h2 p hp⟩
end
end Lw04
set_option Elab.async false
set_option linter.all false
set_option maxRecDepth 100000
set_option maxHeartbeats 1000000
/-! forms drawn -/
namespace Lw04
open PySem PySem.Spec L2 Dl Mx Ds Lw01 Lw41
open Lw30 (Fo Fo.d Fo.dep Fo.head Fo.row Fo.bound d_row head9 Fo.put Fo.isQ h_q pick9 pick9T)
section
variable {s : DS}
structure Gd (p : Nat) (f : Fo) : Prop where
  w : wf f
  d : f.dep ≤ p
  c : cnt f ≤ 2 ^ (p + 1)
  z : (parts f).length < 2 ^ (p + 1)
theorem Gd.mono {p q : Nat} {f : Fo} (g : Gd p f) (h : p ≤ q) : Gd q f := by
  have h2 : 2 ^ (p + 1) ≤ 2 ^ (q + 1) := Nat.pow_le_pow_right (by decide) (by omega)
  exact ⟨g.w, Nat.le_trans g.d h, Nat.le_trans g.c h2, Nat.lt_of_lt_of_le g.z h2⟩
theorem Gd.no {p : Nat} {f : Fo} (g : Gd p f) : Gd (p + 1) (.no f) := by
  have h := g.z
  have h1 := g.c
  have h2 : 0 < 2 ^ (p + 1) := Nat.two_pow_pos _
  refine ⟨g.w, Nat.succ_le_succ g.d, ?_, ?_⟩
  · show cnt f ≤ 2 ^ (p + 1 + 1); rw [Nat.pow_succ]; omega
  · show (parts f).length + 1 < 2 ^ (p + 1 + 1); rw [Nat.pow_succ]; omega
theorem Gd.qu {p : Nat} {w : Lw30.Qw} {x : Str} {f : Fo} (g : Gd p f) (hx : letB x = true) : Gd (p + 1) (.qu w x f) := by
  have h := g.z
  have h1 := g.c
  have h2 : 0 < 2 ^ (p + 1) := Nat.two_pow_pos _
  refine ⟨⟨hx, g.w⟩, Nat.succ_le_succ g.d, ?_, ?_⟩
  · show cnt f ≤ 2 ^ (p + 1 + 1); rw [Nat.pow_succ]; omega
  · show (parts f).length + 1 < 2 ^ (p + 1 + 1); rw [Nat.pow_succ]; omega
theorem Gd.jn {p : Nat} {w : Lw30.Jw} {f g : Fo} (a : Gd p f) (b : Gd p g) : Gd (p + 1) (.jn w f g) := by
  have h := a.z
  have h1 := a.c
  have k := b.z
  have k1 := b.c
  have d1 := a.d
  have d2 := b.d
  refine ⟨⟨a.w, b.w⟩, ?_, ?_, ?_⟩
  · show max f.dep g.dep + 1 ≤ p + 1; omega
  · show cnt f + cnt g ≤ 2 ^ (p + 1 + 1); rw [Nat.pow_succ]; omega
  · show (parts f ++ parts g).length + 1 < 2 ^ (p + 1 + 1); rw [List.length_append, Nat.pow_succ]; omega
abbrev Fplain : Fn DS := K_w_plain Ftake Fterm Fsum
theorem ok_plain {n k d b : List Str} (v : Voc n k d) (hb : ∀ x ∈ b, letB x = true) (hl : b.length ≤ 10) {Q : D → DS → Prop} (q : ∀ f s', Gd 0 f → Q f.d s') : Ok (Fplain [hnd 0, vocD n k d, .list (b.map .str)] s) Q := by
  have hkl := v.kl
  have hdl := v.dl
  have tm : ∀ {s : DS} {Q : D → DS → Prop}, (∀ z s', terB z = true → Q (.str z) s') → Ok (Fterm [hnd 0, vocD n k d, .list (b.map .str)] s) Q := fun q => ok_term v hb hl q
  have sm : ∀ {s : DS} {Q : D → DS → Prop}, (∀ t s', Sok t → Q (totD t) s') → Ok (Fsum [hnd 0, vocD n k d] s) Q := fun q => ok_sum v q
  unfold Fplain K_w_plain B_w_plain
  refine k_fn (k_seq (k_set ?_))
  walk_at "E"
  refine k_take (m := 6) (by decide) (by decide) fun r s1 r0 r1 => ?_
  have i1 : pIx (vocD n k d) (.int 1) = some (.tuple (k.map .str)) := v_ix1
  have i2 : pIx (vocD n k d) (.int 2) = some (.tuple (d.map .str)) := v_ix2
  have rest : Ok (sSeq (sIf (qAnd (qT (cB pLt (cVar 3) (cK (.int 4)))) (qT (cB pNe (cB pIx (cVar 1) (cK (.int 2))) (cN pTup aNil))))
    (sSeq (sSet 4 (cB pIx (cB pIx (cVar 1) (cK (.int 2))) (cCall 2 Ftake (aCons (cVar 0) (aCons (cN pLen (aCons (cB pIx (cVar 1) (cK (.int 2))) aNil)) aNil)))))
      (sRet (cN pTup (aCons (cK (.str (Str.ofString "does"))) (aCons (cVar 4) (aCons (cCall 3 Fterm (aCons (cVar 0) (aCons (cVar 1) (aCons (cVar 2) aNil)))) (aCons (cCall 3 Fterm (aCons (cVar 0) (aCons (cVar 1) (aCons (cVar 2) aNil)))) aNil)))))))
    sNx)
    (sSeq (sIf (qT (cB pEq (cVar 3) (cK (.int 4))))
    (sRet (cN pTup (aCons (cK (.str (Str.ofString "least"))) (aCons (cCall 2 Fsum (aCons (cVar 0) (aCons (cVar 1) aNil))) (aCons (cCall 2 Fsum (aCons (cVar 0) (aCons (cVar 1) aNil))) aNil)))))
    sNx)
    (sSeq (sIf (qT (cB pEq (cVar 3) (cK (.int 5))))
    (sRet (cN pTup (aCons (cK (.str (Str.ofString "false"))) aNil)))
    sNx)
    (sRet (cN pTup (aCons (cK (.str (Str.ofString "same"))) (aCons (cCall 3 Fterm (aCons (cVar 0) (aCons (cVar 1) (aCons (cVar 2) aNil)))) (aCons (cCall 3 Fterm (aCons (cVar 0) (aCons (cVar 1) (aCons (cVar 2) aNil)))) aNil))))))) [some (hnd 0), some (vocD n k d), some (.list (b.map .str)), some (.int r), none] s1) fun o s => match o with | .rt d => Q d s | .nx _ => Q PyData.none s | _ => False := by
    have rest2 : Ok (sSeq (sIf (qT (cB pEq (cVar 3) (cK (.int 4))))
    (sRet (cN pTup (aCons (cK (.str (Str.ofString "least"))) (aCons (cCall 2 Fsum (aCons (cVar 0) (aCons (cVar 1) aNil))) (aCons (cCall 2 Fsum (aCons (cVar 0) (aCons (cVar 1) aNil))) aNil)))))
    sNx)
    (sSeq (sIf (qT (cB pEq (cVar 3) (cK (.int 5))))
    (sRet (cN pTup (aCons (cK (.str (Str.ofString "false"))) aNil)))
    sNx)
    (sRet (cN pTup (aCons (cK (.str (Str.ofString "same"))) (aCons (cCall 3 Fterm (aCons (cVar 0) (aCons (cVar 1) (aCons (cVar 2) aNil)))) (aCons (cCall 3 Fterm (aCons (cVar 0) (aCons (cVar 1) (aCons (cVar 2) aNil)))) aNil)))))) [some (hnd 0), some (vocD n k d), some (.list (b.map .str)), some (.int r), none] s1) fun o s => match o with | .rt d => Q d s | .nx _ => Q PyData.none s | _ => False := by
      refine k_seq (k_sIf ?_)
      walk_at "E"
      by_cases e4 : r = 4
      · simp_arith [e4]
        refine k_ret ?_
        walk_at "E"
        refine sm fun a s2 ha => ?_
        refine sm fun c s3 hc => ?_
        exact q (.least a c) s3 ⟨⟨ha, hc⟩, Nat.le_refl _, by show 0 ≤ 2 ^ (0 + 1); decide, by show 1 < 2 ^ (0 + 1); decide⟩
      · simp_arith [e4]
        refine k_nx (k_seq (k_sIf ?_))
        walk_at "E"
        by_cases e5 : r = 5
        · simp_arith [e5]
          refine k_ret ?_
          walk_at "E"
          exact q .fals s1 ⟨trivial, Nat.le_refl _, by decide, by show 1 < 2 ^ (0 + 1); decide⟩
        · simp_arith [e5]
          refine k_nx (k_ret ?_)
          walk_at "E"
          refine tm fun t s2 ht => ?_
          refine tm fun u s3 hu => ?_
          exact q (.same t u) s3 ⟨⟨ht, hu⟩, Nat.le_refl _, by show 2 ≤ 2 ^ (0 + 1); decide, by show 1 < 2 ^ (0 + 1); decide⟩
    refine k_seq (k_sIf ?_)
    simp_arith [i2]
    by_cases e : r < 4
    · simp_arith [e]
      cases d with
      | nil =>
        simp_arith [List.map_nil, List.isEmpty_nil]
        exact k_nx rest2
      | cons d0 d =>
        simp_arith [List.map_cons, List.isEmpty_cons]
        refine k_seq (k_set ?_)
        simp only [List.length_cons] at hdl
        simp_arith [i2, List.length_map]
        refine k_take (by omega) (by omega) fun i s2 j0 j1 => ?_
        obtain ⟨z, hz, ez⟩ := pick9T (xs := d0 :: d) j0 (by rw [List.length_cons]; omega)
        refine ⟨_, ez, ?_⟩
        refine k_ret ?_
        walk_at "E"
        refine tm fun t s3 ht => ?_
        refine tm fun u s4 hu => ?_
        exact q (.does z t u) s4 ⟨⟨v.dd z hz, ht, hu⟩, Nat.le_refl _, by show 2 ≤ 2 ^ (0 + 1); decide, by show 1 < 2 ^ (0 + 1); decide⟩
    · simp_arith [e]
      exact k_nx rest2
  refine k_seq (k_sIf ?_)
  simp_arith [i1]
  by_cases e : r < 2
  · simp_arith [e]
    cases k with
    | nil =>
      simp_arith [List.map_nil, List.isEmpty_nil]
      exact k_nx rest
    | cons k0 k =>
      simp_arith [List.map_cons, List.isEmpty_cons]
      refine k_ret ?_
      walk_at "E"
      refine tm fun t s3 ht => ?_
      simp only [List.length_cons] at hkl
      simp_arith [i1, List.length_map]
      refine k_take (by omega) (by omega) fun i s2 j0 j1 => ?_
      obtain ⟨z, hz, ez⟩ := pick9T (xs := k0 :: k) j0 (by rw [List.length_cons]; omega)
      refine ⟨_, ez, ?_⟩
      exact q (.is t z) s2 ⟨⟨ht, v.kd z hz⟩, Nat.le_refl _, by show 1 ≤ 2 ^ (0 + 1); decide, by show 1 < 2 ^ (0 + 1); decide⟩
  · simp_arith [e]
    exact k_nx rest
def Fform : Nat → Fn DS
  | 0 => fun _ _ => none
  | m + 1 => K_w_form Ftake Fplain (Fform m) Fletter
theorem ok_form {n k d : List Str} (v : Voc n k d) : ∀ (m p : Nat) (L : List Str) (s : DS) (Q : D → DS → Prop), p < m → (∀ x ∈ L, letB x = true) → L.length + p ≤ 10 → (∀ f s', Gd p f → Q f.d s') → Ok (Fform m [hnd 0, vocD n k d, .list (L.map .str), .int (p : Nat)] s) Q
  | 0, _, _, _, _, h, _, _, _ => absurd h (Nat.not_lt_zero _)
  | m + 1, p, L, s, Q, hm, hL, hl, q => by
    have ih := ok_form v m
    unfold Fform K_w_form B_w_form
    refine k_fn (k_seq (k_set ?_))
    walk_at "E"
    refine k_take (m := 8) (by decide) (by decide) fun y s1 y0 y1 => ?_
    have atom : ∀ {R : Rs → DS → Prop}, (∀ d s', Q d s' → R (.rt d) s') → Ok (sRet (cCall 3 Fplain (aCons (cVar 0) (aCons (cVar 1) (aCons (cVar 2) aNil)))) [some (hnd 0), some (vocD n k d), some (.list (L.map .str)), some (.int (p : Nat)), some (.int y), none, none] s1) R := fun hR => by
      refine k_ret ?_
      walk_at "E"
      exact ok_plain v hL (by omega) fun f s2 hf => hR _ _ (q f s2 (hf.mono (Nat.zero_le _)))
    refine k_seq (k_sIf ?_)
    walk_at "E"
    cases p with
    | zero =>
      rw [show decide (((0 : Nat) : Int) = 0) = true from rfl]
      walk_at "E"
      exact atom fun d s h => h
    | succ p =>
      rw [show decide (((p + 1 : Nat) : Int) = 0) = false from decide_eq_false (by omega)]
      walk_at "E"
      by_cases e2 : y < 2
      · simp_arith [e2]
        exact atom fun d s h => h
      simp_arith [e2]
      have ep : (((p + 1 : Nat) : Int) - 1) = ((p : Nat) : Int) := by omega
      refine k_nx (k_seq (k_sIf ?_))
      walk_at "E"
      by_cases e3 : y = 2
      · simp_arith [e3]
        refine k_ret ?_
        simp_arith [ep]
        refine ih p L _ _ (by omega) hL (by omega) fun f s2 hf => ?_
        exact q (.no f) _ hf.no
      simp_arith [e3]
      refine k_nx (k_seq (k_sIf ?_))
      walk_at "E"
      by_cases e6 : 5 < y
      · simp_arith [e6]
        refine k_seq (k_set ?_)
        walk_at "E"
        refine ok_letter fun x s2 hx => ?_
        refine k_ret ?_
        simp_arith [ep]
        obtain ⟨w, ew⟩ := Lw30.pick_q (r := y - 6) (by omega) (by omega)
        refine ⟨_, ew, ?_⟩
        refine ⟨_, v_addL (by rw [List.length_map]; exact szL (by simp; omega)), ?_⟩
        rw [show L.map PyData.str ++ [PyData.str x] = (L ++ [x]).map PyData.str from by simp]
        refine ih p (L ++ [x]) _ _ (by omega) (fun z hz => ?_) (by rw [List.length_append]; simp; omega) fun f s3 hf => ?_
        · rcases List.mem_append.mp hz with hz | hz
          · exact hL z hz
          · rw [List.mem_singleton.mp hz]
            exact hx
        · exact q (.qu w x f) _ (hf.qu hx)
      simp_arith [e6]
      refine k_nx (k_seq (k_set ?_))
      simp_arith [ep]
      refine ih p L _ _ (by omega) hL (by omega) fun f s2 hf => ?_
      refine k_ret ?_
      simp_arith [ep]
      obtain ⟨w, ew⟩ := Lw30.pick_w (r := y - 3) (by omega) (by omega)
      refine ⟨_, ew, ?_⟩
      refine ih p L _ _ (by omega) hL (by omega) fun g s3 hg => ?_
      exact q (.jn w f g) _ (hf.jn hg)
end
end Lw04
set_option Elab.async false
set_option linter.all false
set_option maxRecDepth 100000
set_option maxHeartbeats 1000000
/-! forms drawn: their words stand in the vocabulary -/
namespace Lw06
open PySem PySem.Spec L2 Dl Mx Ds Lw01 Lw04
open Lw41 (Tot totD Pt ptD take_snoc)
open Lw30 (Fo Fo.d Fo.dep Fo.head Fo.row Fo.bound d_row head9 Fo.put Fo.isQ h_q pick9 pick9T)
/-- a letter, or one of the names -/
def Tm (n : List Str) (z : Str) : Prop := letB z = true ∨ z ∈ n
def OfV (n k d : List Str) : Fo → Prop
  | .is t c => Tm n t ∧ c ∈ k
  | .does e t u => e ∈ d ∧ Tm n t ∧ Tm n u
  | .same t u => Tm n t ∧ Tm n u
  | .least a b => (a.1.map (·.1)).Sublist k ∧ (b.1.map (·.1)).Sublist k
  | .fals => True
  | .no f => OfV n k d f
  | .jn _ f g => OfV n k d f ∧ OfV n k d g
  | .qu _ _ f => OfV n k d f
structure Gv (n k d : List Str) (p : Nat) (f : Fo) : Prop where
  g : Gd p f
  o : OfV n k d f
theorem Gv.mono {n k d : List Str} {p q : Nat} {f : Fo} (g : Gv n k d p f) (h : p ≤ q) : Gv n k d q f := ⟨g.g.mono h, g.o⟩
theorem Gv.no {n k d : List Str} {p : Nat} {f : Fo} (g : Gv n k d p f) : Gv n k d (p + 1) (.no f) := ⟨g.g.no, g.o⟩
theorem Gv.qu {n k d : List Str} {p : Nat} {w : Lw30.Qw} {x : Str} {f : Fo} (g : Gv n k d p f) (hx : letB x = true) : Gv n k d (p + 1) (.qu w x f) := ⟨g.g.qu hx, g.o⟩
theorem Gv.jn {n k d : List Str} {p : Nat} {w : Lw30.Jw} {f h : Fo} (a : Gv n k d p f) (b : Gv n k d p h) : Gv n k d (p + 1) (.jn w f h) := ⟨a.g.jn b.g, a.o, b.o⟩
section
variable {s : DS}
end
end Lw06
set_option Elab.async false
set_option linter.all false
set_option maxRecDepth 100000
set_option maxHeartbeats 1000000
/-! is_of, as an equation -/
namespace Lw06
open PySem PySem.Spec L2 Dl Mx Ds Lw01 Lw04
open Lw41 (Tot totD Pt ptD take_snoc)
open Lw30 (Fo Fo.d Fo.dep)
section
variable {S : Type} {s : S}
def kin1 : Fo → List Str
  | .is _ c => [c]
  | _ => []
def doi1 : Fo → List Str
  | .does e _ _ => [e]
  | _ => []
def tot1 : Fo → List Tot
  | .least a b => [a, b]
  | _ => []
theorem piecesK (f : Fo) (s : S) : K_pieces [f.d, .str (Str.ofString "k")] s = some (.list ((kin1 f).map .str), s) := by
  cases f with
  | jn w f g => cases w <;> rfl
  | qu w x f => cases w <;> rfl
  | _ => rfl
theorem piecesD (f : Fo) (s : S) : K_pieces [f.d, .str (Str.ofString "d")] s = some (.list ((doi1 f).map .str), s) := by
  cases f with
  | jn w f g => cases w <;> rfl
  | qu w x f => cases w <;> rfl
  | _ => rfl
theorem piecesS (f : Fo) (s : S) : K_pieces [f.d, .str (Str.ofString "s")] s = some (.list ((tot1 f).map totD), s) := by
  cases f with
  | jn w f g => cases w <;> rfl
  | qu w x f => cases w <;> rfl
  | _ => rfl
theorem comp2_g {c : Str} {g : Fo → List D} (hp : ∀ (f : Fo) (s : S), K_pieces [f.d, .str c] s = some (.list (g f), s)) {a o p : Option D} : ∀ fs : List Fo, compF2 (gNm 2) qYes (iOf asL (cCall 2 K_pieces (aCons (cVar 2) (aCons (cVar 1) aNil)))) (gNm 3) qYes (cVar 3) [3] [a, some (.str c), o, p] (fs.map Fo.d) s = some (fs.flatMap g, s)
  | [] => rfl
  | f :: fs => by
    show bnd (iOf asL (cCall 2 K_pieces (aCons (cVar 2) (aCons (cVar 1) aNil))) [a, some (.str c), some f.d, p] s) (fun xs s => bnd (compF (gNm 3) qYes (cVar 3) [a, some (.str c), some f.d, none] xs s) fun ys s => bnd (compF2 (gNm 2) qYes (iOf asL (cCall 2 K_pieces (aCons (cVar 2) (aCons (cVar 1) aNil)))) (gNm 3) qYes (cVar 3) [3] [a, some (.str c), o, p] (fs.map Fo.d) s) fun zs s => some (ys ++ zs, s)) = _
    have e1 : iOf asL (cCall 2 K_pieces (aCons (cVar 2) (aCons (cVar 1) aNil))) [a, some (.str c), some f.d, p] s = some (g f, s) := by
      refine ok_eqL ?_
      walk_at "E"
      exact ⟨_, _, hp f s, by walk_at "E"⟩
    rw [e1]
    show bnd (compF (gNm 3) qYes (cVar 3) [a, some (.str c), some f.d, none] (g f) s) _ = _
    rw [Lw38.comp_id]
    show bnd (compF2 (gNm 2) qYes (iOf asL (cCall 2 K_pieces (aCons (cVar 2) (aCons (cVar 1) aNil)))) (gNm 3) qYes (cVar 3) [3] [a, some (.str c), o, p] (fs.map Fo.d) s) _ = _
    rw [comp2_g hp fs]
    rfl
abbrev Fall (m : Nat) : Fn S := K_all_pieces (Fpa m) K_pieces
theorem all_g {c : Str} {g : Fo → List D} (hp : ∀ (f : Fo) (s : S), K_pieces [f.d, .str c] s = some (.list (g f), s)) {m : Nat} {f : Fo} (hd : f.dep < m) (hz : (parts f).length ≤ 1000) (hc : ((parts f).flatMap g).length ≤ 100000) : Fall m [f.d, .str c] s = some (.list ((parts f).flatMap g), s) := by
  refine ok_eq ?_
  unfold Fall K_all_pieces B_all_pieces
  refine k_fn (k_ret ?_)
  walk_at "E"
  refine ⟨_, s, ?_, rfl, rfl⟩
  unfold lcF2
  have e1 : iOf asT (cCall 1 (Fpa m) (aCons (cVar 0) aNil)) [some f.d, some (.str c), none, none] s = some ((parts f).map Fo.d, s) := by
    refine ok_eqL ?_
    walk_at "E"
    exact ⟨_, _, pa_eq m f s hd hz, by walk_at "E"⟩
  rw [e1]
  show bnd (compF2 (gNm 2) qYes (iOf asL (cCall 2 K_pieces (aCons (cVar 2) (aCons (cVar 1) aNil)))) (gNm 3) qYes (cVar 3) [3] [some f.d, some (.str c), none, none] ((parts f).map Fo.d) s) _ = _
  rw [comp2_g hp]
  show (if ((parts f).flatMap g).length ≤ sizeLine then _ else _) = _
  rw [if_pos (szL hc)]
theorem fm_map {α β : Type} (g : Fo → List α) (h : α → β) (fs : List Fo) : (fs.flatMap fun f => (g f).map h) = (fs.flatMap g).map h := by
  induction fs with
  | nil => rfl
  | cons f fs ih => rw [List.flatMap_cons, List.flatMap_cons, ih, List.map_append]
theorem fm_len {α : Type} (g : Fo → List α) (b : Nat) (h : ∀ f, (g f).length ≤ b) : ∀ fs : List Fo, (fs.flatMap g).length ≤ b * fs.length
  | [] => Nat.zero_le _
  | f :: fs => by
    have h1 := h f
    have h2 := fm_len g b h fs
    rw [List.flatMap_cons, List.length_append, List.length_cons, Nat.mul_succ]
    omega
theorem asStrs_l {xs : List Str} (h : xs.length ≤ 1000) : asStrs (.list (xs.map .str)) = some xs := by
  show (match dStrs (xs.map .str) with | some xs => if xs.length ≤ 1000 then some xs else none | none => none) = _
  rw [dStrs_map]
  show (if xs.length ≤ 1000 then some xs else none) = _
  rw [if_pos h]
theorem asStrs_t {xs : List Str} (h : xs.length ≤ 1000) : asStrs (.tuple (xs.map .str)) = some xs := by
  show (match dStrs (xs.map .str) with | some xs => if xs.length ≤ 1000 then some xs else none | none => none) = _
  rw [dStrs_map]
  show (if xs.length ≤ 1000 then some xs else none) = _
  rw [if_pos h]
theorem set_l {f : Ev S} {ρ : Rho} {xs : List Str} (e : f ρ s = some (.list (xs.map .str), s)) (h : xs.length ≤ 1000) : xSet f ρ s = some (gath xs, s) := by
  unfold xSet
  rw [e]
  show put ((asStrs (.list (xs.map .str))).map gath) s = _
  rw [asStrs_l h]
  rfl
theorem set_t {f : Ev S} {ρ : Rho} {xs : List Str} (e : f ρ s = some (.tuple (xs.map .str), s)) (h : xs.length ≤ 1000) : xSet f ρ s = some (gath xs, s) := by
  unfold xSet
  rw [e]
  show put ((asStrs (.tuple (xs.map .str))).map gath) s = _
  rw [asStrs_t h]
  rfl
theorem sort_x {F : Es S} {ρ : Rho} {l : List Str} (e : F ρ s = some (l, s)) : aSortX F ρ s = some ((sortS l).map .str, s) := by
  unfold aSortX
  rw [e]
  rfl
/-- the kinds that the sums count -/
def tks (t : Tot) : List Str := t.1.map (·.1)
def cks (f : Fo) : List Str := ((parts f).flatMap tot1).flatMap tks
theorem comp_kt {a o : Option D} {d : D} : ∀ ps : List Pt, compF (gTp (gC (gNm 2) (gC (gNm 3) gN0))) qYes (cVar (S := S) 2) [a, some d, none, none] (ps.map ptD) s = some ((ps.map (·.1)).map .str, s)
  | [] => rfl
  | p :: ps => by
    show bnd (compF _ qYes _ _ (ps.map ptD) s) (fun ys s => some (.str p.1 :: ys, s)) = _
    rw [comp_kt (o := o) ps]
    rfl
theorem comp2_kt {a o p r : Option D} : ∀ ts : List Tot, compF2 (gNm 1) qYes (iOf asT (cB pIx (cVar 1) (cK (.int 0)))) (gTp (gC (gNm 2) (gC (gNm 3) gN0))) qYes (cVar (S := S) 2) [2, 3] [a, o, p, r] (ts.map totD) s = some ((ts.flatMap tks).map .str, s)
  | [] => rfl
  | t :: ts => by
    have ih := comp2_kt (a := a) (o := o) (p := p) (r := r) ts
    show bnd (compF (gTp (gC (gNm 2) (gC (gNm 3) gN0))) qYes (cVar (S := S) 2) [a, some (totD t), none, none] (t.1.map ptD) s) (fun ys s => bnd (compF2 (gNm 1) qYes (iOf asT (cB pIx (cVar 1) (cK (.int 0)))) (gTp (gC (gNm 2) (gC (gNm 3) gN0))) qYes (cVar (S := S) 2) [2, 3] [a, o, p, r] (ts.map totD) s) fun zs s => some (ys ++ zs, s)) = _
    rw [comp_kt (o := none)]
    show bnd (compF2 (gNm 1) qYes (iOf asT (cB pIx (cVar 1) (cK (.int 0)))) (gTp (gC (gNm 2) (gC (gNm 3) gN0))) qYes (cVar (S := S) 2) [2, 3] [a, o, p, r] (ts.map totD) s) _ = _
    rw [ih]
    show some ((t.1.map (·.1)).map PyData.str ++ (ts.flatMap tks).map PyData.str, s) = _
    rw [List.flatMap_cons, List.map_append]
    rfl
theorem counted_eq {m : Nat} {f : Fo} (hd : f.dep < m) (hz : (parts f).length ≤ 1000) (hc : (cks f).length ≤ 1000) : K_counted_kinds (Fall m) [f.d] s = some (.tuple ((sortS (gath (cks f))).map .str), s) := by
  refine ok_eq ?_
  unfold K_counted_kinds B_counted_kinds
  refine k_fn (k_ret ?_)
  have hi : iOf asL (cCall 2 (Fall m) (aCons (cVar 0) (aCons (cK (.str (Str.ofString "s"))) aNil))) [some f.d, none, none, none] s = some (((parts f).flatMap tot1).map totD, s) := by
    refine ok_eqL ?_
    walk_at "E"
    have hl := fm_len (fun f => (tot1 f).map totD) 2 (fun f => by cases f <;> simp [tot1]) (parts f)
    have := all_g (s := s) piecesS hd hz (by omega)
    rw [fm_map] at this
    exact ⟨_, _, this, by walk_at "E"⟩
  have hx : xSc2 (iOf asL (cCall 2 (Fall m) (aCons (cVar 0) (aCons (cK (.str (Str.ofString "s"))) aNil)))) (gNm 1) qYes (iOf asT (cB pIx (cVar 1) (cK (.int 0)))) (gTp (gC (gNm 2) (gC (gNm 3) gN0))) qYes (cVar 2) [1, 2, 3] [2, 3] [some f.d, none, none, none] s = some (gath (cks f), s) := by
    unfold xSc2 lcF2
    rw [hi]
    show bnd (bnd (compF2 (gNm 1) qYes (iOf asT (cB pIx (cVar 1) (cK (.int 0)))) (gTp (gC (gNm 2) (gC (gNm 3) gN0))) qYes (cVar (S := S) 2) [2, 3] [some f.d, none, none, none] (((parts f).flatMap tot1).map totD) s) _) _ = _
    rw [comp2_kt]
    show bnd (if ((cks f).map PyData.str).length ≤ sizeLine then some ((cks f).map PyData.str, s) else none) _ = _
    rw [if_pos (by rw [List.length_map]; exact szL (by omega))]
    show (match dStrs ((cks f).map PyData.str) with | some xs => if xs.length ≤ 1000 then some (gath xs, s) else none | none => none) = _
    rw [dStrs_map]
    show (if (cks f).length ≤ 1000 then some (gath (cks f), s) else none) = _
    rw [if_pos hc]
  walk_at "E"
  refine ⟨_, _, sort_x hx, ?_⟩
  walk_at "E"
def kis (f : Fo) : List Str := (parts f).flatMap kin1
def kds (f : Fo) : List Str := sortS (gath (gath (kis f) ++ gath (sortS (gath (cks f)))))
theorem mem_kds {f : Fo} {z : Str} : z ∈ kds f ↔ z ∈ kis f ∨ z ∈ cks f := by
  unfold kds
  rw [(sortS_perm _).mem_iff, gath_mem, List.mem_append, gath_mem, gath_mem, (sortS_perm _).mem_iff, gath_mem]
theorem nd_le {a b : List Str} (nd : a.Nodup) (h : ∀ z ∈ a, z ∈ b) : a.length ≤ b.length := by
  refine Classical.byContradiction fun c => ?_
  have := (perm_of (a.take (b.length + 1)) b (nd.sublist (List.take_sublist _ _)) (fun x hx => h x (List.mem_of_mem_take hx)) (by rw [List.length_take]; omega)).length_eq
  rw [List.length_take] at this
  omega
theorem kinds_eq {m : Nat} {f : Fo} {k : List Str} (hd : f.dep < m) (hz : (parts f).length ≤ 1000) (hc : (cks f).length ≤ 1000) (hk : ∀ z, z ∈ kis f ∨ z ∈ cks f → z ∈ k) (hl : k.length ≤ 30) : K_kinds_of (Fall m) (K_counted_kinds (Fall m)) [f.d] s = some (.tuple ((kds f).map .str), s) := by
  have h1 := all_g (s := s) piecesK hd hz (by have := fm_len (fun f => (kin1 f).map PyData.str) 1 (fun f => by cases f <;> simp [kin1]) (parts f); omega)
  rw [fm_map] at h1
  have h2 := counted_eq (s := s) hd hz hc
  have l1 : (kis f).length ≤ 1000 := by
    have := fm_len kin1 1 (fun f => by cases f <;> simp [kin1]) (parts f)
    show ((parts f).flatMap kin1).length ≤ 1000
    omega
  have l2 : (sortS (gath (cks f))).length ≤ 1000 := by
    rw [(sortS_perm _).length_eq]
    exact Nat.le_trans (gath_len _) hc
  have n1 := nd_le (gath_nd (kis f)) (b := k) fun z h => hk z (.inl (gath_mem.mp h))
  have n2 := nd_le (gath_nd (sortS (gath (cks f)))) (b := k) fun z h => hk z (.inr (by rw [gath_mem, (sortS_perm _).mem_iff, gath_mem] at h; exact h))
  refine ok_eq ?_
  unfold K_kinds_of B_kinds_of
  refine k_fn (k_ret ?_)
  have x1 : xSet (cCall 2 (Fall m) (aCons (cVar 0) (aCons (cK (.str (Str.ofString "k"))) aNil))) [some f.d] s = some (gath (kis f), s) := by
    refine set_l (xs := kis f) ?_ l1
    refine ok_eq ?_
    walk_at "E"
    exact ⟨_, _, h1, rfl, rfl⟩
  have x2 : xSet (cCall 1 (K_counted_kinds (Fall m)) (aCons (cVar 0) aNil)) [some f.d] s = some (gath (sortS (gath (cks f))), s) := by
    refine set_t ?_ l2
    refine ok_eq ?_
    walk_at "E"
    exact ⟨_, _, h2, rfl, rfl⟩
  have x3 : xOr (xSet (cCall 2 (Fall m) (aCons (cVar 0) (aCons (cK (.str (Str.ofString "k"))) aNil)))) (xSet (cCall 1 (K_counted_kinds (Fall m)) (aCons (cVar 0) aNil))) [some f.d] s = some (gath (gath (kis f) ++ gath (sortS (gath (cks f)))), s) := by
    unfold xOr
    rw [x1]
    show bnd (xSet (cCall 1 (K_counted_kinds (Fall m)) (aCons (cVar 0) aNil)) [some f.d] s) _ = _
    rw [x2]
    show (if _ then _ else _) = _
    rw [if_pos (by omega)]
  walk_at "E"
  refine ⟨_, _, sort_x x3, ?_⟩
  walk_at "E"
  first | done | exact ⟨rfl, rfl⟩ | rfl
def dis (f : Fo) : List Str := (parts f).flatMap doi1
def dos (f : Fo) : List Str := sortS (gath (dis f))
theorem mem_dos {f : Fo} {z : Str} : z ∈ dos f ↔ z ∈ dis f := by
  unfold dos
  rw [(sortS_perm _).mem_iff, gath_mem]
theorem doings_eq {m : Nat} {f : Fo} (hd : f.dep < m) (hz : (parts f).length ≤ 1000) : K_doings_of (Fall m) [f.d] s = some (.tuple ((dos f).map .str), s) := by
  have l0 := fm_len doi1 1 (fun f => by cases f <;> simp [doi1]) (parts f)
  have h1 := all_g (s := s) piecesD hd hz (by have := fm_len (fun f => (doi1 f).map PyData.str) 1 (fun f => by cases f <;> simp [doi1]) (parts f); omega)
  rw [fm_map] at h1
  refine ok_eq ?_
  unfold K_doings_of B_doings_of
  refine k_fn (k_ret ?_)
  have x1 : xSet (cCall 2 (Fall m) (aCons (cVar 0) (aCons (cK (.str (Str.ofString "d"))) aNil))) [some f.d] s = some (gath (dis f), s) := by
    refine set_l (xs := dis f) ?_ (by show ((parts f).flatMap doi1).length ≤ 1000; omega)
    refine ok_eq ?_
    walk_at "E"
    exact ⟨_, _, h1, rfl, rfl⟩
  walk_at "E"
  refine ⟨_, _, sort_x x1, ?_⟩
  walk_at "E"
  first | done | exact ⟨rfl, rfl⟩ | rfl
/-- a vocabulary of any size -/
structure Vw (n k d : List Str) : Prop where
  nl : n.length ≤ 100
  kl : k.length ≤ 100
  dl : d.length ≤ 100
  nm : ∀ x ∈ n, nameB (.str x) = true
  kd : ∀ x ∈ k, kindB (.str x) = true
  dd : ∀ x ∈ d, kindB (.str x) = true
  nr : risS n = true
  kr : risS k = true
  dr : risS d = true
  ds : ∀ x ∈ k, x ∉ d
theorem dec_row {xs : List Str} (h : ∀ x ∈ xs, x.length ≤ 1000) (hl : xs.length ≤ 100) : DecL (.tuple (xs.map .str)) ∧ ∀ es, PyData.tuple (xs.map .str) = .tuple es → es.length ≤ 1000 := by
  refine ⟨⟨trivial, fun ds e x hx => ?_⟩, fun es e => ?_⟩
  · cases e
    obtain ⟨z, hz, rfl⟩ := List.mem_map.mp hx
    exact h z hz
  · cases e
    rw [List.length_map]
    omega
theorem Vw.eq {n k d : List Str} (v : Vw n k d) : Pvoc [vocD n k d] s = some (.bool true, s) := by
  have hb : vocB (vocD n k d) = true := by
    show (rowB nameB _ && (rowB kindB _ && (rowB kindB _ && disB _ _))) = true
    rw [row_of v.nm v.nr, row_of v.kd v.kr, row_of v.dd v.dr]
    show (((k.map PyData.str).map txt).all fun x => !decide (x ∈ (d.map PyData.str).map txt)) = true
    rw [txt_map, txt_map, List.all_eq_true]
    intro x hx
    simpa using v.ds x hx
  have hd : DecV (vocD n k d) := by
    refine ⟨trivial, fun ds e => ?_⟩
    cases e
    refine ⟨fun x hx => ?_, by simp⟩
    rcases List.mem_cons.mp hx with rfl | hx
    · exact dec_row (fun z hz => ter_len (ter_name (v.nm z hz))) v.nl
    rcases List.mem_cons.mp hx with rfl | hx
    · exact dec_row (fun z hz => kind_len (v.kd z hz)) v.kl
    rw [List.mem_singleton.mp hx]
    exact dec_row (fun z hz => kind_len (v.dd z hz)) v.dl
  rw [voc_eq hd, hb]
theorem all_strs {t : Tg} {fi : Ea S} {f : Ev S} {vs : List Nat} {ρ : Rho} (p : Str → Bool) {xs : List Str} (hi : fi ρ s = some (xs.map .str, s)) (h : ∀ z ∈ xs, ∃ ρ1, t (.str z) (wipeR ρ vs) = some ρ1 ∧ f ρ1 s = some (.bool (p z), s)) : cQu false fi t qYes f vs ρ s = some (.bool (xs.all p), s) := by
  refine Eq.trans (k_all (S := S) (fun _ => true) (fun d => match d with | .str z => p z | _ => false) hi fun d hd => ?_) ?_
  · obtain ⟨z, hz, rfl⟩ := List.mem_map.mp hd
    obtain ⟨ρ1, h1, h2⟩ := h z hz
    exact ⟨ρ1, h1, rfl, fun _ => h2⟩
  · rw [List.filter_eq_self.mpr (fun _ _ => rfl), List.all_map]
    rfl
abbrev Pof (m : Nat) : Fn S := K_is_of (Fif m) Pvoc (K_doings_of (Fall m)) (K_kinds_of (Fall m) (K_counted_kinds (Fall m))) (Fno m)
/-- what is needed of a form -/
structure Fb (m : Nat) (K : List Str) (f : Fo) : Prop where
  w : wf f
  d : f.dep < m
  z : (parts f).length ≤ 1000
  c : cnt f ≤ 200
  k : (cks f).length ≤ 1000
  i : ∀ z, z ∈ kis f ∨ z ∈ cks f → z ∈ K
  l : K.length ≤ 30
def ofB (n k d : List Str) (f : Fo) : Bool := ((nms f).all fun z => decide (z ∈ n)) && (((kds f).all fun z => decide (z ∈ k)) && (dos f).all fun z => decide (z ∈ d))
theorem of_eq {m : Nat} {n k d K : List Str} {f : Fo} (v : Vw n k d) (b : Fb m K f) : Pof m [vocD n k d, f.d] s = some (.bool (ofB n k d f), s) := by
  have e1 := v.eq (s := s)
  have e2 := form_true f m s b.w b.d
  have e3 := no_eq (s := s) b.d b.w b.z b.c
  have e4 := kinds_eq (s := s) b.d b.z b.k b.i b.l
  have e5 := doings_eq (s := s) b.d b.z
  refine ok_eq ?_
  unfold Pof K_is_of B_is_of
  refine k_fn (k_seq (k_sIf ?_))
  walk_at "E"
  refine ⟨_, _, e1, ?_⟩
  walk_at "E"
  refine ⟨_, _, e2, ?_⟩
  walk_at "E"
  refine k_nx (k_seq (k_asg ?_))
  walk_at "E"
  refine ⟨_, rfl, ?_⟩
  refine k_ret ?_
  have a1 : cQu false (iOf asT (cCall 1 (Fno m) (aCons (cVar 1) aNil))) (gNm 5) qYes (cB pIn (cVar 5) (cVar 2)) [5] [some (vocD n k d), some f.d, some (.tuple (n.map .str)), some (.tuple (k.map .str)), some (.tuple (d.map .str)), none, none, none] s = some (.bool ((nms f).all fun z => decide (z ∈ n)), s) := by
    refine all_strs _ (xs := nms f) ?_ fun z hz => ⟨_, rfl, ?_⟩
    · refine ok_eqL ?_
      walk_at "E"
      exact ⟨_, _, e3, by walk_at "E"⟩
    · show put (pIn (.str z) (.tuple (n.map .str))) s = _
      rw [in_strs]
      rfl
  have a2 : cQu false (iOf asT (cCall 1 (K_kinds_of (Fall m) (K_counted_kinds (Fall m))) (aCons (cVar 1) aNil))) (gNm 6) qYes (cB pIn (cVar 6) (cVar 3)) [6] [some (vocD n k d), some f.d, some (.tuple (n.map .str)), some (.tuple (k.map .str)), some (.tuple (d.map .str)), none, none, none] s = some (.bool ((kds f).all fun z => decide (z ∈ k)), s) := by
    refine all_strs _ (xs := kds f) ?_ fun z hz => ⟨_, rfl, ?_⟩
    · refine ok_eqL ?_
      walk_at "E"
      exact ⟨_, _, e4, by walk_at "E"⟩
    · show put (pIn (.str z) (.tuple (k.map .str))) s = _
      rw [in_strs]
      rfl
  have a3 : cQu false (iOf asT (cCall 1 (K_doings_of (Fall m)) (aCons (cVar 1) aNil))) (gNm 7) qYes (cB pIn (cVar 7) (cVar 4)) [7] [some (vocD n k d), some f.d, some (.tuple (n.map .str)), some (.tuple (k.map .str)), some (.tuple (d.map .str)), none, none, none] s = some (.bool ((dos f).all fun z => decide (z ∈ d)), s) := by
    refine all_strs _ (xs := dos f) ?_ fun z hz => ⟨_, rfl, ?_⟩
    · refine ok_eqL ?_
      walk_at "E"
      exact ⟨_, _, e5, by walk_at "E"⟩
    · show put (pIn (.str z) (.tuple (d.map .str))) s = _
      rw [in_strs]
      rfl
  unfold ofB
  walk_at "E"
  refine ⟨_, _, a1, ?_⟩
  cases (nms f).all fun z => decide (z ∈ n) with
  | false => simp_arith [Bool.false_and]
  | true =>
    walk_at "E"
    refine ⟨_, _, a2, ?_⟩
    cases (kds f).all fun z => decide (z ∈ k) with
    | false => simp_arith [Bool.false_and]
    | true =>
      walk_at "E"
      exact ⟨_, _, a3, rfl, rfl⟩
end
end Lw06
set_option Elab.async false
set_option linter.all false
set_option maxRecDepth 100000
set_option maxHeartbeats 4000000
/-! x = w.pop(), x = w.pop(0), w an own list -/
namespace Dl
open PySem PySem.Spec PyProof.Rows L2
section
variable {S : Type} {X : Cx} {G : Kx} {Z : Zk S} {W : List Nat} {f : Ev S} {st : Stmt} {tg : Expr}
theorem Reps.cut1 {B : Bar} {H : Hp} : ∀ {ds : List D} {vs : List V}, Reps G B H ds vs → Reps G B H ds.dropLast vs.dropLast
  | [], vs, h => by simp only [Reps] at h; subst h; exact Reps.nil
  | d :: ds, vs, h => by
    simp only [Reps] at h
    obtain ⟨v, us, rfl, h1, h2⟩ := h
    have hl := h2.len
    cases ds with
    | nil =>
      cases us with
      | nil => exact Reps.nil
      | cons u us => simp at hl
    | cons e ds =>
      cases us with
      | nil => simp at hl
      | cons u us => exact Reps.cons h1 (Reps.cut1 h2)
end
end Dl
set_option Elab.async false
set_option linter.all false
set_option maxRecDepth 100000
set_option maxHeartbeats 4000000
/-! range with a step -/
namespace Dl
open PySem PySem.Spec PyProof.Rows L2
section
variable {S : Type} {X : Cx} {G : Kx} {Z : Zk S} {W : List Nat} {tg a b c : Expr} {pos p : Pos}
end
end Dl
set_option Elab.async false
set_option linter.all false
set_option maxRecDepth 100000
set_option maxHeartbeats 4000000
/-! w + e, w an own list: no flatness is asked -/
namespace Dl
open PySem PySem.Spec PyProof.Rows L2
section
variable {S : Type} {X : Cx} {G : Kx} {Z : Zk S} {W : List Nat} {g : Ev S} {a b : Expr} {pos : Pos}
end
end Dl
set_option Elab.async false
set_option linter.all false
set_option maxRecDepth 100000
set_option maxHeartbeats 4000000
namespace Lw03
open PySem PySem.Spec PyProof.Rows L2 Dl
-- _law_within: slots _law_form_here 0
def B_w_told {S : Type}  : Sv S :=
    (sSeq (sIf (qOr (qNot (qT (cU (pIsi "tuple") (cVar 0)))) (qT (cB pNe (cNl (aN pList (aCons (cVar 0) aNil))) (cVar 1))))
    (sRet (cK (.bool false)))
    sNx)
    (sRet (cB pEq (cNl (lcF (iOf asT (cVar 0)) (gNm 2) (qNot (qT (cU (pIsi "str") (cVar 2)))) (cVar 2) [2])) (cN pLst aNil))))
def K_w_told {S : Type}  : Fn S := fnD 3 (B_w_told )

-- _law_wide: slots _law_deck_here 0, _law_words_here 1, _law_forms 2, _law_k 3; cells _law_deck_here, _law_words_here
def B_w_right {S : Type} (F_parts_of : Fn S) (F_w_parts : Fn S) (F_w_told : Fn S) (F_w_named : Fn S) (F_names_of : Fn S) (F_w_free : Fn S) (F_free_letters : Fn S) : Sv S :=
    (sSeq (sSet 1 (cCall 1 F_parts_of (aCons (cVar 0) aNil)))
    (sSeq (sIf (qOr (qNot (qT (cU (pIsi "tuple") (cVar 1)))) (qOr (qT (cB pNe (cNl (aN pList (aCons (cVar 1) aNil))) (cCall 1 F_w_parts (aCons (cVar 0) aNil)))) (qT (cB pNe (cCall 1 F_parts_of (aCons (cVar 0) aNil)) (cVar 1)))))
    (sRet (cK (.bool false)))
    sNx)
    (sRet (cAnd (cCall 2 F_w_told (aCons (cCall 1 F_free_letters (aCons (cVar 0) aNil)) (aCons (cCall 1 F_w_free (aCons (cVar 0) aNil)) aNil))) (cCall 2 F_w_told (aCons (cCall 1 F_names_of (aCons (cVar 0) aNil)) (aCons (cCall 1 F_w_named (aCons (cVar 0) aNil)) aNil)))))))
def K_w_right {S : Type} (F_parts_of : Fn S) (F_w_parts : Fn S) (F_w_told : Fn S) (F_w_named : Fn S) (F_names_of : Fn S) (F_w_free : Fn S) (F_free_letters : Fn S) : Fn S := fnD 2 (B_w_right F_parts_of F_w_parts F_w_told F_w_named F_names_of F_w_free F_free_letters)

end Lw03
set_option Elab.async false
set_option linter.all false
set_option maxRecDepth 100000
set_option maxHeartbeats 1000000
/-! k03: the law's own parts and terms, as equations -/
namespace Lw03
open PySem PySem.Spec L2 Dl Mx Ds Lw01 Lw41
open Lw04 (subs terms parts parts_all isJ h_j)
open Lw30 (Fo Fo.d Fo.dep Fo.head Fo.row Fo.bound d_row head9 Fo.isQ h_q)
section
variable {S : Type} {s : S} {ρ ρ1 : Rho} {Q : Rs → S → Prop}
theorem flat_pts : ∀ ps : List Pt, flatDs (ps.map ptD) = true
  | [] => rfl
  | p :: ps => by
    show (flatD (ptD p) && flatDs (ps.map ptD)) = true
    rw [flat_pts ps]
    rfl
theorem flat_tot (t : Tot) : flatD (totD t) = true := by
  show (flatDs (t.1.map ptD) && (true && true)) = true
  rw [flat_pts]
  rfl
theorem flat_fo : ∀ f : Fo, flatD f.d = true
  | .is _ _ => rfl
  | .does _ _ _ => rfl
  | .same _ _ => rfl
  | .least a b => by
    show (true && (flatD (totD a) && (flatD (totD b) && true))) = true
    rw [flat_tot, flat_tot]
    rfl
  | .fals => rfl
  | .no f => by show (true && (flatD f.d && true)) = true; rw [flat_fo f]; rfl
  | .jn w f g => by show (true && (flatD f.d && (flatD g.d && true))) = true; rw [flat_fo f, flat_fo g]; rfl
  | .qu w x f => by show (true && (true && (flatD f.d && true))) = true; rw [flat_fo f]; rfl
end
end Lw03
set_option Elab.async false
set_option linter.all false
set_option maxRecDepth 100000
set_option maxHeartbeats 1000000
/-! k03: the law's names, as an equation -/
namespace Lw03
open PySem PySem.Spec L2 Dl Mx Ds Lw01 Lw41
open Lw04 (subs terms parts parts_all alls alls_ter alls_cnt nms terB letB uvS letL letL_cons name_let ter_len comp_keep cnt wf)
open Lw30 (Fo Fo.d)
section
variable {S : Type} {s : S}
end
end Lw03
set_option Elab.async false
set_option linter.all false
set_option maxRecDepth 100000
set_option maxHeartbeats 1000000
/-! the law's words, as an equation; which words a form has -/
namespace Lw06
open PySem PySem.Spec L2 Dl Mx Ds Lw01 Lw04
open Lw41 (Tot totD Pt ptD take_snoc)
open Lw30 (Fo Fo.d Fo.dep Fo.row d_row head9 Fo.isQ h_q)
section
variable {S : Type} {s : S}
end
end Lw06
set_option Elab.async false
set_option linter.all false
set_option maxRecDepth 100000
set_option maxHeartbeats 1000000
/-! which words a form has -/
namespace Lw06
open PySem PySem.Spec L2 Dl Mx Ds Lw01 Lw04
open Lw41 (Tot totD Pt ptD take_snoc)
open Lw30 (Fo Fo.d Fo.dep Fo.put)
theorem part_of {n k d : List Str} : ∀ f : Fo, OfV n k d f → ∀ g ∈ parts f, OfV n k d g
  | .is t c, h, g, hg => by rw [List.mem_singleton.mp hg]; exact h
  | .does e t u, h, g, hg => by rw [List.mem_singleton.mp hg]; exact h
  | .same t u, h, g, hg => by rw [List.mem_singleton.mp hg]; exact h
  | .least a b, h, g, hg => by rw [List.mem_singleton.mp hg]; exact h
  | .fals, h, g, hg => by rw [List.mem_singleton.mp hg]; exact h
  | .no f, h, g, hg => (List.mem_cons.mp hg).elim (fun e => by rw [e]; exact h) fun hg => part_of f h g hg
  | .jn j f f2, h, g, hg => (List.mem_cons.mp hg).elim (fun e => by rw [e]; exact h) fun hg => (List.mem_append.mp hg).elim (fun hg => part_of f h.1 g hg) fun hg => part_of f2 h.2 g hg
  | .qu q x f, h, g, hg => (List.mem_cons.mp hg).elim (fun e => by rw [e]; exact h) fun hg => part_of f h g hg
section
variable {n k d : List Str} {f : Fo} {z : Str}
theorem nms_in (o : OfV n k d f) (h : z ∈ nms f) : z ∈ n := by
  obtain ⟨h1, h2⟩ := mem_nms.mp h
  obtain ⟨g, hg, hz⟩ := List.mem_flatMap.mp h2
  have og := part_of f o g hg
  have hl := name_let h1
  have key : Tm n z → z ∈ n := fun t => t.elim (fun t => by rw [hl] at t; cases t) id
  cases g with
  | is t c => rw [List.mem_singleton.mp hz] at key ⊢; exact key og.1
  | does e t u =>
    rcases List.mem_cons.mp hz with rfl | hz
    · exact key og.2.1
    · rw [List.mem_singleton.mp hz] at key ⊢; exact key og.2.2
  | same t u =>
    rcases List.mem_cons.mp hz with rfl | hz
    · exact key og.1
    · rw [List.mem_singleton.mp hz] at key ⊢; exact key og.2
  | _ => cases hz
theorem kis_in (o : OfV n k d f) (h : z ∈ kis f) : z ∈ k := by
  obtain ⟨g, hg, hz⟩ := List.mem_flatMap.mp h
  have og := part_of f o g hg
  cases g with
  | is t c => rw [List.mem_singleton.mp hz]; exact og.2
  | _ => cases hz
theorem cks_in (o : OfV n k d f) (h : z ∈ cks f) : z ∈ k := by
  obtain ⟨t, ht, hz⟩ := List.mem_flatMap.mp h
  obtain ⟨g, hg, ht⟩ := List.mem_flatMap.mp ht
  have og := part_of f o g hg
  cases g with
  | least a b =>
    rcases List.mem_cons.mp ht with rfl | ht
    · exact og.1.subset hz
    · rw [List.mem_singleton.mp ht] at hz; exact og.2.subset hz
  | _ => cases ht
theorem dis_in (o : OfV n k d f) (h : z ∈ dis f) : z ∈ d := by
  obtain ⟨g, hg, hz⟩ := List.mem_flatMap.mp h
  have og := part_of f o g hg
  cases g with
  | does e t u => rw [List.mem_singleton.mp hz]; exact og.1
  | _ => cases hz
theorem cks_len (o : OfV n k d f) : (cks f).length ≤ 2 * k.length * (parts f).length := by
  unfold cks
  have : ∀ fs : List Fo, (∀ g ∈ fs, OfV n k d g) → ((fs.flatMap tot1).flatMap tks).length ≤ 2 * k.length * fs.length := by
    intro fs
    induction fs with
    | nil => intro _; simp
    | cons g fs ih =>
      intro h
      have ih := ih fun x hx => h x (List.mem_cons_of_mem _ hx)
      have hg := h g List.mem_cons_self
      have hb : ((tot1 g).flatMap tks).length ≤ 2 * k.length := by
        cases g with
        | least a b =>
          have h1 := hg.1.length_le
          have h2 := hg.2.length_le
          simp only [tot1, List.flatMap_cons, List.flatMap_nil, List.append_nil, List.length_append, tks]
          omega
        | _ => simp [tot1]
      rw [List.flatMap_cons, List.flatMap_append, List.length_append, List.length_cons, Nat.mul_succ]
      omega
  exact this _ (part_of f o)
theorem kis_put (x m : Str) : ∀ f : Fo, kis (f.put x m) = kis f
  | .is t c => rfl
  | .does e t u => rfl
  | .same t u => rfl
  | .least a b => rfl
  | .fals => rfl
  | .no f => by show ((Fo.no (f.put x m) :: parts (f.put x m)).flatMap kin1) = _; exact kis_put x m f
  | .jn w f g => by
    have h1 := kis_put x m f
    have h2 := kis_put x m g
    unfold kis at h1 h2 ⊢
    show ((parts (f.put x m) ++ parts (g.put x m)).flatMap kin1) = (parts f ++ parts g).flatMap kin1
    rw [List.flatMap_append, List.flatMap_append, h1, h2]
  | .qu w y f => by
    unfold Fo.put
    split
    · rfl
    · show ((parts (f.put x m)).flatMap kin1) = _; exact kis_put x m f
theorem tot_put (x m : Str) : ∀ f : Fo, (parts (f.put x m)).flatMap tot1 = (parts f).flatMap tot1
  | .is t c => rfl
  | .does e t u => rfl
  | .same t u => rfl
  | .least a b => rfl
  | .fals => rfl
  | .no f => by show ((Fo.no (f.put x m) :: parts (f.put x m)).flatMap tot1) = _; exact tot_put x m f
  | .jn w f g => by
    have h1 := tot_put x m f
    have h2 := tot_put x m g
    show ((parts (f.put x m) ++ parts (g.put x m)).flatMap tot1) = (parts f ++ parts g).flatMap tot1
    rw [List.flatMap_append, List.flatMap_append, h1, h2]
  | .qu w y f => by
    unfold Fo.put
    split
    · rfl
    · show ((parts (f.put x m)).flatMap tot1) = _; exact tot_put x m f
theorem cks_put (x m : Str) (f : Fo) : cks (f.put x m) = cks f := by
  unfold cks
  rw [tot_put]
theorem Fb.put {N : Nat} {K : List Str} (b : Fb N K f) {x m : Str} (hm : nameB (.str m) = true) : Fb N K (f.put x m) := by
  refine ⟨wf_put hm f b.w, by rw [Lw30.put_dep]; exact b.d, by rw [prt_put]; exact b.z, by rw [cnt_put]; exact b.c, by rw [cks_put]; exact b.k, fun z h => b.i z ?_, b.l⟩
  rw [kis_put, cks_put] at h
  exact h
/-! the words looked at -/
/-- of a vocabulary just where each row holds its words -/
theorem ofB_iff {n' k' d' : List Str} : ofB n' k' d' f = true ↔ (∀ z ∈ nms f, z ∈ n') ∧ (∀ z ∈ kds f, z ∈ k') ∧ ∀ z ∈ dos f, z ∈ d' := by
  unfold ofB
  simp only [Bool.and_eq_true, List.all_eq_true, decide_eq_true_eq]
theorem ofB_eq {n' k' d' : List Str} {b : Bool} (h : b = true ↔ (∀ z ∈ nms f, z ∈ n') ∧ (∀ z ∈ kds f, z ∈ k') ∧ ∀ z ∈ dos f, z ∈ d') : ofB n' k' d' f = b := by
  rw [Bool.eq_iff_iff, ofB_iff, h]
theorem kds_in (o : OfV n k d f) (h : z ∈ kds f) : z ∈ k := (mem_kds.mp h).elim (kis_in o) (cks_in o)
theorem dos_in (o : OfV n k d f) (h : z ∈ dos f) : z ∈ d := dis_in o (mem_dos.mp h)
end
end Lw06
set_option Elab.async false
set_option linter.all false
set_option maxRecDepth 100000
set_option maxHeartbeats 2000000
/-! the vocabulary drawn: names, kinds, doings as they must be -/
namespace Lw29
open PySem PySem.Spec L2 Dl Mx Ds
open Lw01 (Voc vocD nameB kindB inAll sgD mk mk_cps mk_len mk_app ix_at join_eq inAll_app inAll_one smS grS name_mk barW smallB_str kindB_str ris_sort nodup_snoc)
open Lw23 (Fsigns K_w_signs B_w_signs K_w_unlike K_w_own own_eq ownW own_len own0 few_app few_le fil_le ok_unlike Unl cands cand upperS addS addS_len catS sortedS ix_ints ix_strs pr2 range_get sz0 sz1 sz2 sz3 sz4 sz5 sz6)
theorem ok_sg {s : DS} {n : Nat} (h : n ≤ 20) {Q : D → DS → Prop} (q : ∀ l s', l.length = n → inAll l smS = true → Q (.str (mk l)) s') : Ok (Fsigns [hnd 0, .int (n : Nat)] s) Q := by
  unfold Fsigns K_w_signs B_w_signs
  refine k_fn (k_seq (k_set ?_))
  walk_at "E"
  refine k_ret ?_
  walk_at "E"
  refine k_lcP (fun ds s' => ds = rngD 0 n) ?_ ?_
  · walk_at "E"
    exact ⟨_, pr1 (by omega) (by omega), rfl⟩
  rintro ds s1 rfl
  refine ⟨by rw [rng_len]; exact szL (by omega), fun j acc _ => ∃ l : List Nat, acc = l.map sgD ∧ l.length = j ∧ inAll l smS = true, ⟨[], rfl, rfl, rfl⟩, ?_, ?_⟩
  · rintro j d acc s2 hd ⟨l, rfl, hl, hx⟩
    refine ⟨_, rfl, ?_⟩
    walk_at "E"
    refine k_draw (by omega) (by omega) fun r s3 r0 r1 => ?_
    obtain ⟨c, c1, _, hc⟩ := ix_at (z := smS) (r := r) (by decide) r0 r1
    refine ⟨_, hc, l ++ [c], by simp; rfl, by simp [hl], ?_⟩
    rw [inAll_app, hx, inAll_one c1]
    rfl
  · rintro acc s2 ⟨l, rfl, hl, hx⟩
    rw [rng_len] at hl
    exact ⟨_, join_eq (by omega), q l _ (by omega) hx⟩
theorem up_all : (smS.cps.toList.all fun c => decide (Txt.upper (mk [c]) = mk [c - 32] ∧ c - 32 ∈ grS.cps.toList)) = true := by decide +kernel
theorem up_one {l : List Nat} (hl : l.length = 1) (h : inAll l smS = true) : ∃ c, c ∈ grS.cps.toList ∧ Txt.upper (mk l) = mk [c] := by
  match l, hl with
  | [c], _ =>
    have hc : c ∈ smS.cps.toList := of_decide_eq_true (List.all_eq_true.mp h c (by simp))
    have := of_decide_eq_true (List.all_eq_true.mp up_all c hc)
    exact ⟨c - 32, this.2, this.1⟩
/-- a name drawn: a great sign, some small ones -/
theorem name_up {l r : List Nat} (hl : l.length = 1) (h : inAll l smS = true) (hr : r.length ≤ 7) (hs : inAll r smS = true) : nameB (.str (Txt.upper (mk l) ++ mk r)) = true := by
  obtain ⟨c, hc, e⟩ := up_one hl h
  rw [e, mk_app]
  exact name_mk hc hr hs
theorem candQ : ∀ x ∈ cands "Q", nameB (.str x) = true := by
  have h : ((cands "Q").all fun x => nameB (.str x)) = true := by decide +kernel
  exact fun x hx => List.all_eq_true.mp h x hx
theorem candq : ∀ x ∈ cands "q", kindB (.str x) = true := by
  have h : ((cands "q").all fun x => kindB (.str x)) = true := by decide +kernel
  exact fun x hx => List.all_eq_true.mp h x hx
theorem bar_own : ∀ x ∈ barW, x ∈ ownW := by decide +kernel
theorem kind_sm {l : List Nat} (h2 : 2 ≤ l.length) (h8 : l.length ≤ 8) (hs : inAll l smS = true) (hn : mk l ∉ ownW) : kindB (.str (mk l)) = true := by
  rw [kindB_str, smallB_str, mk_len, mk_cps, hs]
  simp only [Bool.and_true]
  rw [decide_eq_true (show (2 : Int) ≤ (l.length : Int) by omega), decide_eq_true (show (l.length : Int) ≤ 8 by omega), decide_eq_false fun h => hn (bar_own _ h)]
  rfl
theorem unl_not {w a x : Str} {ns : List Str} (h : Unl w a ns x) : x ∉ ns := by
  rcases h with ⟨h, rfl⟩ | ⟨_, _, h⟩ <;> exact h
abbrev Fvoc : Fn DS := Lw23.Fvoc
theorem ok_voc {s : DS} {Q : D → DS → Prop} (q : ∀ n k d s', Voc n k d → d.length ≤ 3 → Q (vocD n k d) s') : Ok (Fvoc [hnd 0] s) Q := by
  unfold Fvoc Lw23.Fvoc Lw23.K_w_vocabulary Lw23.B_w_vocabulary
  simp only [e_fn, e_seq, e_asg, startR, sSet, sOwn, sRet, sIf, sNx, cB, cU, cK, cVar, cN, cCall, aNil, aCons, aN, aCat, cNl, cFl, aFl, qT, qNot, qAnd, qOr, cAnd, cOr, cNot, cIf, cSl, oNo, oOf, cCh, iOf, iOfA, qYes, ok_bnd, ok_some, ok_put, bnd_of, put_of, gNm, gTp, gC, gN0, List.map_cons, List.map_nil, List.length_cons, List.length_nil, List.replicate, List.cons_append, List.nil_append, List.set_cons_zero, List.set_cons_succ, List.getElem?_cons_zero, List.getElem?_cons_succ, Option.some.injEq, exists_eq_left', Option.bind_some, Nat.reduceAdd, Nat.reduceSub, Nat.sub_zero, Nat.sub_self, Nat.zero_add, Nat.reduceEqDiff, ↓reduceIte, pTup, pLst, lenOk, pI0, pI, pIB, asT, asL, asS, truth, asI, asB, flatD, flatDs, pSub, pMod, pEq, pLe, pGe, pGt, pLt, pIs, pIsNot, nonD, pTuple, pList, pInt, pNeg, Bool.not_true, Bool.not_false, if_true, if_false, Bool.and_self, Bool.true_and, Bool.and_true, Bool.false_eq_true, wipeR, sz0, sz1, sz2, sz3, sz4, sz5, sz6, own_eq]
  refine k_draw (by omega) (by omega) fun r s1 h0 h1 => ?_
  try simp only [e_fn, e_seq, e_asg, startR, sSet, sOwn, sRet, sIf, sNx, cB, cU, cK, cVar, cN, cCall, aNil, aCons, aN, aCat, cNl, cFl, aFl, qT, qNot, qAnd, qOr, cAnd, cOr, cNot, cIf, cSl, oNo, oOf, cCh, iOf, iOfA, qYes, ok_bnd, ok_some, ok_put, bnd_of, put_of, gNm, gTp, gC, gN0, List.map_cons, List.map_nil, List.length_cons, List.length_nil, List.replicate, List.cons_append, List.nil_append, List.set_cons_zero, List.set_cons_succ, List.getElem?_cons_zero, List.getElem?_cons_succ, Option.some.injEq, exists_eq_left', Option.bind_some, Nat.reduceAdd, Nat.reduceSub, Nat.sub_zero, Nat.sub_self, Nat.zero_add, Nat.reduceEqDiff, ↓reduceIte, pTup, pLst, lenOk, pI0, pI, pIB, asT, asL, asS, truth, asI, asB, flatD, flatDs, pSub, pMod, pEq, pLe, pGe, pGt, pLt, pIs, pIsNot, nonD, pTuple, pList, pInt, pNeg, Bool.not_true, Bool.not_false, if_true, if_false, Bool.and_self, Bool.true_and, Bool.and_true, Bool.false_eq_true, wipeR, sz0, sz1, sz2, sz3, sz4, sz5, sz6]
  obtain ⟨g, hg, g0, g1⟩ : ∃ g : Int, (if decide (r = 5) = true then 1 else 0) = g ∧ 0 ≤ g ∧ g < 2 := by
    by_cases e : r = 5
    · exact ⟨1, by simp [e], by omega, by omega⟩
    · exact ⟨0, by simp [e], by omega, by omega⟩
  rw [hg]
  obtain ⟨n1, hn1, e1⟩ := ix_ints (ns := [3, 7]) (r := g) g0 (by simpa using g1)
  obtain ⟨n2, hn2, e2⟩ := ix_ints (ns := [2, 7]) (r := g) g0 (by simpa using g1)
  obtain ⟨n3, hn3, e3⟩ := ix_ints (ns := [2, 4]) (r := g) g0 (by simpa using g1)
  have b1 : 3 ≤ n1 ∧ n1 ≤ 7 := by rcases List.mem_cons.mp hn1 with h | h <;> (try (have h : n1 = 7 := by simpa using h)) <;> omega
  have b2 : 2 ≤ n2 ∧ n2 ≤ 7 := by rcases List.mem_cons.mp hn2 with h | h <;> (try (have h : n2 = 7 := by simpa using h)) <;> omega
  have b3 : 2 ≤ n3 ∧ n3 ≤ 4 := by rcases List.mem_cons.mp hn3 with h | h <;> (try (have h : n3 = 4 := by simpa using h)) <;> omega
  simp only [List.map_cons, List.map_nil] at e1 e2 e3
  refine k_forP (fun ds _ => ∃ n : Nat, ds = rngD 0 n ∧ n ≤ 6) ?_ ?_
  · simp only [e_fn, e_seq, e_asg, startR, sSet, sOwn, sRet, sIf, sNx, cB, cU, cK, cVar, cN, cCall, aNil, aCons, aN, aCat, cNl, cFl, aFl, qT, qNot, qAnd, qOr, cAnd, cOr, cNot, cIf, cSl, oNo, oOf, cCh, iOf, iOfA, qYes, ok_bnd, ok_some, ok_put, bnd_of, put_of, gNm, gTp, gC, gN0, List.map_cons, List.map_nil, List.length_cons, List.length_nil, List.replicate, List.cons_append, List.nil_append, List.set_cons_zero, List.set_cons_succ, List.getElem?_cons_zero, List.getElem?_cons_succ, Option.some.injEq, exists_eq_left', Option.bind_some, Nat.reduceAdd, Nat.reduceSub, Nat.sub_zero, Nat.sub_self, Nat.zero_add, Nat.reduceEqDiff, ↓reduceIte, pTup, pLst, lenOk, pI0, pI, pIB, asT, asL, asS, truth, asI, asB, flatD, flatDs, pSub, pMod, pEq, pLe, pGe, pGt, pLt, pIs, pIsNot, nonD, pTuple, pList, pInt, pNeg, Bool.not_true, Bool.not_false, if_true, if_false, Bool.and_self, Bool.true_and, Bool.and_true, Bool.false_eq_true, wipeR, sz0, sz1, sz2, sz3, sz4, sz5, sz6, e1]
    exact k_draw (by omega) (by omega) fun m s2 m0 m1 => ⟨_, pr1 (by omega) (by omega), m.toNat, rfl, by omega⟩
  rintro _ s2 ⟨n, rfl, hn⟩
  refine ⟨fun j ρ _ => ∃ (ns : List Str) (y z : Option D), ns.length = j ∧ ns.Nodup ∧ (∀ x ∈ ns, nameB (.str x) = true) ∧ ρ = [some (hnd 0), some (.list (ownW.map .str)), some (.int g), some (.list (ns.map .str)), y, z, none, none], ⟨[], none, none, rfl, List.nodup_nil, (fun x h => nomatch h), rfl⟩, ?_, ?_⟩
  · rintro j d ρ s hd ⟨ns, y, z, hl, nd, hnm, rfl⟩
    obtain ⟨hj, rfl⟩ := range_get hd
    refine ⟨_, rfl, ?_⟩
    refine k_seq (k_set ?_)
    try simp only [e_fn, e_seq, e_asg, startR, sSet, sOwn, sRet, sIf, sNx, cB, cU, cK, cVar, cN, cCall, aNil, aCons, aN, aCat, cNl, cFl, aFl, qT, qNot, qAnd, qOr, cAnd, cOr, cNot, cIf, cSl, oNo, oOf, cCh, iOf, iOfA, qYes, ok_bnd, ok_some, ok_put, bnd_of, put_of, gNm, gTp, gC, gN0, List.map_cons, List.map_nil, List.length_cons, List.length_nil, List.replicate, List.cons_append, List.nil_append, List.set_cons_zero, List.set_cons_succ, List.getElem?_cons_zero, List.getElem?_cons_succ, Option.some.injEq, exists_eq_left', Option.bind_some, Nat.reduceAdd, Nat.reduceSub, Nat.sub_zero, Nat.sub_self, Nat.zero_add, Nat.reduceEqDiff, ↓reduceIte, pTup, pLst, lenOk, pI0, pI, pIB, asT, asL, asS, truth, asI, asB, flatD, flatDs, pSub, pMod, pEq, pLe, pGe, pGt, pLt, pIs, pIsNot, nonD, pTuple, pList, pInt, pNeg, Bool.not_true, Bool.not_false, if_true, if_false, Bool.and_self, Bool.true_and, Bool.and_true, Bool.false_eq_true, wipeR, sz0, sz1, sz2, sz3, sz4, sz5, sz6]
    refine ok_sg (n := 1) (by omega) fun l1 s3 hl1 hs1 => ?_
    rw [upperS (by rw [mk_len]; omega)]
    try simp only [e_fn, e_seq, e_asg, startR, sSet, sOwn, sRet, sIf, sNx, cB, cU, cK, cVar, cN, cCall, aNil, aCons, aN, aCat, cNl, cFl, aFl, qT, qNot, qAnd, qOr, cAnd, cOr, cNot, cIf, cSl, oNo, oOf, cCh, iOf, iOfA, qYes, ok_bnd, ok_some, ok_put, bnd_of, put_of, gNm, gTp, gC, gN0, List.map_cons, List.map_nil, List.length_cons, List.length_nil, List.replicate, List.cons_append, List.nil_append, List.set_cons_zero, List.set_cons_succ, List.getElem?_cons_zero, List.getElem?_cons_succ, Option.some.injEq, exists_eq_left', Option.bind_some, Nat.reduceAdd, Nat.reduceSub, Nat.sub_zero, Nat.sub_self, Nat.zero_add, Nat.reduceEqDiff, ↓reduceIte, pTup, pLst, lenOk, pI0, pI, pIB, asT, asL, asS, truth, asI, asB, flatD, flatDs, pSub, pMod, pEq, pLe, pGe, pGt, pLt, pIs, pIsNot, nonD, pTuple, pList, pInt, pNeg, Bool.not_true, Bool.not_false, if_true, if_false, Bool.and_self, Bool.true_and, Bool.and_true, Bool.false_eq_true, wipeR, sz0, sz1, sz2, sz3, sz4, sz5, sz6]
    refine k_draw (by omega) (by omega) fun i s4 i0 i1 => ?_
    obtain ⟨l, hl4, e4⟩ := ix_ints (ns := [0, 1, 2, 7]) (r := i) i0 (by simpa using i1)
    simp only [List.map_cons, List.map_nil] at e4
    rw [e4]
    have bl : 0 ≤ l ∧ l ≤ 7 := by simp at hl4; omega
    obtain ⟨l', rfl⟩ : ∃ l' : Nat, l = (l' : Nat) := ⟨l.toNat, by omega⟩
    try simp only [e_fn, e_seq, e_asg, startR, sSet, sOwn, sRet, sIf, sNx, cB, cU, cK, cVar, cN, cCall, aNil, aCons, aN, aCat, cNl, cFl, aFl, qT, qNot, qAnd, qOr, cAnd, cOr, cNot, cIf, cSl, oNo, oOf, cCh, iOf, iOfA, qYes, ok_bnd, ok_some, ok_put, bnd_of, put_of, gNm, gTp, gC, gN0, List.map_cons, List.map_nil, List.length_cons, List.length_nil, List.replicate, List.cons_append, List.nil_append, List.set_cons_zero, List.set_cons_succ, List.getElem?_cons_zero, List.getElem?_cons_succ, Option.some.injEq, exists_eq_left', Option.bind_some, Nat.reduceAdd, Nat.reduceSub, Nat.sub_zero, Nat.sub_self, Nat.zero_add, Nat.reduceEqDiff, ↓reduceIte, pTup, pLst, lenOk, pI0, pI, pIB, asT, asL, asS, truth, asI, asB, flatD, flatDs, pSub, pMod, pEq, pLe, pGe, pGt, pLt, pIs, pIsNot, nonD, pTuple, pList, pInt, pNeg, Bool.not_true, Bool.not_false, if_true, if_false, Bool.and_self, Bool.true_and, Bool.and_true, Bool.false_eq_true, wipeR, sz0, sz1, sz2, sz3, sz4, sz5, sz6]
    refine ok_sg (by omega) fun l2 s5 hl2 hs2 => ?_
    have hw := name_up hl1 hs1 (show l2.length ≤ 7 by omega) hs2
    have hwl := Lw04.name_len hw
    rw [addS (by rw [addS_len] at hwl; omega)]
    try simp only [e_fn, e_seq, e_asg, startR, sSet, sOwn, sRet, sIf, sNx, cB, cU, cK, cVar, cN, cCall, aNil, aCons, aN, aCat, cNl, cFl, aFl, qT, qNot, qAnd, qOr, cAnd, cOr, cNot, cIf, cSl, oNo, oOf, cCh, iOf, iOfA, qYes, ok_bnd, ok_some, ok_put, bnd_of, put_of, gNm, gTp, gC, gN0, List.map_cons, List.map_nil, List.length_cons, List.length_nil, List.replicate, List.cons_append, List.nil_append, List.set_cons_zero, List.set_cons_succ, List.getElem?_cons_zero, List.getElem?_cons_succ, Option.some.injEq, exists_eq_left', Option.bind_some, Nat.reduceAdd, Nat.reduceSub, Nat.sub_zero, Nat.sub_self, Nat.zero_add, Nat.reduceEqDiff, ↓reduceIte, pTup, pLst, lenOk, pI0, pI, pIB, asT, asL, asS, truth, asI, asB, flatD, flatDs, pSub, pMod, pEq, pLe, pGe, pGt, pLt, pIs, pIsNot, nonD, pTuple, pList, pInt, pNeg, Bool.not_true, Bool.not_false, if_true, if_false, Bool.and_self, Bool.true_and, Bool.and_true, Bool.false_eq_true, wipeR, sz0, sz1, sz2, sz3, sz4, sz5, sz6]
    refine k_app rfl (by rw [List.length_map]; exact szl (by omega)) ?_
    try simp only [e_fn, e_seq, e_asg, startR, sSet, sOwn, sRet, sIf, sNx, cB, cU, cK, cVar, cN, cCall, aNil, aCons, aN, aCat, cNl, cFl, aFl, qT, qNot, qAnd, qOr, cAnd, cOr, cNot, cIf, cSl, oNo, oOf, cCh, iOf, iOfA, qYes, ok_bnd, ok_some, ok_put, bnd_of, put_of, gNm, gTp, gC, gN0, List.map_cons, List.map_nil, List.length_cons, List.length_nil, List.replicate, List.cons_append, List.nil_append, List.set_cons_zero, List.set_cons_succ, List.getElem?_cons_zero, List.getElem?_cons_succ, Option.some.injEq, exists_eq_left', Option.bind_some, Nat.reduceAdd, Nat.reduceSub, Nat.sub_zero, Nat.sub_self, Nat.zero_add, Nat.reduceEqDiff, ↓reduceIte, pTup, pLst, lenOk, pI0, pI, pIB, asT, asL, asS, truth, asI, asB, flatD, flatDs, pSub, pMod, pEq, pLe, pGe, pGt, pLt, pIs, pIsNot, nonD, pTuple, pList, pInt, pNeg, Bool.not_true, Bool.not_false, if_true, if_false, Bool.and_self, Bool.true_and, Bool.and_true, Bool.false_eq_true, wipeR, sz0, sz1, sz2, sz3, sz4, sz5, sz6]
    refine ok_unlike (by omega) (by decide) ?_ fun x hx hxl => ?_
    · exact Nat.lt_of_le_of_lt (fil_le _ _) (by omega)
    try simp only [e_fn, e_seq, e_asg, startR, sSet, sOwn, sRet, sIf, sNx, cB, cU, cK, cVar, cN, cCall, aNil, aCons, aN, aCat, cNl, cFl, aFl, qT, qNot, qAnd, qOr, cAnd, cOr, cNot, cIf, cSl, oNo, oOf, cCh, iOf, iOfA, qYes, ok_bnd, ok_some, ok_put, bnd_of, put_of, gNm, gTp, gC, gN0, List.map_cons, List.map_nil, List.length_cons, List.length_nil, List.replicate, List.cons_append, List.nil_append, List.set_cons_zero, List.set_cons_succ, List.getElem?_cons_zero, List.getElem?_cons_succ, Option.some.injEq, exists_eq_left', Option.bind_some, Nat.reduceAdd, Nat.reduceSub, Nat.sub_zero, Nat.sub_self, Nat.zero_add, Nat.reduceEqDiff, ↓reduceIte, pTup, pLst, lenOk, pI0, pI, pIB, asT, asL, asS, truth, asI, asB, flatD, flatDs, pSub, pMod, pEq, pLe, pGe, pGt, pLt, pIs, pIsNot, nonD, pTuple, pList, pInt, pNeg, Bool.not_true, Bool.not_false, if_true, if_false, Bool.and_self, Bool.true_and, Bool.and_true, Bool.false_eq_true, wipeR, sz0, sz1, sz2, sz3, sz4, sz5, sz6]
    refine ⟨ns ++ [x], _, _, by simp [hl], nodup_snoc nd (unl_not hx), fun y hy => ?_, by rw [List.map_append]; rfl⟩
    rcases List.mem_append.mp hy with hy | hy
    · exact hnm y hy
    · rw [List.mem_singleton.mp hy]
      rcases hx with ⟨_, rfl⟩ | ⟨_, hx, _⟩
      · exact hw
      · exact candQ x hx
  rintro ρ s6 ⟨ns, y, z, hl, nd, hnm, rfl⟩
  rw [rng_len] at hl
  try simp only [e_fn, e_seq, e_asg, startR, sSet, sOwn, sRet, sIf, sNx, cB, cU, cK, cVar, cN, cCall, aNil, aCons, aN, aCat, cNl, cFl, aFl, qT, qNot, qAnd, qOr, cAnd, cOr, cNot, cIf, cSl, oNo, oOf, cCh, iOf, iOfA, qYes, ok_bnd, ok_some, ok_put, bnd_of, put_of, gNm, gTp, gC, gN0, List.map_cons, List.map_nil, List.length_cons, List.length_nil, List.replicate, List.cons_append, List.nil_append, List.set_cons_zero, List.set_cons_succ, List.getElem?_cons_zero, List.getElem?_cons_succ, Option.some.injEq, exists_eq_left', Option.bind_some, Nat.reduceAdd, Nat.reduceSub, Nat.sub_zero, Nat.sub_self, Nat.zero_add, Nat.reduceEqDiff, ↓reduceIte, pTup, pLst, lenOk, pI0, pI, pIB, asT, asL, asS, truth, asI, asB, flatD, flatDs, pSub, pMod, pEq, pLe, pGe, pGt, pLt, pIs, pIsNot, nonD, pTuple, pList, pInt, pNeg, Bool.not_true, Bool.not_false, if_true, if_false, Bool.and_self, Bool.true_and, Bool.and_true, Bool.false_eq_true, wipeR, sz0, sz1, sz2, sz3, sz4, sz5, sz6]
  -- kinds
  refine k_forP (fun ds _ => ∃ n : Nat, ds = rngD 0 n ∧ n ≤ 6) ?_ ?_
  · simp only [e_fn, e_seq, e_asg, startR, sSet, sOwn, sRet, sIf, sNx, cB, cU, cK, cVar, cN, cCall, aNil, aCons, aN, aCat, cNl, cFl, aFl, qT, qNot, qAnd, qOr, cAnd, cOr, cNot, cIf, cSl, oNo, oOf, cCh, iOf, iOfA, qYes, ok_bnd, ok_some, ok_put, bnd_of, put_of, gNm, gTp, gC, gN0, List.map_cons, List.map_nil, List.length_cons, List.length_nil, List.replicate, List.cons_append, List.nil_append, List.set_cons_zero, List.set_cons_succ, List.getElem?_cons_zero, List.getElem?_cons_succ, Option.some.injEq, exists_eq_left', Option.bind_some, Nat.reduceAdd, Nat.reduceSub, Nat.sub_zero, Nat.sub_self, Nat.zero_add, Nat.reduceEqDiff, ↓reduceIte, pTup, pLst, lenOk, pI0, pI, pIB, asT, asL, asS, truth, asI, asB, flatD, flatDs, pSub, pMod, pEq, pLe, pGe, pGt, pLt, pIs, pIsNot, nonD, pTuple, pList, pInt, pNeg, Bool.not_true, Bool.not_false, if_true, if_false, Bool.and_self, Bool.true_and, Bool.and_true, Bool.false_eq_true, wipeR, sz0, sz1, sz2, sz3, sz4, sz5, sz6, e1]
    exact k_draw (by omega) (by omega) fun m s2 m0 m1 => ⟨_, pr1 (by omega) (by omega), m.toNat, rfl, by omega⟩
  rintro _ s2 ⟨n', rfl, hn'⟩
  refine ⟨fun j ρ _ => ∃ (ks : List Str) (y : Option D), ks.length = j ∧ ks.Nodup ∧ (∀ x ∈ ks, kindB (.str x) = true) ∧ ρ = [some (hnd 0), some (.list (ownW.map .str)), some (.int g), some (.list (ns.map .str)), y, z, some (.list (ks.map .str)), none], ⟨[], y, rfl, List.nodup_nil, (fun x h => nomatch h), rfl⟩, ?_, ?_⟩
  · rintro j d ρ s hd ⟨ks, y, hl', ndk, hkd, rfl⟩
    obtain ⟨hj, rfl⟩ := range_get hd
    refine ⟨_, rfl, ?_⟩
    refine k_app rfl (by rw [List.length_map]; exact szl (by omega)) ?_
    try simp only [e_fn, e_seq, e_asg, startR, sSet, sOwn, sRet, sIf, sNx, cB, cU, cK, cVar, cN, cCall, aNil, aCons, aN, aCat, cNl, cFl, aFl, qT, qNot, qAnd, qOr, cAnd, cOr, cNot, cIf, cSl, oNo, oOf, cCh, iOf, iOfA, qYes, ok_bnd, ok_some, ok_put, bnd_of, put_of, gNm, gTp, gC, gN0, List.map_cons, List.map_nil, List.length_cons, List.length_nil, List.replicate, List.cons_append, List.nil_append, List.set_cons_zero, List.set_cons_succ, List.getElem?_cons_zero, List.getElem?_cons_succ, Option.some.injEq, exists_eq_left', Option.bind_some, Nat.reduceAdd, Nat.reduceSub, Nat.sub_zero, Nat.sub_self, Nat.zero_add, Nat.reduceEqDiff, ↓reduceIte, pTup, pLst, lenOk, pI0, pI, pIB, asT, asL, asS, truth, asI, asB, flatD, flatDs, pSub, pMod, pEq, pLe, pGe, pGt, pLt, pIs, pIsNot, nonD, pTuple, pList, pInt, pNeg, Bool.not_true, Bool.not_false, if_true, if_false, Bool.and_self, Bool.true_and, Bool.and_true, Bool.false_eq_true, wipeR, sz0, sz1, sz2, sz3, sz4, sz5, sz6]
    rw [e2]
    try simp only [e_fn, e_seq, e_asg, startR, sSet, sOwn, sRet, sIf, sNx, cB, cU, cK, cVar, cN, cCall, aNil, aCons, aN, aCat, cNl, cFl, aFl, qT, qNot, qAnd, qOr, cAnd, cOr, cNot, cIf, cSl, oNo, oOf, cCh, iOf, iOfA, qYes, ok_bnd, ok_some, ok_put, bnd_of, put_of, gNm, gTp, gC, gN0, List.map_cons, List.map_nil, List.length_cons, List.length_nil, List.replicate, List.cons_append, List.nil_append, List.set_cons_zero, List.set_cons_succ, List.getElem?_cons_zero, List.getElem?_cons_succ, Option.some.injEq, exists_eq_left', Option.bind_some, Nat.reduceAdd, Nat.reduceSub, Nat.sub_zero, Nat.sub_self, Nat.zero_add, Nat.reduceEqDiff, ↓reduceIte, pTup, pLst, lenOk, pI0, pI, pIB, asT, asL, asS, truth, asI, asB, flatD, flatDs, pSub, pMod, pEq, pLe, pGe, pGt, pLt, pIs, pIsNot, nonD, pTuple, pList, pInt, pNeg, Bool.not_true, Bool.not_false, if_true, if_false, Bool.and_self, Bool.true_and, Bool.and_true, Bool.false_eq_true, wipeR, sz0, sz1, sz2, sz3, sz4, sz5, sz6]
    refine k_draw (by omega) (by omega) fun i s4 i0 i1 => ?_
    simp only [e_fn, e_seq, e_asg, startR, sSet, sOwn, sRet, sIf, sNx, cB, cU, cK, cVar, cN, cCall, aNil, aCons, aN, aCat, cNl, cFl, aFl, qT, qNot, qAnd, qOr, cAnd, cOr, cNot, cIf, cSl, oNo, oOf, cCh, iOf, iOfA, qYes, ok_bnd, ok_some, ok_put, bnd_of, put_of, gNm, gTp, gC, gN0, List.map_cons, List.map_nil, List.length_cons, List.length_nil, List.replicate, List.cons_append, List.nil_append, List.set_cons_zero, List.set_cons_succ, List.getElem?_cons_zero, List.getElem?_cons_succ, Option.some.injEq, exists_eq_left', Option.bind_some, Nat.reduceAdd, Nat.reduceSub, Nat.sub_zero, Nat.sub_self, Nat.zero_add, Nat.reduceEqDiff, ↓reduceIte, pTup, pLst, lenOk, pI0, pI, pIB, asT, asL, asS, truth, asI, asB, flatD, flatDs, pSub, pMod, pEq, pLe, pGe, pGt, pLt, pIs, pIsNot, nonD, pTuple, pList, pInt, pNeg, Bool.not_true, Bool.not_false, if_true, if_false, Bool.and_self, Bool.true_and, Bool.and_true, Bool.false_eq_true, wipeR, sz0, sz1, sz2, sz3, sz4, sz5, sz6, pAdd]
    obtain ⟨i', rfl⟩ : ∃ i' : Nat, i = (i' : Nat) := ⟨i.toNat, by omega⟩
    rw [show (2 : Int) + (i' : Nat) = ((2 + i' : Nat) : Int) by omega]
    refine ok_sg (by omega) fun l2 s5 hl2 hs2 => ?_
    rw [show (if (ownW.map PyData.str).length + (ks.map PyData.str).length ≤ sizeLine then some (PyData.list (ownW.map PyData.str ++ ks.map PyData.str)) else none) = pAdd (.list (ownW.map .str)) (.list (ks.map .str)) from rfl, catS (by rw [own_len]; omega)]
    try simp only [e_fn, e_seq, e_asg, startR, sSet, sOwn, sRet, sIf, sNx, cB, cU, cK, cVar, cN, cCall, aNil, aCons, aN, aCat, cNl, cFl, aFl, qT, qNot, qAnd, qOr, cAnd, cOr, cNot, cIf, cSl, oNo, oOf, cCh, iOf, iOfA, qYes, ok_bnd, ok_some, ok_put, bnd_of, put_of, gNm, gTp, gC, gN0, List.map_cons, List.map_nil, List.length_cons, List.length_nil, List.replicate, List.cons_append, List.nil_append, List.set_cons_zero, List.set_cons_succ, List.getElem?_cons_zero, List.getElem?_cons_succ, Option.some.injEq, exists_eq_left', Option.bind_some, Nat.reduceAdd, Nat.reduceSub, Nat.sub_zero, Nat.sub_self, Nat.zero_add, Nat.reduceEqDiff, ↓reduceIte, pTup, pLst, lenOk, pI0, pI, pIB, asT, asL, asS, truth, asI, asB, flatD, flatDs, pSub, pMod, pEq, pLe, pGe, pGt, pLt, pIs, pIsNot, nonD, pTuple, pList, pInt, pNeg, Bool.not_true, Bool.not_false, if_true, if_false, Bool.and_self, Bool.true_and, Bool.and_true, Bool.false_eq_true, wipeR, sz0, sz1, sz2, sz3, sz4, sz5, sz6]
    refine ok_unlike (by rw [mk_len]; omega) (by decide) (few_app own0 (fil_le _ _) (by omega)) fun x hx hxl => ?_
    try simp only [e_fn, e_seq, e_asg, startR, sSet, sOwn, sRet, sIf, sNx, cB, cU, cK, cVar, cN, cCall, aNil, aCons, aN, aCat, cNl, cFl, aFl, qT, qNot, qAnd, qOr, cAnd, cOr, cNot, cIf, cSl, oNo, oOf, cCh, iOf, iOfA, qYes, ok_bnd, ok_some, ok_put, bnd_of, put_of, gNm, gTp, gC, gN0, List.map_cons, List.map_nil, List.length_cons, List.length_nil, List.replicate, List.cons_append, List.nil_append, List.set_cons_zero, List.set_cons_succ, List.getElem?_cons_zero, List.getElem?_cons_succ, Option.some.injEq, exists_eq_left', Option.bind_some, Nat.reduceAdd, Nat.reduceSub, Nat.sub_zero, Nat.sub_self, Nat.zero_add, Nat.reduceEqDiff, ↓reduceIte, pTup, pLst, lenOk, pI0, pI, pIB, asT, asL, asS, truth, asI, asB, flatD, flatDs, pSub, pMod, pEq, pLe, pGe, pGt, pLt, pIs, pIsNot, nonD, pTuple, pList, pInt, pNeg, Bool.not_true, Bool.not_false, if_true, if_false, Bool.and_self, Bool.true_and, Bool.and_true, Bool.false_eq_true, wipeR, sz0, sz1, sz2, sz3, sz4, sz5, sz6]
    have hn := unl_not hx
    refine ⟨ks ++ [x], _, by simp [hl'], nodup_snoc ndk fun h => hn (List.mem_append_right _ h), fun y hy => ?_, by rw [List.map_append]; rfl⟩
    rcases List.mem_append.mp hy with hy | hy
    · exact hkd y hy
    · rw [List.mem_singleton.mp hy]
      rcases hx with ⟨h1, rfl⟩ | ⟨_, hx, _⟩
      · exact kind_sm (by omega) (by omega) hs2 fun h => h1 (List.mem_append_left _ h)
      · exact candq x hx
  rintro ρ s7 ⟨ks, y, hl', ndk, hkd, rfl⟩
  rw [rng_len] at hl'
  try simp only [e_fn, e_seq, e_asg, startR, sSet, sOwn, sRet, sIf, sNx, cB, cU, cK, cVar, cN, cCall, aNil, aCons, aN, aCat, cNl, cFl, aFl, qT, qNot, qAnd, qOr, cAnd, cOr, cNot, cIf, cSl, oNo, oOf, cCh, iOf, iOfA, qYes, ok_bnd, ok_some, ok_put, bnd_of, put_of, gNm, gTp, gC, gN0, List.map_cons, List.map_nil, List.length_cons, List.length_nil, List.replicate, List.cons_append, List.nil_append, List.set_cons_zero, List.set_cons_succ, List.getElem?_cons_zero, List.getElem?_cons_succ, Option.some.injEq, exists_eq_left', Option.bind_some, Nat.reduceAdd, Nat.reduceSub, Nat.sub_zero, Nat.sub_self, Nat.zero_add, Nat.reduceEqDiff, ↓reduceIte, pTup, pLst, lenOk, pI0, pI, pIB, asT, asL, asS, truth, asI, asB, flatD, flatDs, pSub, pMod, pEq, pLe, pGe, pGt, pLt, pIs, pIsNot, nonD, pTuple, pList, pInt, pNeg, Bool.not_true, Bool.not_false, if_true, if_false, Bool.and_self, Bool.true_and, Bool.and_true, Bool.false_eq_true, wipeR, sz0, sz1, sz2, sz3, sz4, sz5, sz6]
  -- doings
  refine k_forP (fun ds _ => ∃ n : Nat, ds = rngD 0 n ∧ n ≤ 3) ?_ ?_
  · simp only [e_fn, e_seq, e_asg, startR, sSet, sOwn, sRet, sIf, sNx, cB, cU, cK, cVar, cN, cCall, aNil, aCons, aN, aCat, cNl, cFl, aFl, qT, qNot, qAnd, qOr, cAnd, cOr, cNot, cIf, cSl, oNo, oOf, cCh, iOf, iOfA, qYes, ok_bnd, ok_some, ok_put, bnd_of, put_of, gNm, gTp, gC, gN0, List.map_cons, List.map_nil, List.length_cons, List.length_nil, List.replicate, List.cons_append, List.nil_append, List.set_cons_zero, List.set_cons_succ, List.getElem?_cons_zero, List.getElem?_cons_succ, Option.some.injEq, exists_eq_left', Option.bind_some, Nat.reduceAdd, Nat.reduceSub, Nat.sub_zero, Nat.sub_self, Nat.zero_add, Nat.reduceEqDiff, ↓reduceIte, pTup, pLst, lenOk, pI0, pI, pIB, asT, asL, asS, truth, asI, asB, flatD, flatDs, pSub, pMod, pEq, pLe, pGe, pGt, pLt, pIs, pIsNot, nonD, pTuple, pList, pInt, pNeg, Bool.not_true, Bool.not_false, if_true, if_false, Bool.and_self, Bool.true_and, Bool.and_true, Bool.false_eq_true, wipeR, sz0, sz1, sz2, sz3, sz4, sz5, sz6, e3]
    exact k_draw (by omega) (by omega) fun m s2 m0 m1 => ⟨_, pr1 (by omega) (by omega), m.toNat, rfl, by omega⟩
  rintro _ s2 ⟨n'', rfl, hn''⟩
  refine ⟨fun j ρ _ => ∃ (ds : List Str) (y : Option D), ds.length = j ∧ ds.Nodup ∧ (∀ x ∈ ds, kindB (.str x) = true ∧ x ∉ ks) ∧ ρ = [some (hnd 0), some (.list (ownW.map .str)), some (.int g), some (.list (ns.map .str)), y, z, some (.list (ks.map .str)), some (.list (ds.map .str))], ⟨[], y, rfl, List.nodup_nil, (fun x h => nomatch h), rfl⟩, ?_, ?_⟩
  · rintro j d ρ s hd ⟨ds, y, hl'', ndd, hdd, rfl⟩
    obtain ⟨hj, rfl⟩ := range_get hd
    refine ⟨_, rfl, ?_⟩
    refine k_app rfl (by rw [List.length_map]; exact szl (by omega)) ?_
    try simp only [e_fn, e_seq, e_asg, startR, sSet, sOwn, sRet, sIf, sNx, cB, cU, cK, cVar, cN, cCall, aNil, aCons, aN, aCat, cNl, cFl, aFl, qT, qNot, qAnd, qOr, cAnd, cOr, cNot, cIf, cSl, oNo, oOf, cCh, iOf, iOfA, qYes, ok_bnd, ok_some, ok_put, bnd_of, put_of, gNm, gTp, gC, gN0, List.map_cons, List.map_nil, List.length_cons, List.length_nil, List.replicate, List.cons_append, List.nil_append, List.set_cons_zero, List.set_cons_succ, List.getElem?_cons_zero, List.getElem?_cons_succ, Option.some.injEq, exists_eq_left', Option.bind_some, Nat.reduceAdd, Nat.reduceSub, Nat.sub_zero, Nat.sub_self, Nat.zero_add, Nat.reduceEqDiff, ↓reduceIte, pTup, pLst, lenOk, pI0, pI, pIB, asT, asL, asS, truth, asI, asB, flatD, flatDs, pSub, pMod, pEq, pLe, pGe, pGt, pLt, pIs, pIsNot, nonD, pTuple, pList, pInt, pNeg, Bool.not_true, Bool.not_false, if_true, if_false, Bool.and_self, Bool.true_and, Bool.and_true, Bool.false_eq_true, wipeR, sz0, sz1, sz2, sz3, sz4, sz5, sz6]
    refine k_draw (by omega) (by omega) fun i s4 i0 i1 => ?_
    try simp only [e_fn, e_seq, e_asg, startR, sSet, sOwn, sRet, sIf, sNx, cB, cU, cK, cVar, cN, cCall, aNil, aCons, aN, aCat, cNl, cFl, aFl, qT, qNot, qAnd, qOr, cAnd, cOr, cNot, cIf, cSl, oNo, oOf, cCh, iOf, iOfA, qYes, ok_bnd, ok_some, ok_put, bnd_of, put_of, gNm, gTp, gC, gN0, List.map_cons, List.map_nil, List.length_cons, List.length_nil, List.replicate, List.cons_append, List.nil_append, List.set_cons_zero, List.set_cons_succ, List.getElem?_cons_zero, List.getElem?_cons_succ, Option.some.injEq, exists_eq_left', Option.bind_some, Nat.reduceAdd, Nat.reduceSub, Nat.sub_zero, Nat.sub_self, Nat.zero_add, Nat.reduceEqDiff, ↓reduceIte, pTup, pLst, lenOk, pI0, pI, pIB, asT, asL, asS, truth, asI, asB, flatD, flatDs, pSub, pMod, pEq, pLe, pGe, pGt, pLt, pIs, pIsNot, nonD, pTuple, pList, pInt, pNeg, Bool.not_true, Bool.not_false, if_true, if_false, Bool.and_self, Bool.true_and, Bool.and_true, Bool.false_eq_true, wipeR, sz0, sz1, sz2, sz3, sz4, sz5, sz6]
    rw [show pAdd (.int 2) (.int i) = some (.int (2 + i)) from rfl]
    try simp only [e_fn, e_seq, e_asg, startR, sSet, sOwn, sRet, sIf, sNx, cB, cU, cK, cVar, cN, cCall, aNil, aCons, aN, aCat, cNl, cFl, aFl, qT, qNot, qAnd, qOr, cAnd, cOr, cNot, cIf, cSl, oNo, oOf, cCh, iOf, iOfA, qYes, ok_bnd, ok_some, ok_put, bnd_of, put_of, gNm, gTp, gC, gN0, List.map_cons, List.map_nil, List.length_cons, List.length_nil, List.replicate, List.cons_append, List.nil_append, List.set_cons_zero, List.set_cons_succ, List.getElem?_cons_zero, List.getElem?_cons_succ, Option.some.injEq, exists_eq_left', Option.bind_some, Nat.reduceAdd, Nat.reduceSub, Nat.sub_zero, Nat.sub_self, Nat.zero_add, Nat.reduceEqDiff, ↓reduceIte, pTup, pLst, lenOk, pI0, pI, pIB, asT, asL, asS, truth, asI, asB, flatD, flatDs, pSub, pMod, pEq, pLe, pGe, pGt, pLt, pIs, pIsNot, nonD, pTuple, pList, pInt, pNeg, Bool.not_true, Bool.not_false, if_true, if_false, Bool.and_self, Bool.true_and, Bool.and_true, Bool.false_eq_true, wipeR, sz0, sz1, sz2, sz3, sz4, sz5, sz6]
    obtain ⟨i', rfl⟩ : ∃ i' : Nat, i = (i' : Nat) := ⟨i.toNat, by omega⟩
    rw [show (2 : Int) + (i' : Nat) = ((2 + i' : Nat) : Int) by omega]
    refine ok_sg (by omega) fun l2 s5 hl2 hs2 => ?_
    rw [catS (by rw [own_len]; omega)]
    try simp only [e_fn, e_seq, e_asg, startR, sSet, sOwn, sRet, sIf, sNx, cB, cU, cK, cVar, cN, cCall, aNil, aCons, aN, aCat, cNl, cFl, aFl, qT, qNot, qAnd, qOr, cAnd, cOr, cNot, cIf, cSl, oNo, oOf, cCh, iOf, iOfA, qYes, ok_bnd, ok_some, ok_put, bnd_of, put_of, gNm, gTp, gC, gN0, List.map_cons, List.map_nil, List.length_cons, List.length_nil, List.replicate, List.cons_append, List.nil_append, List.set_cons_zero, List.set_cons_succ, List.getElem?_cons_zero, List.getElem?_cons_succ, Option.some.injEq, exists_eq_left', Option.bind_some, Nat.reduceAdd, Nat.reduceSub, Nat.sub_zero, Nat.sub_self, Nat.zero_add, Nat.reduceEqDiff, ↓reduceIte, pTup, pLst, lenOk, pI0, pI, pIB, asT, asL, asS, truth, asI, asB, flatD, flatDs, pSub, pMod, pEq, pLe, pGe, pGt, pLt, pIs, pIsNot, nonD, pTuple, pList, pInt, pNeg, Bool.not_true, Bool.not_false, if_true, if_false, Bool.and_self, Bool.true_and, Bool.and_true, Bool.false_eq_true, wipeR, sz0, sz1, sz2, sz3, sz4, sz5, sz6]
    rw [catS (by simp [own_len]; omega)]
    try simp only [e_fn, e_seq, e_asg, startR, sSet, sOwn, sRet, sIf, sNx, cB, cU, cK, cVar, cN, cCall, aNil, aCons, aN, aCat, cNl, cFl, aFl, qT, qNot, qAnd, qOr, cAnd, cOr, cNot, cIf, cSl, oNo, oOf, cCh, iOf, iOfA, qYes, ok_bnd, ok_some, ok_put, bnd_of, put_of, gNm, gTp, gC, gN0, List.map_cons, List.map_nil, List.length_cons, List.length_nil, List.replicate, List.cons_append, List.nil_append, List.set_cons_zero, List.set_cons_succ, List.getElem?_cons_zero, List.getElem?_cons_succ, Option.some.injEq, exists_eq_left', Option.bind_some, Nat.reduceAdd, Nat.reduceSub, Nat.sub_zero, Nat.sub_self, Nat.zero_add, Nat.reduceEqDiff, ↓reduceIte, pTup, pLst, lenOk, pI0, pI, pIB, asT, asL, asS, truth, asI, asB, flatD, flatDs, pSub, pMod, pEq, pLe, pGe, pGt, pLt, pIs, pIsNot, nonD, pTuple, pList, pInt, pNeg, Bool.not_true, Bool.not_false, if_true, if_false, Bool.and_self, Bool.true_and, Bool.and_true, Bool.false_eq_true, wipeR, sz0, sz1, sz2, sz3, sz4, sz5, sz6]
    refine ok_unlike (by rw [mk_len]; omega) (by decide) ?_ fun x hx hxl => ?_
    · exact few_app (few_le own0 (fil_le _ _)) (fil_le _ _) (by omega)
    try simp only [e_fn, e_seq, e_asg, startR, sSet, sOwn, sRet, sIf, sNx, cB, cU, cK, cVar, cN, cCall, aNil, aCons, aN, aCat, cNl, cFl, aFl, qT, qNot, qAnd, qOr, cAnd, cOr, cNot, cIf, cSl, oNo, oOf, cCh, iOf, iOfA, qYes, ok_bnd, ok_some, ok_put, bnd_of, put_of, gNm, gTp, gC, gN0, List.map_cons, List.map_nil, List.length_cons, List.length_nil, List.replicate, List.cons_append, List.nil_append, List.set_cons_zero, List.set_cons_succ, List.getElem?_cons_zero, List.getElem?_cons_succ, Option.some.injEq, exists_eq_left', Option.bind_some, Nat.reduceAdd, Nat.reduceSub, Nat.sub_zero, Nat.sub_self, Nat.zero_add, Nat.reduceEqDiff, ↓reduceIte, pTup, pLst, lenOk, pI0, pI, pIB, asT, asL, asS, truth, asI, asB, flatD, flatDs, pSub, pMod, pEq, pLe, pGe, pGt, pLt, pIs, pIsNot, nonD, pTuple, pList, pInt, pNeg, Bool.not_true, Bool.not_false, if_true, if_false, Bool.and_self, Bool.true_and, Bool.and_true, Bool.false_eq_true, wipeR, sz0, sz1, sz2, sz3, sz4, sz5, sz6]
    have hn := unl_not hx
    refine ⟨ds ++ [x], _, by simp [hl''], nodup_snoc ndd fun h => hn (List.mem_append_right _ h), fun y hy => ?_, by rw [List.map_append]; rfl⟩
    rcases List.mem_append.mp hy with hy | hy
    · exact hdd y hy
    · rw [List.mem_singleton.mp hy]
      refine ⟨?_, fun h => hn (List.mem_append_left _ (List.mem_append_right _ h))⟩
      rcases hx with ⟨h1, rfl⟩ | ⟨_, hx, _⟩
      · exact kind_sm (by omega) (by omega) hs2 fun h => h1 (List.mem_append_left _ (List.mem_append_left _ h))
      · exact candq x hx
  rintro ρ s8 ⟨ds, y, hl'', ndd, hdd, rfl⟩
  rw [rng_len] at hl''
  try simp only [e_fn, e_seq, e_asg, startR, sSet, sOwn, sRet, sIf, sNx, cB, cU, cK, cVar, cN, cCall, aNil, aCons, aN, aCat, cNl, cFl, aFl, qT, qNot, qAnd, qOr, cAnd, cOr, cNot, cIf, cSl, oNo, oOf, cCh, iOf, iOfA, qYes, ok_bnd, ok_some, ok_put, bnd_of, put_of, gNm, gTp, gC, gN0, List.map_cons, List.map_nil, List.length_cons, List.length_nil, List.replicate, List.cons_append, List.nil_append, List.set_cons_zero, List.set_cons_succ, List.getElem?_cons_zero, List.getElem?_cons_succ, Option.some.injEq, exists_eq_left', Option.bind_some, Nat.reduceAdd, Nat.reduceSub, Nat.sub_zero, Nat.sub_self, Nat.zero_add, Nat.reduceEqDiff, ↓reduceIte, pTup, pLst, lenOk, pI0, pI, pIB, asT, asL, asS, truth, asI, asB, flatD, flatDs, pSub, pMod, pEq, pLe, pGe, pGt, pLt, pIs, pIsNot, nonD, pTuple, pList, pInt, pNeg, Bool.not_true, Bool.not_false, if_true, if_false, Bool.and_self, Bool.true_and, Bool.and_true, Bool.false_eq_true, wipeR, sz0, sz1, sz2, sz3, sz4, sz5, sz6]
  rw [sortedS (by omega), sortedS (by omega), sortedS (by omega)]
  try simp only [e_fn, e_seq, e_asg, startR, sSet, sOwn, sRet, sIf, sNx, cB, cU, cK, cVar, cN, cCall, aNil, aCons, aN, aCat, cNl, cFl, aFl, qT, qNot, qAnd, qOr, cAnd, cOr, cNot, cIf, cSl, oNo, oOf, cCh, iOf, iOfA, qYes, ok_bnd, ok_some, ok_put, bnd_of, put_of, gNm, gTp, gC, gN0, List.map_cons, List.map_nil, List.length_cons, List.length_nil, List.replicate, List.cons_append, List.nil_append, List.set_cons_zero, List.set_cons_succ, List.getElem?_cons_zero, List.getElem?_cons_succ, Option.some.injEq, exists_eq_left', Option.bind_some, Nat.reduceAdd, Nat.reduceSub, Nat.sub_zero, Nat.sub_self, Nat.zero_add, Nat.reduceEqDiff, ↓reduceIte, pTup, pLst, lenOk, pI0, pI, pIB, asT, asL, asS, truth, asI, asB, flatD, flatDs, pSub, pMod, pEq, pLe, pGe, pGt, pLt, pIs, pIsNot, nonD, pTuple, pList, pInt, pNeg, Bool.not_true, Bool.not_false, if_true, if_false, Bool.and_self, Bool.true_and, Bool.and_true, Bool.false_eq_true, wipeR, sz0, sz1, sz2, sz3, sz4, sz5, sz6]
  have me : ∀ {xs : List Str} {x : Str}, x ∈ sortS xs → x ∈ xs := fun h => (sortS_perm _).mem_iff.mp h
  refine q (sortS ns) (sortS ks) (sortS ds) _ ⟨?_, ?_, ?_, fun x h => hnm x (me h), fun x h => hkd x (me h), fun x h => (hdd x (me h)).1, ris_sort nd, ris_sort ndk, ris_sort ndd, fun x h h2 => (hdd x (me h2)).2 (me h)⟩ ?_
  · rw [(sortS_perm ns).length_eq]; omega
  · rw [(sortS_perm ks).length_eq]; omega
  · rw [(sortS_perm ds).length_eq]; omega
  · rw [(sortS_perm ds).length_eq]; omega
end Lw29
set_option Elab.async false
set_option linter.all false
set_option maxRecDepth 100000
set_option maxHeartbeats 4000000
/-! the forms drawn: their words stand where they may, their letters are bound -/
namespace Lw29
open PySem PySem.Spec L2 Dl Mx Ds Lw04
open Lw01 (Voc vocD nameB kindB inAll risS ris_pw)
open Lw41 (Tot totD Pt ptD take_snoc)
open Lw30 (Fo Fo.d Fo.dep Jw Qw)
open Lw23 (k_pick emp_map emp_dec bit ix_ints ix_strs)
/-- the sum's kinds are counted ones -/
def Ct (C : Option (List Str)) (t : Tot) : Prop := ∃ cs, C = some cs ∧ Sok t ∧ (t.1.map (·.1)).Sublist cs
def Cf (K : List Str) (C : Option (List Str)) (E L : List Str) : List Str → Fo → Prop
  | T, .is t c => t ∈ T ∧ c ∈ K
  | T, .does e t u => e ∈ E ∧ t ∈ T ∧ u ∈ T
  | T, .same t u => t ∈ T ∧ u ∈ T
  | _, .least a b => Ct C a ∧ Ct C b
  | _, .fals => True
  | T, .no f => Cf K C E L T f
  | T, .jn _ f g => Cf K C E L T f ∧ Cf K C E L T g
  | T, .qu _ x f => x ∈ L ∧ Cf K C E L (T ++ [x]) f
structure Stk (K : List Str) (C : Option (List Str)) (E L : List Str) : Prop where
  kl : K.length ≤ 100
  el : E.length ≤ 100
  ll : 0 < L.length ∧ L.length ≤ 100
  kd : ∀ x ∈ K, kindB (.str x) = true
  ed : ∀ x ∈ E, kindB (.str x) = true
  lt : ∀ x ∈ L, letB x = true
  c : ∀ cs, C = some cs → cs.length ≤ 100 ∧ (∀ x ∈ cs, kindB (.str x) = true) ∧ risS cs = true
section
variable {K E L : List Str} {C : Option (List Str)} {s : DS}
abbrev Fform := Lw23.Fform
end
end Lw29
set_option Elab.async false
set_option linter.all false
set_option maxRecDepth 100000
set_option maxHeartbeats 2000000
/-! the program's letters_of, with_words, meanings, as equations -/
namespace Lw29
open PySem PySem.Spec L2 Dl Mx Ds Lw04
open Lw06 hiding K_w_told B_w_told
open Lw01 (Voc vocD nameB kindB inAll risS ris_pw ris_sort dStrs_map)
open Lw30 (Fo Fo.d Fo.dep Fo.bound Jw Qw)
open Lw28 (K_letters_of B_letters_of K_with_words B_with_words K_meaning_letters B_meaning_letters K_is_meaning B_is_meaning K_are_meanings B_are_meanings K_catches_meaning B_catches_meaning K_form_fits B_form_fits)
section
variable {S : Type} {s : S}
/-- all letters of a form -/
def bnds (f : Fo) : List Str := (parts f).flatMap Fo.bound
def lts (f : Fo) : List Str := sortS (gath ((alls f).filter letB ++ bnds f))
theorem bnds_len (f : Fo) : (bnds f).length ≤ (parts f).length := by
  have := fm_len Fo.bound 1 (fun f => by cases f <;> simp [Fo.bound]) (parts f)
  show ((parts f).flatMap Fo.bound).length ≤ _
  omega
theorem lts_len (f : Fo) : (lts f).length ≤ cnt f + (parts f).length := by
  unfold lts
  rw [(sortS_perm _).length_eq]
  have h1 := gath_len ((alls f).filter letB ++ bnds f)
  rw [List.length_append] at h1
  have h2 := List.length_filter_le letB (alls f)
  rw [alls_cnt] at h2
  have h3 := bnds_len f
  omega
/-! words put in -/
def ww (a b : List Str) : List Str := sortS (gath (gath a ++ gath b))
theorem mem_ww {a b : List Str} {z : Str} : z ∈ ww a b ↔ z ∈ a ∨ z ∈ b := by
  unfold ww
  rw [(sortS_perm _).mem_iff, gath_mem, List.mem_append, gath_mem, gath_mem]
theorem ww_ris (a b : List Str) : risS (ww a b) = true := ris_sort (gath_nd _)
theorem ww_len (a b : List Str) : (ww a b).length ≤ a.length + b.length := by
  unfold ww
  rw [(sortS_perm _).length_eq]
  have h1 := gath_len (gath a ++ gath b)
  rw [List.length_append] at h1
  have h2 := gath_len a
  have h3 := gath_len b
  omega
/-! meanings -/
structure Mg where
  k : Str
  x : Str
  f : Fo
def Mg.d (m : Mg) : D := .tuple [.str m.k, .str m.x, m.f.d]
def mls (m : Mg) : List Str := m.x :: lts m.f
def kdsM (ms : List Mg) : List Str := ms.map Mg.k
def ltsM (ms : List Mg) : List Str := ms.flatMap mls
end
end Lw29
set_option Elab.async false
set_option linter.all false
set_option maxRecDepth 100000
set_option maxHeartbeats 4000000
namespace Lw23
open PySem PySem.Spec L2 Dl
section
variable {S : Type} {s : S}
theorem ok_eq {o : Option (D × S)} {d : D} (h : Ok o fun a b => a = d ∧ b = s) : o = some (d, s) := by
  obtain ⟨a, b, e, rfl, rfl⟩ := h
  exact e
theorem in_opW {w : Str} : pIn (.str w) d_OPENERS = some (.bool (decide (w ∈ opW))) := by
  have e : d_OPENERS = .tuple (opW.map .str) := rfl
  rw [e]
  simp only [pIn, inD, mem_strs]
  rfl
theorem is_opener_eq {d : D} {x : Ln} (h : LnD d x) : K_is_opener [d] s = some (.bool x.2, s) := by
  obtain ⟨y, wd, zs, rfl, hx⟩ := h
  apply ok_eq
  unfold K_is_opener B_is_opener
  refine k_fn (k_ret ?_)
  simp_arith [in_opW, hx]
/-! the openers around -/
def numD (a : Nat) : D := .int ((a + 1 : Nat) : Int)
def numsD (as : List Nat) : D := .tuple (as.map numD)
theorem LsD.take {xs : List D} {L : List Ln} (h : LsD xs L) (k : Nat) : LsD (xs.take k) (L.take k) := by
  refine ⟨by rw [List.length_take, List.length_take, h.1], fun i x hx => ?_⟩
  have hi : i < k := by
    apply Classical.byContradiction
    intro hn
    rw [List.getElem?_eq_none (by rw [List.length_take]; omega)] at hx
    cases hx
  rw [List.getElem?_take_of_lt hi] at hx
  obtain ⟨d, h1, h2⟩ := h.2 i x hx
  exact ⟨d, by rw [List.getElem?_take_of_lt hi]; exact h1, h2⟩
theorem cutD_to (xs : List D) (k : Nat) : cutD xs none (some (k : Int)) = xs.take k := by
  unfold cutD
  rw [HT.sIx_none, HT.sIx_nat, List.drop_zero, Nat.sub_zero]
  by_cases h : k ≤ xs.length
  · rw [Nat.min_eq_left h]
  · rw [Nat.min_eq_right (by omega), List.take_length, List.take_of_length_le (by omega)]
end
end Lw23
set_option Elab.async false
set_option linter.all false
set_option maxRecDepth 100000
set_option maxHeartbeats 4000000
namespace Lw23
open PySem PySem.Spec L2 Dl
section
variable {S : Type} {s : S}
theorem isi_int {i : Int} : pIsi "int" (.int i) = some (.bool true) := by
  show (L2.kitB "int" "int").map PyData.bool = some (PyData.bool true)
  rw [show L2.kitB "int" "int" = some true from by decide +kernel]
  rfl
theorem isi_intB {i : Int} : pIsi "bool" (.int i) = some (.bool false) := by
  show (L2.kitB "int" "bool").map PyData.bool = some (PyData.bool false)
  rw [show L2.kitB "int" "bool" = some false from by decide +kernel]
  rfl
theorem isi_tup {ds : List D} : pIsi "tuple" (.tuple ds) = some (.bool true) := by
  show (L2.kitB "tuple" "tuple").map PyData.bool = some (PyData.bool true)
  rw [show L2.kitB "tuple" "tuple" = some true from by decide +kernel]
  rfl
theorem whole_eq {i : Int} : K_w_whole [.int i] s = some (.bool true, s) := by
  apply ok_eq
  unfold K_w_whole B_w_whole
  refine k_fn (k_ret ?_)
  simp_arith [isi_int, isi_intB]
end
end Lw23
set_option Elab.async false
set_option linter.all false
set_option maxRecDepth 100000
set_option maxHeartbeats 2000000
/-! are_meanings, catches_meaning, form_fits, as equations -/
namespace Lw29
open PySem PySem.Spec L2 Dl Mx Ds Lw04
open Lw06 hiding K_w_told B_w_told
open Lw01 (Voc vocD nameB kindB kind_eq inAll risS ris_pw ris_sort dStrs_map)
open Lw30 (Fo Fo.d Fo.dep Fo.bound Jw Qw)
open Lw28 (K_is_meaning B_is_meaning K_are_meanings B_are_meanings K_catches_meaning B_catches_meaning K_form_fits B_form_fits)
section
variable {S : Type} {s : S}
/-- what is needed of a form drawn -/
structure Fz (f : Fo) : Prop where
  w : wf f
  d : f.dep < 6
  z : (parts f).length ≤ 50
  c : cnt f ≤ 50
  k : (cks f).length ≤ 1000
/-- a meaning behind these words, behind these letters -/
structure Mok (n k d : List Str) (ls : List Str) (m : Mg) : Prop where
  z : Fz m.f
  kk : kindB (.str m.k) = true
  nk : m.k ∉ k
  nd : m.k ∉ d
  x : letB m.x = true
  nm : ∀ z ∈ nms m.f, z ∈ n
  kd : ∀ z ∈ kds m.f, z ∈ k
  dd : ∀ z ∈ dos m.f, z ∈ d
  fr : ∀ z ∈ fr m.f, z = m.x
  nl : ∀ g ∈ parts m.f, g.head ≠ Str.ofString "least"
  l2 : ∀ z ∈ mls m, z.length = 2
  ne : ∀ z ∈ mls m, z ∉ ls
/-- meanings one behind another -/
def MsOk (n k d : List Str) (ms : List Mg) : Prop := ∀ i m, ms[i]? = some m → Mok n (k ++ kdsM (ms.take i)) d (ltsM (ms.take i)) m
theorem Mok.ext {n k d ls n' k' : List Str} {m : Mg} (o : Mok n k d ls m) (hn : ∀ z, z ∈ n' ↔ z ∈ n) (hk : ∀ z, z ∈ k' ↔ z ∈ k) : Mok n' k' d ls m :=
  ⟨o.z, o.kk, fun h => o.nk ((hk _).mp h), o.nd, o.x, fun z h => (hn z).mpr (o.nm z h), fun z h => (hk z).mpr (o.kd z h), o.dd, o.fr, o.nl, o.l2, o.ne⟩
theorem ltsM_len {n k d : List Str} {ms : List Mg} (h : MsOk n k d ms) : ∀ j, (ltsM (ms.take j)).length ≤ 101 * j
  | 0 => Nat.zero_le _
  | j + 1 => by
    have ih := ltsM_len h j
    cases e : ms[j]? with
    | none =>
      have hj : ms.length ≤ j := by
        refine Nat.le_of_not_lt fun c => ?_
        rw [List.getElem?_eq_getElem c] at e
        cases e
      rw [List.take_of_length_le (by omega)]
      rw [List.take_of_length_le (by omega)] at ih
      omega
    | some m =>
      have z := (h j m e).z
      have h1 := lts_len m.f
      have h2 := z.z
      have h3 := z.c
      rw [Lw41.take_snoc e]
      unfold ltsM at ih ⊢
      rw [List.flatMap_append, List.length_append]
      have : ([m].flatMap mls).length = (lts m.f).length + 1 := by simp [mls]
      omega
end
end Lw29
set_option Elab.async false
set_option linter.all false
set_option maxRecDepth 100000
set_option maxHeartbeats 2000000
/-! catches_meaning, form_fits, as equations -/
namespace Lw29
open PySem PySem.Spec L2 Dl Mx Ds Lw04
open Lw06 hiding K_w_told B_w_told
open Lw01 (Voc vocD nameB kindB inAll risS ris_pw ris_sort dStrs_map)
open Lw30 (Fo Fo.d Fo.dep Fo.bound Jw Qw)
open Lw28 (K_catches_meaning B_catches_meaning K_form_fits B_form_fits)
section
variable {S : Type} {s : S}
/-- meanings, and what is known of them -/
structure Vm (n k d : List Str) (ms : List Mg) : Prop where
  v : Voc n k d
  l : ms.length ≤ 7
  o : MsOk n k d ms
theorem Vm.at {n k d : List Str} {ms : List Mg} (v : Vm n k d ms) {m : Mg} (h : m ∈ ms) : Fz m.f ∧ kindB (.str m.k) = true ∧ m.k ∉ d := by
  obtain ⟨i, hi⟩ := List.mem_iff_getElem?.mp h
  have o := v.o i m hi
  exact ⟨o.z, o.kk, o.nd⟩
theorem Vm.lts {n k d : List Str} {ms : List Mg} (v : Vm n k d ms) : (ltsM ms).length ≤ 707 := by
  have := ltsM_len v.o ms.length
  rw [List.take_length] at this
  have := v.l
  omega
/-- a closed form, in a line with these names -/
def ffB (n k d : List Str) (ms : List Mg) (ns : List Str) (f : Fo) : Bool := ofB (ww n ns) (ww k (kdsM ms)) d f && (sortS (gath (cks f))).all fun z => decide (z ∈ k)
theorem Vm.wide {n k d ns : List Str} {ms : List Mg} (v : Vm n k d ms) (hn : ns.length ≤ 50) (hv : ∀ x ∈ ns, nameB (.str x) = true) : Vw (ww n ns) (ww k (kdsM ms)) d := by
  have l1 := ww_len n ns
  have l2 := ww_len k (kdsM ms)
  have h1 := v.v.nl
  have h2 := v.v.kl
  have h3 := v.l
  have h4 := v.v.dl
  have : (kdsM ms).length = ms.length := List.length_map _
  refine ⟨by omega, by omega, by omega, fun x hx => ?_, fun x hx => ?_, v.v.dd, ww_ris _ _, ww_ris _ _, v.v.dr, fun x hx => ?_⟩
  · exact (mem_ww.mp hx).elim (v.v.nm x) (hv x)
  · rcases mem_ww.mp hx with h | h
    · exact v.v.kd x h
    · obtain ⟨m, hm, rfl⟩ := List.mem_map.mp h
      exact (v.at hm).2.1
  · rcases mem_ww.mp hx with h | h
    · exact v.v.ds x h
    · obtain ⟨m, hm, rfl⟩ := List.mem_map.mp h
      exact (v.at hm).2.2
end
end Lw29
set_option Elab.async false
set_option linter.all false
set_option maxRecDepth 100000
set_option maxHeartbeats 2000000
/-! reasons: is_reason as an equation, the reasons drawn -/
namespace Lw29
open PySem PySem.Spec L2 Dl Mx Ds Lw04
open Lw01 (nameB name_eq kindB smallB smallB_str small_eq inAll sgD mk mk_cps mk_len mk_app smS)
open Lw28 (t_REASONS K_is_line_number B_is_line_number K_are_line_numbers B_are_line_numbers K_are_times B_are_times K_fits_reason B_fits_reason K_is_reason B_is_reason)
section
variable {S : Type} {s : S}
abbrev Pln : Fn S := K_is_line_number K_is_whole
abbrev Plns : Fn S := K_are_line_numbers Pln
abbrev Pti : Fn S := K_are_times Pwhole
abbrev Psm : Fn S := Lw01.K_is_small Lw01.K_is_all_of
abbrev Pfr : Fn S := K_fits_reason Pln Pname Psm Pti Plns
abbrev Pir : Fn S := K_is_reason Pfr
end
end Lw29
set_option Elab.async false
set_option linter.all false
set_option maxRecDepth 100000
set_option maxHeartbeats 4000000
/-! the reasons drawn fit -/
namespace Lw29
open PySem PySem.Spec L2 Dl Mx Ds Lw04
open Lw01 (nameB name_eq kindB smallB smallB_str small_eq inAll sgD mk mk_cps mk_len mk_app smS)
open Lw23 (K_w_reason B_w_reason K_w_opener B_w_opener onesW opW ones_not ones_len k_word k_pick upperS addS addS_len up_len Freason Fopener Fsigns range_get)
open Lw28 (t_REASONS)
/-- a reason that may be held against another; given stands alone -/
def RzSh (w : Str) (a : List D) : Prop := (Lw38.smpAll (.str w :: a) = true ∧ (PyData.depthAll (.str w :: a) ≤ 40 ∧ a.length ≤ 5)) ∧ (w = Str.ofString "given" → a = [])
/-- a reason that fits among so many lines -/
def RzOk (N : Nat) (w : Str) (a : List D) : Prop := (∀ (M : Nat) (s : DS), N ≤ M → Pir [.tuple (.str w :: a), .int (M : Nat)] s = some (.bool true, s)) ∧ RzSh w a
end Lw29
set_option Elab.async false
set_option linter.all false
set_option maxRecDepth 100000
set_option maxHeartbeats 4000000
/-! what a drawn form has; the meanings drawn -/
namespace Lw29
open PySem PySem.Spec L2 Dl Mx Ds Lw04
open Lw06 hiding K_w_told B_w_told
open Lw01 (Voc vocD nameB kindB inAll sgD mk mk_cps mk_len mk_app smS nodup_snoc)
open Lw30 (Fo Fo.d Fo.dep Fo.bound Jw Qw)
open Lw41 (Tot totD Pt ptD take_snoc)
open Lw23 (Fsigns K_w_unlike K_w_own own_eq ownW own_len own0 few_app few_le fil_le ok_unlike Unl cands catS ix_ints k_pick range_get fl_strs)
section
variable {K E L : List Str} {C : Option (List Str)}
/-- the parts of a drawn form -/
theorem part_cf : ∀ (f : Fo) (T : List Str), Cf K C E L T f → ∀ g ∈ parts f, ∃ T', Cf K C E L T' g ∧ ∀ t ∈ T', t ∈ T ∨ t ∈ L
  | .is t c, T, h, g, hg => ⟨T, by rw [List.mem_singleton.mp hg]; exact h, fun _ h => .inl h⟩
  | .does e t u, T, h, g, hg => ⟨T, by rw [List.mem_singleton.mp hg]; exact h, fun _ h => .inl h⟩
  | .same t u, T, h, g, hg => ⟨T, by rw [List.mem_singleton.mp hg]; exact h, fun _ h => .inl h⟩
  | .least a b, T, h, g, hg => ⟨T, by rw [List.mem_singleton.mp hg]; exact h, fun _ h => .inl h⟩
  | .fals, T, h, g, hg => ⟨T, by rw [List.mem_singleton.mp hg]; exact h, fun _ h => .inl h⟩
  | .no f, T, h, g, hg => (List.mem_cons.mp hg).elim (fun e => ⟨T, by rw [e]; exact h, fun _ h => .inl h⟩) fun hg => part_cf f T h g hg
  | .jn j f f2, T, h, g, hg => (List.mem_cons.mp hg).elim (fun e => ⟨T, by rw [e]; exact h, fun _ h => .inl h⟩) fun hg => (List.mem_append.mp hg).elim (fun hg => part_cf f T h.1 g hg) fun hg => part_cf f2 T h.2 g hg
  | .qu q x f, T, h, g, hg => (List.mem_cons.mp hg).elim (fun e => ⟨T, by rw [e]; exact h, fun _ h => .inl h⟩) fun hg => by
    obtain ⟨T', h1, h2⟩ := part_cf f (T ++ [x]) h.2 g hg
    refine ⟨T', h1, fun t ht => ?_⟩
    rcases h2 t ht with h3 | h3
    · rcases List.mem_append.mp h3 with h3 | h3
      · exact .inl h3
      · rw [List.mem_singleton.mp h3]
        exact .inr h.1
    · exact .inr h3
theorem fv_cf {z : Str} : ∀ (f : Fo) (T : List Str), Cf K C E L T f → fv z f → z ∈ T
  | .is t c, T, h, hz => by rw [show z = t from hz]; exact h.1
  | .does e t u, T, h, hz => hz.elim (fun e => by rw [e]; exact h.2.1) fun e => by rw [e]; exact h.2.2
  | .same t u, T, h, hz => hz.elim (fun e => by rw [e]; exact h.1) fun e => by rw [e]; exact h.2
  | .least a b, T, h, hz => False.elim hz
  | .fals, T, h, hz => False.elim hz
  | .no f, T, h, hz => fv_cf f T h hz
  | .jn j f f2, T, h, hz => hz.elim (fv_cf f T h.1) (fv_cf f2 T h.2)
  | .qu q x f, T, h, hz => by
    rcases List.mem_append.mp (fv_cf f (T ++ [x]) h.2 hz.1) with h3 | h3
    · exact h3
    · exact absurd (List.mem_singleton.mp h3) hz.2
theorem of_cf {n : List Str} (hL : ∀ x ∈ L, letB x = true) (hC : ∀ cs, C = some cs → cs.Sublist K) : ∀ (f : Fo) (T : List Str), (∀ t ∈ T, Tm n t) → Cf K C E L T f → OfV n K E f
  | .is t c, T, hT, h => ⟨hT t h.1, h.2⟩
  | .does e t u, T, hT, h => ⟨h.1, hT t h.2.1, hT u h.2.2⟩
  | .same t u, T, hT, h => ⟨hT t h.1, hT u h.2⟩
  | .least a b, T, hT, h => by
    obtain ⟨⟨cs, e, _, h1⟩, cs', e', _, h2⟩ := h
    exact ⟨h1.trans (hC cs e), h2.trans (hC cs' e')⟩
  | .fals, T, hT, h => trivial
  | .no f, T, hT, h => of_cf hL hC f T hT h
  | .jn j f f2, T, hT, h => ⟨of_cf hL hC f T hT h.1, of_cf hL hC f2 T hT h.2⟩
  | .qu q x f, T, hT, h => of_cf hL hC f (T ++ [x]) (fun t ht => (List.mem_append.mp ht).elim (hT t) fun ht => by rw [List.mem_singleton.mp ht]; exact .inl (hL x h.1)) h.2
theorem bnds_cf {f : Fo} {T : List Str} (h : Cf K C E L T f) : ∀ z ∈ bnds f, z ∈ L := fun z hz => by
  obtain ⟨g, hg, hz⟩ := List.mem_flatMap.mp hz
  obtain ⟨T', h1, _⟩ := part_cf f T h g hg
  cases g with
  | qu q x g => rw [List.mem_singleton.mp hz]; exact h1.1
  | _ => cases hz
theorem cks_cf {f : Fo} {T : List Str} (h : Cf K C E L T f) : ∀ z ∈ cks f, ∃ cs, C = some cs ∧ z ∈ cs := fun z hz => by
  obtain ⟨t, ht, hz⟩ := List.mem_flatMap.mp hz
  obtain ⟨g, hg, ht⟩ := List.mem_flatMap.mp ht
  obtain ⟨T', h1, _⟩ := part_cf f T h g hg
  cases g with
  | least a b =>
    rcases List.mem_cons.mp ht with rfl | ht
    · obtain ⟨⟨cs, e, _, h1⟩, _⟩ := h1
      exact ⟨cs, e, h1.subset hz⟩
    · rw [List.mem_singleton.mp ht] at hz
      obtain ⟨_, cs, e, _, h1⟩ := h1
      exact ⟨cs, e, h1.subset hz⟩
  | _ => cases ht
theorem fz_cf {n : List Str} {f : Fo} (g : Gd 2 f) (o : OfV n K E f) (hK : K.length ≤ 50) : Fz f := by
  have h1 := g.d
  have h2 := g.c
  have h3 := g.z
  have h4 := cks_len o
  have h5 : 2 * K.length * (parts f).length ≤ 100 * 8 := Nat.mul_le_mul (by omega) (by omega)
  exact ⟨g.w, by omega, by omega, by omega, by omega⟩
end
theorem flat_pts : ∀ ps : List Pt, flatDs (ps.map ptD) = true
  | [] => rfl
  | p :: ps => by
    show (flatD (ptD p) && flatDs (ps.map ptD)) = true
    rw [flat_pts ps]
    rfl
theorem flat_tot (t : Tot) : flatD (totD t) = true := by
  show (flatDs (t.1.map ptD) && (flatD (.int t.2) && true)) = true
  rw [flat_pts]
  rfl
theorem flat_fo : ∀ f : Fo, flatD f.d = true
  | .is t c => rfl
  | .does e t u => rfl
  | .same t u => rfl
  | .least a b => by
    show (true && (flatD (totD a) && (flatD (totD b) && true))) = true
    rw [flat_tot, flat_tot]
    rfl
  | .fals => rfl
  | .no f => by
    show (true && (flatD f.d && true)) = true
    rw [flat_fo f]
    rfl
  | .jn j f g => by
    show (true && (flatD f.d && (flatD g.d && true))) = true
    rw [flat_fo f, flat_fo g]
    rfl
  | .qu q x f => by
    show (true && (true && (flatD f.d && true))) = true
    rw [flat_fo f]
    rfl
/-! the letters of the meanings -/
def six : List Nat := [117, 118, 119, 120, 121, 122]
def lk (k : Nat) : List Str := six.map fun c => mk [c, 48 + k]
/-- the meanings' letters are none of the lines' -/
def Apart (ms : List Mg) : Prop := (∀ z ∈ ltsM ms, z ∉ Lw23.letW) ∧ ms.length ≤ 6
end Lw29
set_option Elab.async false
set_option linter.all false
set_option maxRecDepth 100000
set_option maxHeartbeats 4000000
/-! the lines drawn: levels, reasons, forms, boxes -/
namespace Lw29
open PySem PySem.Spec L2 Dl Mx Ds Lw04
open Lw06 hiding K_w_told B_w_told
open Lw01 (Voc vocD nameB kindB inAll sgD mk mk_cps mk_len mk_app smS nodup_snoc)
open Lw30 (Fo Fo.d Fo.dep Fo.bound Jw Qw)
open Lw23 (Ln lev lev_at lev_app arN arS arN_succ arN_lt arN_len arN_app arN_last arN_op ends opW zq Tak Tak.start Tak.up Tak.few Tak.more namedD thirdD levD letW restL K_w_lines B_w_lines Flines ls_eq v_ixm1 a8_ix v_fdiv8 ok_unlike Unl cands addS addS_len catS ix_ints K_w_unlike Freason Fopener range_get pr2 map_id')
structure Lz where
  l : Int
  f : Fo
  w : Str
  a : List D
  o : Option Str
def Lz.d (x : Lz) : D := .tuple [.int x.l, x.f.d, .tuple (.str x.w :: x.a)]
def Lz.ln (x : Lz) : Ln := (x.l, decide (x.w ∈ opW))
def lns (X : List Lz) : List Ln := X.map Lz.ln
def oX (X : List Lz) (a : Nat) : Option Str := X[a]?.bind Lz.o
def nmsX (X : List Lz) (as : List Nat) : List Str := as.filterMap (oX X)
def namW : List Str := [Str.ofString "any", Str.ofString "called"]
/-! how many openers are around -/
/-- a line that may stand there -/
structure LzOk (n k d : List Str) (ms : List Mg) (N : Nat) (ns : List Str) (x : Lz) : Prop where
  r : RzOk N x.w x.a
  nm : (x.w ∈ namW ∧ ∃ z r, x.o = some z ∧ x.a = .str z :: r) ∨ (x.w ∉ namW ∧ x.o = none)
  g : Gd 2 x.f
  cf : Cf (k ++ kdsM ms) (some k) d letW (n ++ ns) x.f
  alt : ∀ z r, x.o = some z → x.a = .str z :: r → ∀ z', nameB (.str z') = true → RzOk N x.w (.str z' :: r)
def prevL (X : List Lz) : Nat → Int
  | 0 => 0
  | i + 1 => lev (lns X) i
/-- a level behind another one -/
def LvOk (p : Int) (x : Lz) : Prop := (if x.w ∈ opW then 1 ≤ x.l ∧ x.l ≤ p + 1 else 0 ≤ x.l ∧ x.l ≤ p) ∧ x.l ≤ 8
structure Mid (n k d : List Str) (ms : List Mg) (N : Nat) (j : Nat) (X : List Lz) (tk : List Str) (lv : Int) : Prop where
  len : X.length = j
  ok : ∀ i x, X[i]? = some x → LzOk n k d ms N (nmsX X (arN (lns X) (i + 1))) x ∧ LvOk (prevL X i) x
  pl : lv = prevL X j
  l0 : 0 ≤ lv
  l8 : lv ≤ 8
  tak : Tak n (n ++ tk) j
  tlen : tk.length ≤ j
  nd : (n ++ tk).Nodup
  nv : ∀ z ∈ tk, nameB (.str z) = true
  op : (X.filterMap Lz.o).Sublist tk
theorem nmsX_op {X : List Lz} {as : List Nat} : ∀ z ∈ nmsX X as, z ∈ X.filterMap Lz.o := fun z hz => by
  obtain ⟨a, _, ha⟩ := List.mem_filterMap.mp hz
  unfold oX at ha
  cases e : X[a]? with
  | none => rw [e] at ha; cases ha
  | some x =>
    rw [e] at ha
    exact List.mem_filterMap.mpr ⟨x, List.mem_of_getElem? e, ha⟩
end Lw29
set_option Elab.async false
set_option linter.all false
set_option maxRecDepth 100000
set_option maxHeartbeats 1000000
/-! the lines drawn, together -/
namespace Lw29
open PySem PySem.Spec L2 Dl Mx Ds Lw04
open Lw06 hiding K_w_told B_w_told
open Lw01 (Voc vocD nameB kindB inAll sgD mk mk_cps mk_len mk_app smS nodup_snoc)
open Lw30 (Fo Fo.d Fo.dep Fo.bound Jw Qw)
open Lw23 (Ln lev lev_at lev_app arN arS arN_succ arN_lt arN_len arN_app arN_last arN_op ends opW zq Tak Tak.start Tak.up Tak.few Tak.more namedD thirdD levD letW restL K_w_lines B_w_lines Flines ls_eq v_ixm1 a8_ix v_fdiv8 ok_unlike Unl cands addS addS_len catS ix_ints K_w_unlike Freason Fopener range_get pr2 map_id')
/-- the lines of an argument drawn -/
structure Lns (n k d : List Str) (ms : List Mg) (X : List Lz) : Prop where
  l1 : 1 ≤ X.length
  l61 : X.length ≤ 61
  ok : ∀ i x, X[i]? = some x → LzOk n k d ms X.length (nmsX X (arN (lns X) (i + 1))) x ∧ LvOk (prevL X i) x
  last : prevL X X.length = 0
  nd : (n ++ X.filterMap Lz.o).Nodup
  nv : ∀ z ∈ X.filterMap Lz.o, nameB (.str z) = true
end Lw29
set_option Elab.async false
set_option linter.all false
set_option maxRecDepth 100000
set_option maxHeartbeats 1000000
/-! is_argument, as an equation -/
namespace Lw29
open PySem PySem.Spec L2 Dl Mx Ds Lw04
open Lw06 hiding K_w_told B_w_told
open Lw01 (Voc vocD nameB kindB dStrs_map Pvoc)
open Lw30 (Fo Fo.d Fo.dep Fo.bound)
open Lw23 (Ln lev lev_at arN arN_lt opW K_is_opener LnD LsD is_opener_eq numD numsD)
open Lw28 (K_is_line B_is_line K_level_fits B_level_fits K_levels_fit B_levels_fit K_opened_names B_opened_names K_names_differ B_names_differ K_forms_fit B_forms_fit K_are_lines B_are_lines K_is_argument B_is_argument d_NAMING)
/-- lines as they may stand, but for the words of their forms -/
structure Arg (n k d : List Str) (ms : List Mg) (X : List Lz) : Prop where
  v : Vm n k d ms
  l1 : 1 ≤ X.length
  l61 : X.length ≤ 61
  r : ∀ x ∈ X, RzOk X.length x.w x.a
  nm : ∀ x ∈ X, (x.w ∈ namW ∧ ∃ z r, x.o = some z ∧ x.a = .str z :: r) ∨ (x.w ∉ namW ∧ x.o = none)
  lv : ∀ i x, X[i]? = some x → LvOk (prevL X i) x
  last : prevL X X.length = 0
  nd : (n ++ X.filterMap Lz.o).Nodup
  nv : ∀ z ∈ X.filterMap Lz.o, nameB (.str z) = true
  fz : ∀ x ∈ X, Fz x.f
  fr : ∀ x ∈ X, fr x.f = []
  bn : ∀ x ∈ X, ∀ z ∈ bnds x.f, z ∉ ltsM ms
  kd : ∀ x ∈ X, ∀ z, z ∈ kis x.f ∨ z ∈ cks x.f → z ∈ ww k (kdsM ms)
section
variable {S : Type} {s : S}
/-! the forms of the lines -/
def fB (n k d : List Str) (ms : List Mg) (X : List Lz) (i : Nat) : Bool := match X[i]? with
  | some x => ffB n k d ms (nmsX X (arN (lns X) (i + 1))) x.f
  | none => true
def aB (n k d : List Str) (ms : List Mg) (X : List Lz) : Bool := (List.range X.length).all fun i => fB n k d ms X i
end
end Lw29
set_option Elab.async false
set_option linter.all false
set_option maxRecDepth 100000
set_option maxHeartbeats 1000000
/-! the argument drawn is one, and what it is with another form in a line -/
namespace Lw29
open PySem PySem.Spec L2 Dl Mx Ds Lw04
open Lw06 hiding K_w_told B_w_told
open Lw01 (Voc vocD nameB kindB)
open Lw30 (Fo Fo.d Fo.dep Fo.bound)
open Lw23 (Ln lev arN arN_lt opW letW)
section
variable {n k d : List Str} {ms : List Mg}
theorem lets_ok : ∀ x ∈ letW, letB x = true := by decide +kernel
theorem of_line {N : Nat} {ns : List Str} {x : Lz} (o : LzOk n k d ms N ns x) : OfV (n ++ ns) (k ++ kdsM ms) d x.f :=
  of_cf lets_ok (fun cs h => by cases h; exact List.sublist_append_left _ _) x.f _ (fun t h => .inr h) o.cf
theorem fr_line (v : Vm n k d ms) {N : Nat} {ns : List Str} {x : Lz} (hv : ∀ z ∈ ns, nameB (.str z) = true) (o : LzOk n k d ms N ns x) : fr x.f = [] := by
  rw [List.eq_nil_iff_forall_not_mem]
  intro z hz
  obtain ⟨h1, h2⟩ := (mem_fr x.f).mp hz
  have h3 := fv_cf x.f _ o.cf h2
  have h4 : nameB (.str z) = true := (List.mem_append.mp h3).elim (v.v.nm z) (hv z)
  rw [name_let h4] at h1
  cases h1
theorem kl_len (v : Vm n k d ms) : (k ++ kdsM ms).length ≤ 13 := by
  have h1 := v.v.kl
  have h3 := v.l
  have hk : (kdsM ms).length = ms.length := List.length_map _
  rw [List.length_append]
  omega
theorem in_ww {z : Str} : z ∈ k ++ kdsM ms → z ∈ ww k (kdsM ms) := fun h => mem_ww.mpr (List.mem_append.mp h)
/-- the drawn lines -/
theorem Lns.arg {X : List Lz} (v : Vm n k d ms) (ap : Apart ms) (L : Lns n k d ms X) : Arg n k d ms X := by
  have at' : ∀ x ∈ X, ∃ i, X[i]? = some x := fun x hx => List.mem_iff_getElem?.mp hx
  have nv : ∀ {as : List Nat}, ∀ z ∈ nmsX X as, nameB (.str z) = true := fun z hz => L.nv z (nmsX_op z hz)
  refine ⟨v, L.l1, L.l61, fun x hx => ?_, fun x hx => ?_, fun i x hx => (L.ok i x hx).2, L.last, L.nd, L.nv, fun x hx => ?_, fun x hx => ?_, fun x hx z hz hz2 => ?_, fun x hx z hz => ?_⟩
  · obtain ⟨i, hi⟩ := at' x hx
    exact (L.ok i x hi).1.r
  · obtain ⟨i, hi⟩ := at' x hx
    exact (L.ok i x hi).1.nm
  · obtain ⟨i, hi⟩ := at' x hx
    have o := (L.ok i x hi).1
    exact fz_cf o.g (of_line o) (by have := kl_len v; omega)
  · obtain ⟨i, hi⟩ := at' x hx
    exact fr_line v nv (L.ok i x hi).1
  · obtain ⟨i, hi⟩ := at' x hx
    exact ap.1 z hz2 (bnds_cf (L.ok i x hi).1.cf z hz)
  · obtain ⟨i, hi⟩ := at' x hx
    have o := of_line (L.ok i x hi).1
    exact in_ww (hz.elim (kis_in o) (cks_in o))
theorem ff_line (v : Vm n k d ms) {N : Nat} {ns : List Str} {x : Lz} (o : LzOk n k d ms N ns x) : ffB n k d ms ns x.f = true := by
  have h := of_line o
  unfold ffB
  rw [ofB_eq (b := true) (by
    simp only [true_iff]
    exact ⟨fun z hz => mem_ww.mpr (List.mem_append.mp (nms_in h hz)), fun z hz => in_ww (kds_in h hz), fun z hz => dos_in h hz⟩)]
  rw [Bool.true_and, List.all_eq_true]
  intro z hz
  have hz := (sortS_perm _).mem_iff.mp hz
  obtain ⟨cs, e, hc⟩ := cks_cf o.cf z (gath_mem.mp hz)
  cases e
  exact decide_eq_true hc
theorem Lns.true {X : List Lz} (v : Vm n k d ms) (L : Lns n k d ms X) : aB n k d ms X = true := by
  unfold aB
  rw [List.all_eq_true]
  intro i hi
  unfold fB
  cases e : X[i]? with
  | none => rfl
  | some x => exact ff_line v (L.ok i x e).1
/-- a line with another form -/
def Lz.put (x : Lz) (f : Fo) : Lz := ⟨x.l, f, x.w, x.a, x.o⟩
theorem set_map {β : Type} (g : Lz → β) {X : List Lz} {a : Nat} {x : Lz} (h : X[a]? = some x) {f : Fo} (e : g (x.put f) = g x) : (X.set a (x.put f)).map g = X.map g := by
  rw [List.map_set, e]
  refine List.ext_getElem? fun i => ?_
  rw [List.getElem?_set]
  split
  · rename_i hi
    subst hi
    have ha := (List.getElem?_eq_some_iff.mp h).1
    rw [List.length_map, if_pos ha, List.getElem?_map, h]
    rfl
  · rfl
theorem set_lns {X : List Lz} {a : Nat} {x : Lz} (h : X[a]? = some x) (f : Fo) : lns (X.set a (x.put f)) = lns X := set_map Lz.ln h rfl
theorem set_fm {X : List Lz} {a : Nat} {x : Lz} (h : X[a]? = some x) (f : Fo) : (X.set a (x.put f)).filterMap Lz.o = X.filterMap Lz.o := by
  have := set_map Lz.o h (f := f) rfl
  have e : ∀ Y : List Lz, Y.filterMap Lz.o = (Y.map Lz.o).filterMap id := fun Y => by rw [List.filterMap_map]; rfl
  rw [e, e, this]
theorem mem_set {X : List Lz} {a : Nat} {x y : Lz} {f : Fo} (h : X[a]? = some x) (hy : y ∈ X.set a (x.put f)) : y ∈ X ∨ y = x.put f := List.mem_or_eq_of_mem_set hy
theorem Arg.put {X : List Lz} {a : Nat} {x : Lz} {f : Fo} (A : Arg n k d ms X) (h : X[a]? = some x) (z : Fz f) (hf : Lw04.fr f = []) (hb : ∀ z ∈ bnds f, z ∉ ltsM ms) (hk : ∀ z, z ∈ kis f ∨ z ∈ cks f → z ∈ ww k (kdsM ms)) : Arg n k d ms (X.set a (x.put f)) := by
  have hx := List.mem_of_getElem? h
  have pl : ∀ i, prevL (X.set a (x.put f)) i = prevL X i := fun i => by
    cases i with
    | zero => rfl
    | succ i => show lev (lns _) i = lev (lns X) i; rw [set_lns h]
  refine ⟨A.v, by rw [List.length_set]; exact A.l1, by rw [List.length_set]; exact A.l61, fun y hy => ?_, fun y hy => ?_, fun i y hy => ?_, ?_, by rw [set_fm h]; exact A.nd, by rw [set_fm h]; exact A.nv, fun y hy => ?_, fun y hy => ?_, fun y hy => ?_, fun y hy => ?_⟩
  · rw [List.length_set]
    rcases mem_set h hy with hy | rfl
    · exact A.r y hy
    · exact A.r x hx
  · rcases mem_set h hy with hy | rfl
    · exact A.nm y hy
    · exact A.nm x hx
  · rw [pl]
    rw [List.getElem?_set] at hy
    split at hy
    · rename_i hi
      subst hi
      have ha := (List.getElem?_eq_some_iff.mp h).1
      rw [if_pos ha] at hy
      cases hy
      exact A.lv a x h
    · exact A.lv i y hy
  · rw [List.length_set, pl]
    exact A.last
  · rcases mem_set h hy with hy | rfl
    · exact A.fz y hy
    · exact z
  · rcases mem_set h hy with hy | rfl
    · exact A.fr y hy
    · exact hf
  · rcases mem_set h hy with hy | rfl
    · exact A.bn y hy
    · exact hb
  · rcases mem_set h hy with hy | rfl
    · exact A.kd y hy
    · exact hk
/-! a name is itself -/
end
end Lw29
set_option Elab.async false
set_option linter.all false
set_option maxRecDepth 100000
set_option maxHeartbeats 4000000
/-! the deck of the laws of texts: its cells, how many were drawn, a sum -/
namespace Dl
open PySem PySem.Spec PyProof.Rows L2
end Dl
set_option Elab.async false
set_option linter.all false
set_option maxRecDepth 100000
set_option maxHeartbeats 1000000
/-! texts: their lengths, what parts come to, the text of a form -/
namespace Lw75
open PySem PySem.Spec L2 Dl Mx Ds Lw04
open Lw30 (Fo Fo.d Fo.dep)
open Lw38 (Jw Qw Jw.s Qw.s)
open Lw41 (Tot totD Pt ptD)
open Lw01 (nameB kindB)
theorem len_ap (a b : Str) : (a ++ b).length = a.length + b.length := by simp [Str.length, Str.cps_append]
theorem em_ap (a : Str) : Str.empty ++ a = a := TL.ext_tl (by rw [TL.tl_append]; rfl)
/-! parts put together -/
section
variable {S : Type} {ρ : Rho} {s : S}
def cat (ys : List Str) : Str := ys.foldl (· ++ ·) Str.empty
inductive Ps (ρ : Rho) (s : S) : List (Ev S) → List Str → Prop where
  | nil : Ps ρ s [] []
  | cons {f : Ev S} {fs : List (Ev S)} {y : Str} {ys : List Str} (h : f ρ s = some (.str y, s)) (r : Ps ρ s fs ys) : Ps ρ s (f :: fs) (y :: ys)
theorem js_go {fs : List (Ev S)} {ys : List Str} (h : Ps ρ s fs ys) : ∀ acc : Str, acc.length + (ys.map Str.length).sum ≤ sizeLine → jsF fs acc ρ s = some (ys.foldl (· ++ ·) acc, s) := by
  induction h with
  | nil => exact fun acc _ => rfl
  | @cons f fs y ys h r ih =>
    intro acc hl
    rw [List.map_cons, List.sum_cons] at hl
    unfold jsF
    rw [h]
    show (if (acc ++ y).length ≤ sizeLine then jsF fs (acc ++ y) ρ s else none) = _
    rw [len_ap, if_pos (by omega), ih (acc ++ y) (by rw [len_ap]; omega)]
    rfl
theorem js_eq {fs : List (Ev S)} {ys : List Str} (h : Ps ρ s fs ys) (hl : (ys.map Str.length).sum ≤ sizeLine) : cJs fs ρ s = some (.str (cat ys), s) := by
  unfold cJs
  rw [js_go h Str.empty (by rw [show Str.empty.length = 0 from rfl, Nat.zero_add]; exact hl)]
  rfl
theorem k_js {fs : List (Ev S)} {ys : List Str} {Q : D → S → Prop} (h : Ps ρ s fs ys) (hl : (ys.map Str.length).sum ≤ sizeLine) (q : Q (.str (cat ys)) s) : Ok (cJs fs ρ s) Q := ⟨_, _, js_eq h hl, q⟩
theorem p_K (y : Str) : cK (.str y) ρ s = some (.str y, s) := rfl
theorem p_fm {f : Ev S} {y : Str} (h : f ρ s = some (.str y, s)) (hl : y.length ≤ sizeLine) : cFm f ρ s = some (.str y, s) := by
  unfold cFm
  rw [h]
  show put ((if y.length ≤ sizeLine then some y else none).map fun z => (PyData.str z : D)) s = _
  rw [if_pos hl]
  rfl
/-! numbers as texts -/
def iS (i : Int) : Str := Str.ofString (toString i)
theorem log_s {n : Nat} (h : n < 2 ^ 64) : n.log2 < 1920 := by
  by_cases e : n = 0
  · subst e
    decide
  · rw [Nat.log2_lt e]
    exact Nat.lt_of_lt_of_le h (Nat.pow_le_pow_right (by decide) (by decide))
theorem log_i {i : Int} (h0 : 0 ≤ i) (h : i < 10 ^ 13) : i.natAbs.log2 < 1920 := log_s (by
  have : (10 : Int) ^ 13 = 10000000000000 := by decide
  rw [this] at h
  have : (2 : Nat) ^ 64 = 18446744073709551616 := by decide
  omega)
theorem iS_len {i : Int} (h0 : 0 ≤ i) (h : i < 10 ^ 13) : (iS i).length ≤ 13 := by
  obtain ⟨n, rfl⟩ : ∃ n : Nat, i = n := ⟨i.toNat, by omega⟩
  unfold iS
  rw [TL.len_tl, TL.tl_num]
  refine TL.numL_len (by decide) ?_
  have e1 : (10 : Int) ^ 13 = 10000000000000 := by decide
  have e2 : (10 : Nat) ^ 13 = 10000000000000 := by decide
  rw [e1] at h
  rw [e2]
  omega
theorem p_fmi {f : Ev S} {i : Int} (h : f ρ s = some (.int i, s)) (h0 : 0 ≤ i) (hl : i < 10 ^ 13) : cFm f ρ s = some (.str (iS i), s) := by
  unfold cFm
  rw [h]
  show put ((if i.natAbs.log2 < 1920 then some (iS i) else none).map fun z => (PyData.str z : D)) s = _
  rw [if_pos (log_i h0 hl)]
  rfl
end
/-! sums -/
def Tb (t : Tot) : Prop := t.1.length ≤ 13 ∧ (∀ p ∈ t.1, p.1.length ≤ 8 ∧ 1 ≤ p.2 ∧ p.2 < 10 ^ 13) ∧ 0 ≤ t.2 ∧ t.2 < 10 ^ 13
def shS (p : Pt) : Str := if 1 < p.2 then (iS p.2 ++ Str.ofString " ") ++ p.1 else p.1
section
variable {S : Type} {s : S}
theorem t_i0 (t : Tot) : pIx (totD t) (.int 0) = some (.tuple (t.1.map ptD)) := v_ix0
theorem t_i1 (t : Tot) : pIx (totD t) (.int 1) = some (.int t.2) := v_ix1
theorem share_eq {p : Pt} (h : p.1.length ≤ 8 ∧ 1 ≤ p.2 ∧ p.2 < 10 ^ 13) : K_show_share [.str p.1, .int p.2] s = some (.str (shS p), s) := by
  have h1 := iS_len (i := p.2) (by omega) h.2.2
  refine ok_eq ?_
  unfold K_show_share B_show_share shS
  refine k_fn (k_ret ?_)
  walk_at "E"
  by_cases e : 1 < p.2
  · simp_arith [e]
    refine k_js (.cons (p_fmi rfl (by omega) h.2.2) (.cons (p_K _) (.cons (p_fm rfl (szL (by omega))) .nil))) ?_ ⟨?_, rfl⟩
    · simp only [List.map_cons, List.map_nil, List.sum_cons, List.sum_nil]
      have e : (Str.ofString " ").length = 1 := rfl
      exact szL (by omega)
    · show PyData.str (((Str.empty ++ _) ++ _) ++ _) = _
      rw [em_ap]
  · simp_arith [e]
end
end Lw75
set_option Elab.async false
set_option linter.all false
set_option maxRecDepth 100000
set_option maxHeartbeats 2000000
namespace K07
open PySem PySem.Spec L2 Dl Mx Ds Lw07
open Lw01 (k_take)
abbrev Fnum : Fn DS := K_w_number Ftake
abbrev Fkin : Fn DS := K_w_kinds
/-- the nine refusals -/
def errs (o p a b c e : D) : List D := [.dict [xHd 0], .dict [xHd 1], .dict [xHd 2], .dict [xHd 3], .dict [xHd 4], .dict [xHd 5, (.str "other", p), (.str "one", o)], .dict [xHd 6, (.str "row", a)], .dict [xHd 7, (.str "line", b)], .dict [xHd 8, (.str "most", e), (.str "many", c)]]
def Nb (i : Int) : Prop := -(2 ^ 30) ≤ i ∧ i ≤ 2 ^ 30
/-- a number drawn -/
theorem ok_number {s : DS} {Q : D → DS → Prop} (q : ∀ (i : Int) s', Nb i → Q (.int i) s') : Ok (Fnum [hnd 0] s) Q := by
  refine k_fn ?_
  unfold B_w_number
  have hp : pPow (.int 10) (.int 9) = some (.int 1000000000) := rfl
  have hn : pNeg (.int 1) = some (.int (-1)) := rfl
  refine k_seq (k_set ?_)
  simp_arith [hp]
  refine k_take (by decide) (by decide) fun r s1 r0 r1 => ?_
  have hix : ∃ m : Int, 0 < m ∧ m ≤ 1000000000 ∧ pIx (.list [.int 10, .int 1000000000]) (.int r) = some (.int m) := by
    rcases (by omega : r = 0 ∨ r = 1) with rfl | rfl
    · exact ⟨10, by decide, by decide, rfl⟩
    · exact ⟨1000000000, by decide, by decide, rfl⟩
  obtain ⟨m, m0, m1, hm⟩ := hix
  simp_arith [hm]
  refine k_take m0 (by omega) fun n s2 n0 n1 => ?_
  refine k_ret ?_
  simp_arith [hn]
  refine k_take (by decide) (by decide) fun t s3 t0 t1 => ?_
  have hix : ∃ g : Int, (g = 1 ∨ g = -1) ∧ pIx (.list [.int 1, .int (-1)]) (.int t) = some (.int g) := by
    rcases (by omega : t = 0 ∨ t = 1) with rfl | rfl
    · exact ⟨1, .inl rfl, rfl⟩
    · exact ⟨-1, .inr rfl, rfl⟩
  obtain ⟨g, hg, he⟩ := hix
  have h30 : (2 : Int) ^ 30 = 1073741824 := by decide
  have h100 : (2 : Nat) ^ 100 = 1267650600228229401496703205376 := by decide
  have hmul : pMul (.int n) (.int g) = some (.int (n * g)) := Lw42.v_mulB (by rw [h100]; omega) (by rw [h100]; rcases hg with rfl | rfl <;> decide)
  simp_arith [he, hmul]
  refine q _ _ ?_
  unfold Nb
  rw [h30]
  rcases hg with rfl | rfl <;> omega
/-- a number's text -/
theorem fm_eq {ρ : Rho} {s : DS} {j : Nat} {i : Int} (h : ρ[j]? = some (some (.int i))) (hi : Nb i) : ∃ y : Str, y.length ≤ 20 ∧ cFm (cVar j) ρ s = some (.str y, s) := by
  obtain ⟨h1, h2⟩ := hi
  have h30 : (2 : Int) ^ 30 = 1073741824 := by decide
  rw [h30] at h1 h2
  have h64 : (2 : Nat) ^ 64 = 18446744073709551616 := by decide
  refine ⟨Str.ofString (toString i), ?_, ?_⟩
  · rw [ofString_length]
    have e := int_text_length_le10 (a := i) (k := 10) (by decide) (by
      have : (10 : Nat) ^ 10 = 10000000000 := by decide
      omega)
    omega
  · have e1 : cVar (S := DS) j ρ s = some (.int i, s) := by
      unfold cVar
      rw [h]
    unfold cFm
    rw [e1]
    show put ((if i.natAbs.log2 < 1920 then some (Str.ofString (toString i)) else none).map fun z => (PyData.str z : D)) s = _
    rw [if_pos (Lw75.log_s (by rw [h64]; omega))]
    rfl
theorem xt_eq {i : Int} {s : DS} (hi : Nb i) : ∃ y, xm_NoText [none, some (.int i)] s = some (y, s) := by
  obtain ⟨y, hy, e⟩ := fm_eq (ρ := [none, some (.int i)]) (s := s) (j := 1) rfl hi
  exact ⟨_, Lw75.js_eq (.cons (Lw75.p_K _) (.cons e .nil)) (by
    rw [sizeLine_eq]
    simp only [List.map_cons, List.map_nil, List.sum_cons, List.sum_nil, show ("no argument's text, at row " : Str).length = 27 by decide +kernel]
    omega)⟩
theorem xl_eq {i : Int} {s : DS} (hi : Nb i) : ∃ y, xm_Lacks [none, some (.int i)] s = some (y, s) := by
  obtain ⟨y, hy, e⟩ := fm_eq (ρ := [none, some (.int i)]) (s := s) (j := 1) rfl hi
  exact ⟨_, Lw75.js_eq (.cons (Lw75.p_K _) (.cons e (.cons (Lw75.p_K _) .nil))) (by
    rw [sizeLine_eq]
    simp only [List.map_cons, List.map_nil, List.sum_cons, List.sum_nil, show ("line " : Str).length = 5 by decide +kernel, show (" lacks what makes it right" : Str).length = 26 by decide +kernel]
    omega)⟩
theorem xg_eq {i j : Int} {s : DS} (hi : Nb i) (hj : Nb j) : ∃ y, xm_TooGreat [none, some (.int i), some (.int j)] s = some (y, s) := by
  obtain ⟨y, hy, e⟩ := fm_eq (ρ := [none, some (.int i), some (.int j)]) (s := s) (j := 1) rfl hi
  obtain ⟨z, hz, e2⟩ := fm_eq (ρ := [none, some (.int i), some (.int j)]) (s := s) (j := 2) rfl hj
  exact ⟨_, Lw75.js_eq (.cons e (.cons (Lw75.p_K _) (.cons e2 .nil))) (by
    rw [sizeLine_eq]
    simp only [List.map_cons, List.map_nil, List.sum_cons, List.sum_nil, show (" are more than " : Str).length = 15 by decide +kernel]
    omega)⟩
abbrev numD (a b c e : Int) : D := .list [.int a, .int b, .int c, .int e]
abbrev R (o0 o2 : Option D) (a b c e : Int) (o4 : Option D) (o p : D) (o7 o8 : Option D) : Rho := [o0, some (hnd 0), o2, some (numD a b c e), o4, some o, some p, o7, o8, none, none]
theorem e6_eq {o0 o2 o4 o7 o8 : Option D} {a b c e : Int} {o p : D} {s : DS} (hi : Nb a) : cExc1 6 "row" xm_NoText (aCons (cB pIx (cVar 3) (cK (.int 0))) aNil) (R o0 o2 a b c e o4 o p o7 o8) s = some (.dict [xHd 6, (.str "row", .int a)], s) := by
  obtain ⟨y, h⟩ := xt_eq (s := s) hi
  unfold cExc1
  have h1 : (aCons (cB pIx (cVar 3) (cK (.int 0))) aNil : Ea DS) (R o0 o2 a b c e o4 o p o7 o8) s = some ([.int a], s) := rfl
  rw [h1]
  show bnd (xm_NoText [none, some (.int a)] s) _ = _
  rw [h]
  rfl
theorem e7_eq {o0 o2 o4 o7 o8 : Option D} {a b c e : Int} {o p : D} {s : DS} (hi : Nb b) : cExc1 7 "line" xm_Lacks (aCons (cB pIx (cVar 3) (cK (.int 1))) aNil) (R o0 o2 a b c e o4 o p o7 o8) s = some (.dict [xHd 7, (.str "line", .int b)], s) := by
  obtain ⟨y, h⟩ := xl_eq (s := s) hi
  unfold cExc1
  have h1 : (aCons (cB pIx (cVar 3) (cK (.int 1))) aNil : Ea DS) (R o0 o2 a b c e o4 o p o7 o8) s = some ([.int b], s) := rfl
  rw [h1]
  show bnd (xm_Lacks [none, some (.int b)] s) _ = _
  rw [h]
  rfl
theorem e8_eq {o0 o2 o4 o7 o8 : Option D} {a b c e : Int} {o p : D} {s : DS} (hi : Nb c) (hj : Nb e) : cExc2 8 "many" "most" xm_TooGreat (aCons (cB pIx (cVar 3) (cK (.int 2))) (aCons (cB pIx (cVar 3) (cK (.int 3))) aNil)) (R o0 o2 a b c e o4 o p o7 o8) s = some (.dict [xHd 8, (.str "most", .int e), (.str "many", .int c)], s) := by
  obtain ⟨y, h⟩ := xg_eq (s := s) hi hj
  unfold cExc2
  have h1 : (aCons (cB pIx (cVar 3) (cK (.int 2))) (aCons (cB pIx (cVar 3) (cK (.int 3))) aNil) : Ea DS) (R o0 o2 a b c e o4 o p o7 o8) s = some ([.int c, .int e], s) := rfl
  rw [h1]
  show bnd (xm_TooGreat [none, some (.int c), some (.int e)] s) _ = _
  rw [h]
  rfl
abbrev er (o p : D) (a b c e : Int) : D := .list (errs o p (.int a) (.int b) (.int c) (.int e))
abbrev er6 (o p : D) (a b c e : Int) : D := .list ((errs o p (.int a) (.int b) (.int c) (.int e)).take 6)
theorem st7_ok {o0 o2 o4 o8 : Option D} {a b c e : Int} {o p : D} {s : DS} (h1 : Nb a) (h2 : Nb b) (h3 : Nb c) (h4 : Nb e) : Ok (sSet 7 (cB pAdd (cVar 7) (cN pLst (aCons (cExc1 6 "row" xm_NoText (aCons (cB pIx (cVar 3) (cK (.int 0))) aNil)) (aCons (cExc1 7 "line" xm_Lacks (aCons (cB pIx (cVar 3) (cK (.int 1))) aNil)) (aCons (cExc2 8 "many" "most" xm_TooGreat (aCons (cB pIx (cVar 3) (cK (.int 2))) (aCons (cB pIx (cVar 3) (cK (.int 3))) aNil))) aNil))))) (R o0 o2 a b c e o4 o p (some (er6 o p a b c e)) o8) s) fun r s' => s' = s ∧ r = .nx (R o0 o2 a b c e o4 o p (some (er o p a b c e)) o8) := by
  refine k_set ?_
  simp only [ok_B, ok_N, ok_cons, ok_nil]
  refine Ok.of (a := er6 o p a b c e) rfl ?_
  refine Ok.of (e6_eq (o7 := some (er6 o p a b c e)) h1) ?_
  refine Ok.of (e7_eq (o7 := some (er6 o p a b c e)) h2) ?_
  refine Ok.of (e8_eq (o7 := some (er6 o p a b c e)) h3 h4) ?_
  exact ⟨_, rfl, _, rfl, rfl, rfl⟩
theorem turn_eq {o0 o2 o4 : Option D} {a b c e : Int} {o p : D} {s : DS} {j : Nat} (hj : j < 9) : (sSeq (sIf (qT (cB pNe (cCall 1 Fkin (aCons (cB pIx (cVar 7) (cVar 8)) aNil)) (cNl (lcF (iOfA pR1 (aCons (cK (.int 9)) aNil)) (gNm 10) qYes (cB pEq (cVar 10) (cVar 8)) [10]))))
        (sRet (cK (.bool false)))
        sNx)
        (sIf (qOr (qNot (qT (cIsX (fun _ => true) (cB pIx (cVar 7) (cVar 8))))) (qNot (qT (cIsX (fun _ => true) (cB pIx (cVar 7) (cVar 8))))))
        (sRet (cK (.bool false)))
        sNx) : Sv DS) (R o0 o2 a b c e o4 o p (some (er o p a b c e)) (some (.int (j : Nat)))) s = some (.nx (R o0 o2 a b c e o4 o p (some (er o p a b c e)) (some (.int (j : Nat)))), s) := by
  rcases (by omega : j = 0 ∨ j = 1 ∨ j = 2 ∨ j = 3 ∨ j = 4 ∨ j = 5 ∨ j = 6 ∨ j = 7 ∨ j = 8) with rfl | rfl | rfl | rfl | rfl | rfl | rfl | rfl | rfl <;> rfl
abbrev formsL : List D := [.tuple [.str "same", .str "Ann", .str "x"], .tuple [.str "not", .tuple [.str "false"]], .tuple [.str "is", .str "Q", .str "zq"], .tuple [.str "false"]]
theorem form_at {r : Int} (h0 : 0 ≤ r) (h1 : r < 4) : ∃ o, pIx (.list formsL) (.int r) = some o ∧ pNe o o = some (.bool false) := by
  rcases (by omega : r = 0 ∨ r = 1 ∨ r = 2 ∨ r = 3) with rfl | rfl | rfl | rfl
  · exact ⟨_, rfl, by first | decide +kernel | kernel_rfl⟩
  · exact ⟨_, rfl, by first | decide +kernel | kernel_rfl⟩
  · exact ⟨_, rfl, by first | decide +kernel | kernel_rfl⟩
  · exact ⟨_, rfl, by first | decide +kernel | kernel_rfl⟩
theorem ne_self (i : Int) : pNe (.int i) (.int i) = some (.bool false) := by
  rw [v_neI]
  simp
theorem chk_ok {o0 o2 o4 o8 : Option D} {a b c e : Int} {o p : D} {s : DS} (ho : pNe o o = some (.bool false)) (hp : pNe p p = some (.bool false)) : Ok (sSeq (sIf (qOr (qT (cB pNe (cAtX "one" (cB pIx (cVar 7) (cK (.int 5)))) (cVar 5))) (qOr (qT (cB pNe (cAtX "other" (cB pIx (cVar 7) (cK (.int 5)))) (cVar 6))) (qT (cB pNe (cAtX "row" (cB pIx (cVar 7) (cK (.int 6)))) (cB pIx (cVar 3) (cK (.int 0)))))))
      (sRet (cK (.bool false)))
      sNx)
      (sIf (qOr (qT (cB pNe (cAtX "line" (cB pIx (cVar 7) (cK (.int 7)))) (cB pIx (cVar 3) (cK (.int 1))))) (qOr (qT (cB pNe (cAtX "many" (cB pIx (cVar 7) (cK (.int 8)))) (cB pIx (cVar 3) (cK (.int 2))))) (qT (cB pNe (cAtX "most" (cB pIx (cVar 7) (cK (.int 8)))) (cB pIx (cVar 3) (cK (.int 3)))))))
      (sRet (cK (.bool false)))
      sNx) (R o0 o2 a b c e o4 o p (some (er o p a b c e)) o8) s) fun r _ => r = .nx (R o0 o2 a b c e o4 o p (some (er o p a b c e)) o8) := by
  have g1 : cAtX (S := DS) "one" (cB pIx (cVar 7) (cK (.int 5))) (R o0 o2 a b c e o4 o p (some (er o p a b c e)) o8) s = some (o, s) := rfl
  have g2 : cAtX (S := DS) "other" (cB pIx (cVar 7) (cK (.int 5))) (R o0 o2 a b c e o4 o p (some (er o p a b c e)) o8) s = some (p, s) := rfl
  have g3 : cAtX (S := DS) "row" (cB pIx (cVar 7) (cK (.int 6))) (R o0 o2 a b c e o4 o p (some (er o p a b c e)) o8) s = some (.int a, s) := rfl
  have g4 : cAtX (S := DS) "line" (cB pIx (cVar 7) (cK (.int 7))) (R o0 o2 a b c e o4 o p (some (er o p a b c e)) o8) s = some (.int b, s) := rfl
  have g5 : cAtX (S := DS) "many" (cB pIx (cVar 7) (cK (.int 8))) (R o0 o2 a b c e o4 o p (some (er o p a b c e)) o8) s = some (.int c, s) := rfl
  have g6 : cAtX (S := DS) "most" (cB pIx (cVar 7) (cK (.int 8))) (R o0 o2 a b c e o4 o p (some (er o p a b c e)) o8) s = some (.int e, s) := rfl
  have n0 : pIx (numD a b c e) (.int 0) = some (.int a) := rfl
  have n1 : pIx (numD a b c e) (.int 1) = some (.int b) := rfl
  have n2 : pIx (numD a b c e) (.int 2) = some (.int c) := rfl
  have n3 : pIx (numD a b c e) (.int 3) = some (.int e) := rfl
  refine k_seq (k_sIf ?_)
  simp only [ok_qOr, ok_or, ok_T, ok_B]
  refine Ok.of g1 (Ok.of (a := o) rfl ⟨_, ho, false, rfl, ?_⟩)
  simp only [Bool.false_eq_true, if_false]
  refine Ok.of g2 (Ok.of (a := p) rfl ⟨_, hp, false, rfl, ?_⟩)
  simp only [Bool.false_eq_true, if_false]
  refine Ok.of g3 (Ok.of (a := numD a b c e) rfl (Ok.of (a := .int 0) rfl ⟨_, n0, _, ne_self a, false, rfl, ?_⟩))
  simp only [Bool.false_eq_true, if_false]
  refine k_nx (k_sIf ?_)
  simp only [ok_qOr, ok_or, ok_T, ok_B]
  refine Ok.of g4 (Ok.of (a := numD a b c e) rfl (Ok.of (a := .int 1) rfl ⟨_, n1, _, ne_self b, false, rfl, ?_⟩))
  simp only [Bool.false_eq_true, if_false]
  refine Ok.of g5 (Ok.of (a := numD a b c e) rfl (Ok.of (a := .int 2) rfl ⟨_, n2, _, ne_self c, false, rfl, ?_⟩))
  simp only [Bool.false_eq_true, if_false]
  refine Ok.of g6 (Ok.of (a := numD a b c e) rfl (Ok.of (a := .int 3) rfl ⟨_, n3, _, ne_self e, false, rfl, ?_⟩))
  simp only [Bool.false_eq_true, if_false]
  exact k_nx rfl
theorem law_true {s : DS} : Ok (B_law Fnum Ftake Fkin [none, some (hnd 0), none, none, none, none, none, none, none, none, none] s) fun r _ => r = .rt (.bool true) := by
  unfold B_law
  refine k_seq (k_forP (fun ds s' => ds = rngD 0 6) ?_ ?_)
  · walk_at "E"
    rw [pr1 (by omega) (by omega)]
    walk_at "E"
    rfl
  rintro ds s1 rfl
  refine ⟨fun j ρ _ => ∃ o2 o3 o4 o5 o6 o7 o8, ρ = [none, some (hnd 0), o2, o3, o4, o5, o6, o7, o8, none, none], ⟨_, _, _, _, _, _, _, rfl⟩, ?_, ?_⟩
  · rintro j x ρ s2 hx ⟨o2, o3, o4, o5, o6, o7, o8, rfl⟩
    refine ⟨_, rfl, ?_⟩
    refine k_seq (k_set ?_)
    walk_at "E"
    refine k_lcP (fun ds s' => ds = rngD 0 4) ?_ ?_
    · walk_at "E"
      rw [pr1 (by omega) (by omega)]
      walk_at "E"
      rfl
    rintro ds s3 rfl
    refine ⟨by rw [rng_len]; exact szL (by omega), fun j acc _ => acc.length = j ∧ ∀ y ∈ acc, ∃ i, y = .int i ∧ Nb i, ⟨rfl, by simp⟩, ?_, ?_⟩
    · rintro j2 d acc s4 hd ⟨hl, ha⟩
      refine ⟨_, rfl, ?_⟩
      walk_at "E"
      refine ok_number fun i s5 hi => ⟨by simp [hl], fun y hy => ?_⟩
      rcases List.mem_append.mp hy with hy | hy
      · exact ha y hy
      · exact ⟨i, List.mem_singleton.mp hy, hi⟩
    rintro acc s4 ⟨hl, ha⟩
    rw [rng_len] at hl
    obtain ⟨a, b, c, e, rfl⟩ : ∃ a b c e, acc = [a, b, c, e] := by
      match acc, hl with
      | [a, b, c, e], _ => exact ⟨_, _, _, _, rfl⟩
    obtain ⟨a, rfl, h1⟩ := ha a (by simp)
    obtain ⟨b, rfl, h2⟩ := ha b (by simp)
    obtain ⟨c, rfl, h3⟩ := ha c (by simp)
    obtain ⟨e, rfl, h4⟩ := ha e (by simp)
    refine k_seq (k_set (Ok.of (a := .list formsL) rfl ?_))
    refine k_seq (k_set ?_)
    walk_at "E"
    refine k_take (by decide) (by decide) fun r s5 r0 r1 => ?_
    obtain ⟨o, hro, ho⟩ := form_at r0 r1
    refine ⟨_, hro, ?_⟩
    refine k_seq (k_set ?_)
    walk_at "E"
    refine k_take (by decide) (by decide) fun t s6 t0 t1 => ?_
    obtain ⟨p, hrp, hp⟩ := form_at t0 t1
    refine ⟨_, hrp, ?_⟩
    refine k_seq (k_set (Ok.of (a := er6 o p a b c e) rfl ?_))
    refine k_seq ((st7_ok (o0 := none) (o2 := some x) (o4 := some (.list formsL)) (o8 := o8) h1 h2 h3 h4).imp fun r s7 ⟨es, er⟩ => ?_)
    rw [er]
    refine k_seq (k_forP (fun ds s' => ds = rngD 0 9) ?_ ?_)
    · walk_at "E"
      rw [pr1 (by omega) (by omega)]
      walk_at "E"
      rfl
    rintro ds s8 rfl
    refine ⟨fun j ρ _ => ∃ o8, ρ = R none (some x) a b c e (some (.list formsL)) o p (some (K07.er o p a b c e)) o8, ⟨_, rfl⟩, ?_, ?_⟩
    · rintro j2 y ρ s9 hy ⟨q8, rfl⟩
      obtain ⟨hj, rfl⟩ := rng_get hy
      rw [Int.zero_add]
      exact ⟨_, rfl, Ok.of (turn_eq hj) ⟨_, rfl⟩⟩
    · rintro ρ s9 ⟨q8, rfl⟩
      refine (chk_ok ho hp).imp fun r s' er => ?_
      rw [er]
      exact ⟨_, _, _, _, _, _, _, rfl⟩
  · rintro ρ s2 ⟨o2, o3, o4, o5, o6, o7, o8, rfl⟩
    exact k_ret (by walk_at "E")
end K07
set_option Elab.async false
set_option linter.all false
set_option maxRecDepth 100000
set_option maxHeartbeats 4000000
namespace K07
open PySem PySem.Spec PyProof.Rows L2 Dl Lw07 Xe
/-- the i-th statement of a class -/
def inClass (st : Stmt) (i : Nat) : Stmt := match st with
  | .ClassDef _ _ _ b _ _ _ _ _ _ _ => b.getD i (.Pass ⟨0, 0, 0, 0⟩)
  | _ => .Pass ⟨0, 0, 0, 0⟩
/-- what is known of an exception's class with an __init__ of its own -/
structure Xc (P : Program) (K : PySem.W.Frag) (mg : Str → Option Value) (st : Stmt) (x q : Str) (ps : List Str) where
  C : Addr
  f : Addr
  cda : Addr
  cc : Addr
  oc : Value
  od : Option Addr
  dV : Value
  kV : Value
  doc : Value
  pm : Value
  an : Option Addr
  ct : Value
  osl : Array (Option Value)
  g : mg x = some (.ref C)
  l : K.lookup f = some ⟨oc, od, .func (PySem.W.ksFn "__init__" q (defArgs st) (defBody st) (defScope st) dV kV doc pm an (.ref cda) ct cc), osl⟩
  hcd : PySem.W.codeIn K (.ref cda) q = true
  B : SupC P K mg (defScope st) "self" C f cda cc
  i : PySem.W.findIn K (.ref C) "__init__" = some (some (.ref f))
  t : PySem.W.typeIn K (.ref f) = some (.type "function")
  b : Binds K (PySem.W.ksFn "__init__" q (defArgs st) (defBody st) (defScope st) dV kV doc pm an (.ref cda) ct cc) ps []
section
variable {P : Program} {w : World} {K : PySem.W.Frag} {mg : Str → Option Value} {base : Heap}
abbrev s_TwoReadings : Stmt := inClass (topS 7) 0
theorem sc_TwoReadings : SupScope ["self", "one", "other"] ["self", "one", "other"] (defScope s_TwoReadings) := ⟨rfl, rfl, rfl, by decide +kernel, rfl, by decide +kernel, by decide +kernel, by decide +kernel⟩
theorem M_TwoReadings {S : Type} {Z : Zk S} {hd : Nat → Addr → Prop} {k : Nat} (X : Xc P K mg s_TwoReadings "TwoReadings" "TwoReadings.__init__" ["self", "one", "other"]) (hC : hd (2000 + 5) X.C) (n_one : PySem.W.findIn K (.ref X.C) "one" = some none) (n_other : PySem.W.findIn K (.ref X.C) "other" = some none) : XMk2 P w K mg base hd Z (k + 1) 5 "TwoReadings" "one" "other" xm_TwoReadings :=
  ⟨X.C, X.f, _, ["self", "one", "other"], ["self", "one", "other"], X.B.T, X.i, X.t, fn_super X.l X.hcd sc_TwoReadings X.B rfl (fun A outer s H E => by
    unfold xm_TwoReadings
    exact ex_str) (fun A outer s H E => pss_cons (ps_ost (f := "one") (pv 0) (pv 1) rfl) (pss_one (ps_ost (f := "other") (pv 0) (pv 2) rfl))) (fun L => rfl) (fun L => rfl) (fun L => rfl), rfl, rfl, n_one, n_other, hC, X.b, X.g⟩
abbrev s_NoText : Stmt := inClass (topS 8) 0
theorem sc_NoText : SupScope ["self", "row"] ["self", "row"] (defScope s_NoText) := ⟨rfl, rfl, rfl, by decide +kernel, rfl, by decide +kernel, by decide +kernel, by decide +kernel⟩
theorem M_NoText {S : Type} {Z : Zk S} {hd : Nat → Addr → Prop} {k : Nat} (X : Xc P K mg s_NoText "NoText" "NoText.__init__" ["self", "row"]) (hC : hd (2000 + 6) X.C) (n_row : PySem.W.findIn K (.ref X.C) "row" = some none) : XMk1 P w K mg base hd Z (k + 1) 6 "NoText" "row" xm_NoText :=
  ⟨X.C, X.f, _, ["self", "row"], ["self", "row"], X.B.T, X.i, X.t, fn_super X.l X.hcd sc_NoText X.B rfl (fun A outer s H E => by
    unfold xm_NoText
    exact (ex_js (.cons ex_str (.cons (ex_fm (ex_var 1)) .nil)))) (fun A outer s H E => pss_one (ps_ost (f := "row") (pv 0) (pv 1) rfl)) (fun L => rfl) (fun L => rfl) (fun L => rfl), rfl, rfl, n_row, hC, X.b, X.g⟩
abbrev s_Lacks : Stmt := inClass (topS 9) 0
theorem sc_Lacks : SupScope ["self", "line"] ["self", "line"] (defScope s_Lacks) := ⟨rfl, rfl, rfl, by decide +kernel, rfl, by decide +kernel, by decide +kernel, by decide +kernel⟩
theorem M_Lacks {S : Type} {Z : Zk S} {hd : Nat → Addr → Prop} {k : Nat} (X : Xc P K mg s_Lacks "Lacks" "Lacks.__init__" ["self", "line"]) (hC : hd (2000 + 7) X.C) (n_line : PySem.W.findIn K (.ref X.C) "line" = some none) : XMk1 P w K mg base hd Z (k + 1) 7 "Lacks" "line" xm_Lacks :=
  ⟨X.C, X.f, _, ["self", "line"], ["self", "line"], X.B.T, X.i, X.t, fn_super X.l X.hcd sc_Lacks X.B rfl (fun A outer s H E => by
    unfold xm_Lacks
    exact (ex_js (.cons ex_str (.cons (ex_fm (ex_var 1)) (.cons ex_str .nil))))) (fun A outer s H E => pss_one (ps_ost (f := "line") (pv 0) (pv 1) rfl)) (fun L => rfl) (fun L => rfl) (fun L => rfl), rfl, rfl, n_line, hC, X.b, X.g⟩
abbrev s_TooGreat : Stmt := inClass (topS 10) 0
theorem sc_TooGreat : SupScope ["self", "many", "most"] ["self", "many", "most"] (defScope s_TooGreat) := ⟨rfl, rfl, rfl, by decide +kernel, rfl, by decide +kernel, by decide +kernel, by decide +kernel⟩
theorem M_TooGreat {S : Type} {Z : Zk S} {hd : Nat → Addr → Prop} {k : Nat} (X : Xc P K mg s_TooGreat "TooGreat" "TooGreat.__init__" ["self", "many", "most"]) (hC : hd (2000 + 8) X.C) (n_many : PySem.W.findIn K (.ref X.C) "many" = some none) (n_most : PySem.W.findIn K (.ref X.C) "most" = some none) : XMk2 P w K mg base hd Z (k + 1) 8 "TooGreat" "many" "most" xm_TooGreat :=
  ⟨X.C, X.f, _, ["self", "many", "most"], ["self", "many", "most"], X.B.T, X.i, X.t, fn_super X.l X.hcd sc_TooGreat X.B rfl (fun A outer s H E => by
    unfold xm_TooGreat
    exact (ex_js (.cons (ex_fm (ex_var 1)) (.cons ex_str (.cons (ex_fm (ex_var 2)) .nil))))) (fun A outer s H E => pss_cons (ps_ost (f := "many") (pv 0) (pv 1) rfl) (pss_one (ps_ost (f := "most") (pv 0) (pv 2) rfl))) (fun L => rfl) (fun L => rfl) (fun L => rfl), rfl, rfl, n_many, n_most, hC, X.b, X.g⟩
end
end K07
set_option Elab.async false
set_option linter.all false
set_option maxRecDepth 100000
set_option maxHeartbeats 1000000
/-! a def, all that is known of it in one -/
namespace Dl
open PySem PySem.Spec PyProof.Rows L2
structure Du (K : PySem.W.Frag) (mg : Str → Option Value) (x : Str) (st : Stmt) (ps : List Str) where
  f : Addr
  fd : FuncData
  F : Fun K x x st f fd
  g : mg x = some (.ref f)
  b : Binds K fd ps []
structure DuC (K : PySem.W.Frag) (mg : Str → Option Value) (x : Str) (st : Stmt) (ps : List Str) (c : Addr) extends Du K mg x st ps where
  C : FunC K x x st f fd c
structure Tb1 (q : Program) (K : PySem.W.Frag) (x : Str) (c T : Addr) : Prop where
  ex : ∃ d : DefRec, (recsOf q).find? (fun e => e.name == x) = some d ∧ PySem.W.tabIn K x = some (c, T)
variable {K : PySem.W.Frag} {mg : Str → Option Value} {x : Str} {st : Stmt} {ps : List Str} {f : Addr} {oc : Value} {od an : Option Addr} {osl : Array (Option Value)} {kV doc pm cdv ct : Value}
def du_mk (g : mg x = some (.ref f)) (l : K.lookup f = some ⟨oc, od, .func (PySem.W.fnOf x x (defArgs st) (defBody st) (defScope st) .none kV doc pm an cdv ct), osl⟩) (c : PySem.W.codeIn K cdv x = true) (k : PySem.W.keepIn K (.ref f) = true)
    (h : ∀ (kV doc pm : Value) (an : Option Addr) (cdv ct : Value) (us : List Value), us.length = ps.length → bindArgs (PySem.W.fnOf x x (defArgs st) (defBody st) (defScope st) .none kV doc pm an cdv ct) ⟨us, []⟩ = pure (ps.zip us)) : Du K mg x st ps :=
  ⟨f, _, fun_mk l c k, g, (fun_mk l c k).binds h⟩
end Dl
set_option Elab.async false
set_option linter.all false
set_option maxRecDepth 100000
set_option maxHeartbeats 4000000
namespace K07
open PySem PySem.Spec PyProof.Rows L2 Dl Lw07 Xe
/-- what a class says: asked for its kind and read -/
def clB (K : PySem.W.Frag) (C : Addr) : Bool :=
  decide (PySem.W.findIn K (.ref C) "__class__" = some (some (.builtin "object.__class__"))) && (decide (PySem.W.specialIn K (.builtin "object.__class__") "__get__" = some (some (.builtin "getset_descriptor.__get__"))) && (decide (PySem.W.takesIn K (.builtin "object.__class__") = some true) && (decide (PySem.W.mroIn K C (.type "object") = some true) && (xfB K C && (["one", "other", "row", "line", "many", "most"] : List Str).all fun n => decide (PySem.W.findIn K (.ref C) n = some none)))))
theorem clB_ok {K : PySem.W.Frag} {C : Addr} (h : clB K C = true) : ExcC K C ∧ XfC K C ∧ ∀ n ∈ (["one", "other", "row", "line", "many", "most"] : List Str), PySem.W.findIn K (.ref C) n = some none := by
  obtain ⟨h1, h⟩ := Bool.and_eq_true_iff.mp h
  obtain ⟨h2, h⟩ := Bool.and_eq_true_iff.mp h
  obtain ⟨h3, h⟩ := Bool.and_eq_true_iff.mp h
  obtain ⟨h4, h⟩ := Bool.and_eq_true_iff.mp h
  obtain ⟨h5, h6⟩ := Bool.and_eq_true_iff.mp h
  have X := xfB_ok h5
  exact ⟨⟨X.ga, X.gg, X.exC, X.hdC, of_decide_eq_true h1, of_decide_eq_true h2, of_decide_eq_true h3, of_decide_eq_true h4⟩, X, fun n hn => of_decide_eq_true (List.all_eq_true.mp h6 n hn)⟩
/-- each class is its own kind alone -/
def kitB (K : PySem.W.Frag) (L : List Addr) (e : Addr) : Bool :=
  L.zipIdx.all fun p => (L.zipIdx.all fun q => decide (PySem.W.kitOne K (.ref p.1) (.ref q.1) = some (decide (p.2 = q.2)))) && (decide (PySem.W.kitOne K (.ref p.1) (.ref e) = some true) && decide (PySem.W.kitOne K (.ref p.1) (.type "ValueError") = some true))
theorem kit_at {K : PySem.W.Frag} {L : List Addr} {e C : Addr} {c : Nat} (h : kitB K L e = true) (hc : L[c]? = some C) : (∀ j D, L[j]? = some D → PySem.W.kitOne K (.ref C) (.ref D) = some (decide (c = j))) ∧ PySem.W.kitOne K (.ref C) (.ref e) = some true ∧ PySem.W.kitOne K (.ref C) (.type "ValueError") = some true := by
  have h1 := List.all_eq_true.mp h (C, c) (by rw [List.mem_zipIdx_iff_getElem?]; exact hc)
  obtain ⟨h2, h3⟩ := Bool.and_eq_true_iff.mp h1
  obtain ⟨h4, h5⟩ := Bool.and_eq_true_iff.mp h3
  exact ⟨fun j D hj => of_decide_eq_true (List.all_eq_true.mp h2 (D, j) (by rw [List.mem_zipIdx_iff_getElem?]; exact hj)), of_decide_eq_true h4, of_decide_eq_true h5⟩
theorem xi_own {K : PySem.W.Frag} {L : List Addr} {e d D : Addr} {j : Nat} (hL : ∀ C ∈ L, clB K C = true) (h : kitB K L e = true) (hj : L[j]? = some D) : XiOk K (hdX d L) (.ref D) (fun i => decide (i = (j : Int))) := fun c C hC => by
  have hc := hdX_of hC
  refine ⟨(clB_ok (hL C (List.mem_of_getElem? hc))).1, ?_⟩
  rw [(kit_at h hc).1 j D hj]
  congr 1
  by_cases z : c = j
  · subst z
    show decide (c = c) = decide ((c : Int) = (c : Int))
    simp
  · show decide (c = j) = decide ((c : Int) = (j : Int))
    rw [decide_eq_false z, decide_eq_false (by omega)]
theorem xi_all {K : PySem.W.Frag} {L : List Addr} {e d : Addr} (hL : ∀ C ∈ L, clB K C = true) (h : kitB K L e = true) : XiOk K (hdX d L) (.ref e) (fun _ => true) := fun c C hC => ⟨(clB_ok (hL C (List.mem_of_getElem? (hdX_of hC)))).1, (kit_at h (hdX_of hC)).2.1⟩
theorem xi_ve {K : PySem.W.Frag} {L : List Addr} {e d : Addr} (hL : ∀ C ∈ L, clB K C = true) (h : kitB K L e = true) : XiOk K (hdX d L) (.type "ValueError") (fun _ => true) := fun c C hC => ⟨(clB_ok (hL C (List.mem_of_getElem? (hdX_of hC)))).1, (kit_at h (hdX_of hC)).2.2⟩
theorem xa_all {K : PySem.W.Frag} {L : List Addr} {d : Addr} {n : Str} (hL : ∀ C ∈ L, clB K C = true) (hn : n ∈ (["one", "other", "row", "line", "many", "most"] : List Str)) : XaOk K (hdX d L) n := fun c C hC => by
  have h := clB_ok (hL C (List.mem_of_getElem? (hdX_of hC)))
  exact ⟨h.2.1, h.2.2 n hn⟩
/-- a class without an __init__ of its own -/
structure Xp (K : PySem.W.Frag) (mg : Str → Option Value) (x : Str) where
  C : Addr
  g : mg x = some (.ref C)
  q : PySem.W.excIn K C bmV "ValueError.__new__" = true
  kp : PySem.W.keepIn K (.ref C) = true
section
variable {P : Program} {w : World} {K : PySem.W.Frag} {mg : Str → Option Value} {base : Heap} {f : Addr} {fd : FuncData}
theorem ok_law {L Ts : List Addr} (U : Fun K "law" "law" s_law f fd) (C_deck : Lc.Dn P w K mg base "_law_deck" ["_law_script"] 1 (spDeck K))
    (hrest : ∀ d c (cdv : Value) (A : Around) (outer : List Env) (s : Shared) (H : Hp) (E : XK), Room 3 (A.deeper (envOfC "law" (defScope s_law) s.heap.objs.size f cdv)) → PSs (cxOf CX0 P w K mg base N_law "law" (defScope s_law) f cdv A outer s H E).nox ((defBody s_law).drop 1) (tSt ⟨K, hdX d L⟩ (Zt d c Ts) [] (B_law Fnum Ftake Fkin))) :
    FnOk P w K mg base CX0 4 f fd ["_law_script"] (spLawT K Ts) := by
  refine U.ok sc_law (fun vs H Q E h => ?_) (fun cdv A outer s H vs Q E hr h => ?_)
  · obtain ⟨a, ns, rfl, _⟩ := h
    rfl
  · obtain ⟨a, ns, rfl, hS, hT, q⟩ := h
    refine ⟨_, pss_cons (ps_set (i := 1) sc_law.nd rfl (.inr rfl) (Lc.pe_dn C_deck (hr.mono (by decide)) (by rfl) (pa_cons (pv 0) pa_nil))) (pss_restX fun d c => hrest d c cdv A outer s H E hr), ?_⟩
    refine ⟨.ref a, rfl, a, ns, rfl, hS, fun d c H' s0 sm ndc dk _ _ => ?_⟩
    exact rest_atX dk (fun T hm => by obtain ⟨ps, e, t⟩ := hT T hm; exact ⟨ps, sm _ _ e, t⟩) (by decide) (law_true (s := s0)) q
end
theorem all_mk {l : PySem.W.OpenLaw} {w : World} {K : PySem.W.Frag} {h : Heap} {mg mb : Str → Option Value} {fa : Addr} {q : Program} {loose : List Str} {mean : ExcName → Option Value} (Tp : Top q (PySem.W.looseW q loose) mean mg mb h) (X : K.In h) (hfa : mg "law" = some (.ref fa))
    (E0 : Xp K mg "NoSentence") (E1 : Xp K mg "NoJoin") (E2 : Xp K mg "NoOrder") (E3 : Xp K mg "NoTurn") (E4 : Xp K mg "Twice")
    (E5 : Xc l.prog K mg s_TwoReadings "TwoReadings" "TwoReadings.__init__" ["self", "one", "other"])
    (E6 : Xc l.prog K mg s_NoText "NoText" "NoText.__init__" ["self", "row"])
    (E7 : Xc l.prog K mg s_Lacks "Lacks" "Lacks.__init__" ["self", "line"])
    (E8 : Xc l.prog K mg s_TooGreat "TooGreat" "TooGreat.__init__" ["self", "many", "most"])
    {ce : Addr} (g_CourtError : mg "CourtError" = some (.ref ce))
    (b0 : clB K E0.C = true) (b1 : clB K E1.C = true) (b2 : clB K E2.C = true) (b3 : clB K E3.C = true) (b4 : clB K E4.C = true) (b5 : clB K E5.C = true) (b6 : clB K E6.C = true) (b7 : clB K E7.C = true) (b8 : clB K E8.C = true)
    (hk : kitB K [E0.C, E1.C, E2.C, E3.C, E4.C, E5.C, E6.C, E7.C, E8.C] ce = true)
    (H_w_mixed : Du K mg "_law_mixed" s_w_mixed ["_law_cell", "_law_k"])
    (H_w_deck : Du K mg "_law_deck" s_w_deck ["_law_script"])
    (H_w_take : Du K mg "_law_take" s_w_take ["_law_deck_here", "_law_most"])
    (H_w_number : Du K mg "_law_number" s_w_number ["_law_deck_here"])
    (H_w_kinds : Du K mg "_law_kinds" s_w_kinds ["_law_error"])
    (H_law : Du K mg "law" s_law ["_law_script"])
    (hbl : ∀ (s : Shared) (u : Value), BindsTo s H_law.fd ⟨[u], []⟩ [("_law_script", u)])
    (m_list : mg "list" = none) (m_sum : mg "sum" = none) (m_len : mg "len" = none) (m_reversed : mg "reversed" = none) (m_range : mg "range" = none) (m_isinstance : mg "isinstance" = none) (m_ValueError : mg "ValueError" = none)
    (hno : PySem.W.noTabs K = true) :
    LamX.LawAtS l w K CX0 4 63 "_law_script" mg fa h := by
  have e : fa = H_law.f := by
    have h := hfa.symm.trans H_law.g
    injection h with h
    injection h
  subst e
  refine law_many [] Tp X (fun p hp => by cases hp) hno (fd := H_law.fd) (sp := spLawT K []) hbl (fun H a ns t hS => ⟨a, ns, rfl, hS, fun T hT => (by cases hT), fun _ => rfl⟩) (fun base hb hg hTB => ?_)
  have hL : ∀ C ∈ [E0.C, E1.C, E2.C, E3.C, E4.C, E5.C, E6.C, E7.C, E8.C], clB K C = true := fun C hC => by
    simp only [List.mem_cons, List.not_mem_nil, or_false] at hC
    rcases hC with rfl | rfl | rfl | rfl | rfl | rfl | rfl | rfl | rfl <;> assumption
  generalize hLe : [E0.C, E1.C, E2.C, E3.C, E4.C, E5.C, E6.C, E7.C, E8.C] = L at hL hk
  have L0 : L[0]? = some E0.C := by rw [← hLe]; rfl
  have L1 : L[1]? = some E1.C := by rw [← hLe]; rfl
  have L2' : L[2]? = some E2.C := by rw [← hLe]; rfl
  have L3 : L[3]? = some E3.C := by rw [← hLe]; rfl
  have L4 : L[4]? = some E4.C := by rw [← hLe]; rfl
  have L5 : L[5]? = some E5.C := by rw [← hLe]; rfl
  have L6 : L[6]? = some E6.C := by rw [← hLe]; rfl
  have L7 : L[7]? = some E7.C := by rw [← hLe]; rfl
  have L8 : L[8]? = some E8.C := by rw [← hLe]; rfl
  have C_w_mixed : Lc.Dn l.prog w K mg base "_law_mixed" ["_law_cell", "_law_k"] 1 spMixed := ⟨H_w_mixed.f, _, H_w_mixed.F.kp, H_w_mixed.g, H_w_mixed.b, ok_w_mixed H_w_mixed.F⟩
  have C_deck : Lc.Dn l.prog w K mg base "_law_deck" ["_law_script"] 1 (spDeck K) := ⟨H_w_deck.f, _, H_w_deck.F.kp, H_w_deck.g, H_w_deck.b, ok_w_deck H_w_deck.F m_list m_sum m_len m_reversed⟩
  have C_w_take : ∀ d c, Lc.Dn l.prog w K mg base "_law_take" ["_law_deck_here", "_law_most"] 2 (spD ⟨K, hdX d L⟩ (Zt d c []) 2 Ftake) := fun d c => ⟨H_w_take.f, _, H_w_take.F.kp, H_w_take.g, H_w_take.b, fn_zt (D_take (k := 0) H_w_take.F C_w_mixed)⟩
  have C_w_number : ∀ d c, Lc.Dn l.prog w K mg base "_law_number" ["_law_deck_here"] 3 (spD ⟨K, hdX d L⟩ (Zt d c []) 1 Fnum) := fun d c => ⟨H_w_number.f, _, H_w_number.F.kp, H_w_number.g, H_w_number.b, P_w_number (k := 2) H_w_number.F (C_w_take d c) (by decide)⟩
  have C_w_kinds : ∀ d c, Lc.Dn l.prog w K mg base "_law_kinds" ["_law_error"] 1 (spD ⟨K, hdX d L⟩ (Zt d c []) 1 Fkin) := fun d c => ⟨H_w_kinds.f, _, H_w_kinds.F.kp, H_w_kinds.g, H_w_kinds.b, P_w_kinds (k := 0) H_w_kinds.F m_isinstance E2.g E1.g E0.g E5.g E4.g E3.g E8.g E7.g E6.g (xi_own (j := 2) hL hk L2') (xi_own (j := 1) hL hk L1) (xi_own (j := 0) hL hk L0) (xi_own (j := 5) hL hk L5) (xi_own (j := 4) hL hk L4) (xi_own (j := 3) hL hk L3) (xi_own (j := 8) hL hk L8) (xi_own (j := 7) hL hk L7) (xi_own (j := 6) hL hk L6)⟩
  have n5 := (clB_ok b5).2.2
  have n6 := (clB_ok b6).2.2
  have n7 := (clB_ok b7).2.2
  have n8 := (clB_ok b8).2.2
  exact ok_law (L := L) H_law.F C_deck fun d c cdv A outer s H E hr => P_law (C_w_number d c) (by decide) (C_w_take d c) (by decide) (C_w_kinds d c) (by decide) m_range m_isinstance m_ValueError E5.g E4.g E3.g E2.g E1.g E0.g E8.g E7.g E6.g g_CourtError
    (M_TwoReadings (k := 0) E5 (hdX_cls L5) (n5 _ (by decide +kernel)) (n5 _ (by decide +kernel))) (by decide) E4.q E4.kp (hdX_cls L4) E3.q E3.kp (hdX_cls L3) E2.q E2.kp (hdX_cls L2') E1.q E1.kp (hdX_cls L1) E0.q E0.kp (hdX_cls L0)
    (M_TooGreat (k := 0) E8 (hdX_cls L8) (n8 _ (by decide +kernel)) (n8 _ (by decide +kernel))) (by decide) (M_Lacks (k := 0) E7 (hdX_cls L7) (n7 _ (by decide +kernel))) (by decide) (M_NoText (k := 0) E6 (hdX_cls L6) (n6 _ (by decide +kernel))) (by decide)
    (xi_ve hL hk) (xi_all hL hk) (xa_all hL (by decide +kernel)) (xa_all hL (by decide +kernel)) (xa_all hL (by decide +kernel)) (xa_all hL (by decide +kernel)) (xa_all hL (by decide +kernel)) (xa_all hL (by decide +kernel)) hr
section
def xp_mk {K : PySem.W.Frag} {mg : Str → Option Value} {x : Str} {C : Addr} (g : mg x = some (.ref C)) (q : PySem.W.excIn K C bmV "ValueError.__new__" = true) (kp : PySem.W.keepIn K (.ref C) = true) : Xp K mg x := ⟨C, g, q, kp⟩
variable {P : Program} {K : PySem.W.Frag} {mg : Str → Option Value} {st : Stmt} {x qn : Str} {ps : List Str} {C f cda cc : Addr} {oc kV doc pm ct ccl cl : Value} {od an cdd cld : Option Addr} {osl ccs csl : Array (Option Value)} {file : Str} {tf : Tok} {vs : Array Value}
def xc_mk {OC : Obj} (g : mg x = some (.ref C)) (i : PySem.W.findIn K (.ref C) "__init__" = some (some (.ref f))) (l : K.lookup f = some ⟨oc, od, .func (PySem.W.ksFn "__init__" qn (defArgs st) (defBody st) (defScope st) .none kV doc pm an (.ref cda) ct cc), osl⟩) (hcd : PySem.W.codeIn K (.ref cda) qn = true)
    (lc : K.lookup C = some OC) (hlc : ∃ nm q N bs bm sn sub ab col dd k0 k1 k2 k3 k5, OC = excClassObj nm q C N bs bm true sn sub ab col dd k0 k1 k2 k3 k5 "ValueError.__new__" ∧ PySem.HandSPX.refsVE bm = true)
    (sa : PySem.W.findIn K (.ref C) "__setattr__" = some (some (.builtin "object.__setattr__"))) (exC : PySem.W.subIn K (.ref C) (.type "BaseException") = some true) (tyC : PySem.W.typeIn K (.ref C) = some (.type "type")) (kC : PySem.W.keepIn K (.ref C) = true)
    (lcode : K.lookup cda = some ⟨ccl, cdd, .fields vs, ccs⟩) (hvs : vs[2]? = some (.str file tf)) (hfile : (P.main.file == file) = true) (top : (P.main.scope.names.lookup ("super" : Str)).isSome = false) (lcc : K.lookup cc = some ⟨cl, cld, .cell (some (.ref C)), csl⟩)
    (hp : ∃ ar, ((defArgs st).posonlyargs ++ (defArgs st).args).head? = some ar ∧ ar.arg = ("self" : Str)) (ks : (defScope st).names.lookup ("super" : Str) = some .globalImplicit) (kc : (defScope st).names.lookup ("__class__" : Str) = some .free) (k0 : (defScope st).names.lookup ("self" : Str) = some .local) (kind : (defScope st).kind = .function)
    (mgs : mg "super" = none) (mro : PySem.W.mroIn K C (.ref C) = some true) (sup : PySem.W.ks_superIn K C C "__init__" = some (some (.builtin "ValueError.__init__"))) (sub : PySem.W.subIn K (.ref C) (.type "ValueError") = some true) (stat : PySem.W.nsIn K cStatics "thirdparty.any" = some none)
    (t : PySem.W.typeIn K (.ref f) = some (.type "function"))
    (h : ∀ (kV doc pm : Value) (an : Option Addr) (cda cc : Addr) (ct : Value) (us : List Value), us.length = ps.length → bindArgs (PySem.W.ksFn "__init__" qn (defArgs st) (defBody st) (defScope st) .none kV doc pm an (.ref cda) ct cc) ⟨us, []⟩ = pure (ps.zip us)) : Xc P K mg st x qn ps where
  C := C
  f := f
  cda := cda
  cc := cc
  oc := oc
  od := od
  dV := .none
  kV := kV
  doc := doc
  pm := pm
  an := an
  ct := ct
  osl := osl
  g := g
  l := l
  hcd := hcd
  B := ⟨⟨by
      obtain ⟨nm, q, N, bs, bm, sn, sub, ab, col, dd, k0, k1, k2, k3, k5, e1, e2⟩ := hlc
      exact ⟨nm, q, N, bs, bm, sn, sub, ab, col, dd, k0, k1, k2, k3, k5, by rw [lc, e1], e2⟩, sa, exC, tyC, kC⟩, by
      obtain ⟨ar, h1, h2⟩ := hp
      exact ⟨_, _, _, _, ar, l, h1, h2⟩, ⟨_, _, _, _, _, _, lcode, hvs, hfile⟩, top, ⟨_, _, _, lcc⟩, ks, kc, k0, kind, mgs, mro, sup, sub, stat⟩
  i := i
  t := t
  b := Binds.all fun us hl => h kV doc pm an cda cc ct us hl
end
end K07
open PySem PySem.W PyProof.Rows
set_option maxHeartbeats 0 in
theorem PySem.Challenge.cw_linecourt_k07_refusals_made_by_hand_holds : PySem.Challenge.rw_linecourt_k07_refusals_made_by_hand.Holds := by
  w_on; o_law; k_head; (case hw => w_witness2)
  k_fill
  refine Lc.walk_tab (l := PySem.Challenge.rw_linecourt_k07_refusals_made_by_hand) (n := 63) (k := 4) (x := "_law_script") (CX := fun _ => L2.CX0) rfl (by decide) rfl ⟨rfl, by decide, by decide⟩ (fun w h Y => PySem.W.kIn_of Y) ?F (fun _ _ _ _ _ h => h)
  case F =>
    intro w mean mg mb fa h Tp KX hmg
    refine' K07.all_mk Tp KX hmg (K07.xp_mk (PySem.W.mg_of KX Tp.g ?aE0) ?qE0 ?kE0) (K07.xp_mk (PySem.W.mg_of KX Tp.g ?aE1) ?qE1 ?kE1) (K07.xp_mk (PySem.W.mg_of KX Tp.g ?aE2) ?qE2 ?kE2) (K07.xp_mk (PySem.W.mg_of KX Tp.g ?aE3) ?qE3 ?kE3) (K07.xp_mk (PySem.W.mg_of KX Tp.g ?aE4) ?qE4 ?kE4) (K07.xc_mk (st := K07.s_TwoReadings) (PySem.W.mg_of KX Tp.g ?aE5) ?i5 ?l5 ?c5 ?lc5 ?hlc5 ?sa5 ?ex5 ?ty5 ?kc5 ?ld5 ?vs5 ?fi5 ?to5 ?cc5 ⟨_, rfl, rfl⟩ rfl rfl rfl rfl (PySem.W.mg_none_of KX Tp.g ?zs5) ?mro5 ?sup5 ?sub5 ?st5 ?t5 (fun _ _ _ _ _ _ _ us hl => match us, hl with | [_, _, _], _ => rfl)) (K07.xc_mk (st := K07.s_NoText) (PySem.W.mg_of KX Tp.g ?aE6) ?i6 ?l6 ?c6 ?lc6 ?hlc6 ?sa6 ?ex6 ?ty6 ?kc6 ?ld6 ?vs6 ?fi6 ?to6 ?cc6 ⟨_, rfl, rfl⟩ rfl rfl rfl rfl (PySem.W.mg_none_of KX Tp.g ?zs6) ?mro6 ?sup6 ?sub6 ?st6 ?t6 (fun _ _ _ _ _ _ _ us hl => match us, hl with | [_, _], _ => rfl)) (K07.xc_mk (st := K07.s_Lacks) (PySem.W.mg_of KX Tp.g ?aE7) ?i7 ?l7 ?c7 ?lc7 ?hlc7 ?sa7 ?ex7 ?ty7 ?kc7 ?ld7 ?vs7 ?fi7 ?to7 ?cc7 ⟨_, rfl, rfl⟩ rfl rfl rfl rfl (PySem.W.mg_none_of KX Tp.g ?zs7) ?mro7 ?sup7 ?sub7 ?st7 ?t7 (fun _ _ _ _ _ _ _ us hl => match us, hl with | [_, _], _ => rfl)) (K07.xc_mk (st := K07.s_TooGreat) (PySem.W.mg_of KX Tp.g ?aE8) ?i8 ?l8 ?c8 ?lc8 ?hlc8 ?sa8 ?ex8 ?ty8 ?kc8 ?ld8 ?vs8 ?fi8 ?to8 ?cc8 ⟨_, rfl, rfl⟩ rfl rfl rfl rfl (PySem.W.mg_none_of KX Tp.g ?zs8) ?mro8 ?sup8 ?sub8 ?st8 ?t8 (fun _ _ _ _ _ _ _ us hl => match us, hl with | [_, _, _], _ => rfl)) (PySem.W.mg_of KX Tp.g ?aCE) ?b0 ?b1 ?b2 ?b3 ?b4 ?b5 ?b6 ?b7 ?b8 ?hk (Dl.du_mk (st := K07.s_w_mixed) (ps := ["_law_cell", "_law_k"]) (PySem.W.mg_of KX Tp.g ?da0) ?dl0 ?dc0 ?dk0 (fun _ _ _ _ _ _ us hl => match us, hl with | [_, _], _ => rfl)) (Dl.du_mk (st := K07.s_w_deck) (ps := ["_law_script"]) (PySem.W.mg_of KX Tp.g ?da1) ?dl1 ?dc1 ?dk1 (fun _ _ _ _ _ _ us hl => match us, hl with | [_], _ => rfl)) (Dl.du_mk (st := K07.s_w_take) (ps := ["_law_deck_here", "_law_most"]) (PySem.W.mg_of KX Tp.g ?da2) ?dl2 ?dc2 ?dk2 (fun _ _ _ _ _ _ us hl => match us, hl with | [_, _], _ => rfl)) (Dl.du_mk (st := K07.s_w_number) (ps := ["_law_deck_here"]) (PySem.W.mg_of KX Tp.g ?da3) ?dl3 ?dc3 ?dk3 (fun _ _ _ _ _ _ us hl => match us, hl with | [_], _ => rfl)) (Dl.du_mk (st := K07.s_w_kinds) (ps := ["_law_error"]) (PySem.W.mg_of KX Tp.g ?da4) ?dl4 ?dc4 ?dk4 (fun _ _ _ _ _ _ us hl => match us, hl with | [_], _ => rfl)) (Dl.du_mk (st := K07.s_law) (ps := ["_law_script"]) (PySem.W.mg_of KX Tp.g ?da5) ?dl5 ?dc5 ?dk5 (fun _ _ _ _ _ _ us hl => match us, hl with | [_], _ => rfl)) (fun s v => .of_eq rfl) (PySem.W.mg_none_of KX Tp.g ?z_list) (PySem.W.mg_none_of KX Tp.g ?z_sum) (PySem.W.mg_none_of KX Tp.g ?z_len) (PySem.W.mg_none_of KX Tp.g ?z_reversed) (PySem.W.mg_none_of KX Tp.g ?z_range) (PySem.W.mg_none_of KX Tp.g ?z_isinstance) (PySem.W.mg_none_of KX Tp.g ?z_ValueError) ?hno
    (case aE0 => (k_is))
    (case qE0 => (first | k_exc | kx_is | (unfold Dl.bmV; k_exc) | (unfold Dl.bmV; kx_is)))
    (case kE0 => (k_is))
    (case aE1 => (k_is))
    (case qE1 => (first | k_exc | kx_is | (unfold Dl.bmV; k_exc) | (unfold Dl.bmV; kx_is)))
    (case kE1 => (k_is))
    (case aE2 => (k_is))
    (case qE2 => (first | k_exc | kx_is | (unfold Dl.bmV; k_exc) | (unfold Dl.bmV; kx_is)))
    (case kE2 => (k_is))
    (case aE3 => (k_is))
    (case qE3 => (first | k_exc | kx_is | (unfold Dl.bmV; k_exc) | (unfold Dl.bmV; kx_is)))
    (case kE3 => (k_is))
    (case aE4 => (k_is))
    (case qE4 => (first | k_exc | kx_is | (unfold Dl.bmV; k_exc) | (unfold Dl.bmV; kx_is)))
    (case kE4 => (k_is))
    (case aE5 => (k_is))
    (case i5 => (k_is))
    (case l5 => (k_is))
    (case c5 => (k_is))
    (case lc5 => (k_is))
    (case hlc5 => (exact ⟨_, _, _, _, _, _, _, _, _, _, _, _, _, _, _, rfl, rfl⟩))
    (case sa5 => (k_is))
    (case ex5 => (k_is))
    (case ty5 => (k_is))
    (case kc5 => (k_is))
    (case ld5 => (k_is))
    (case vs5 => (first | rfl | k_is))
    (case fi5 => (first | rfl | decide +kernel | k_is))
    (case to5 => (first | rfl | decide +kernel | k_is))
    (case cc5 => (k_is))
    (case zs5 => (k_is))
    (case mro5 => (first | k_is | decide +kernel | rfl))
    (case sup5 => (first | k_is | decide +kernel | rfl))
    (case sub5 => (first | k_is | decide +kernel | rfl))
    (case st5 => (first | k_is | decide +kernel | rfl))
    (case t5 => (first | k_is | decide +kernel | rfl))
    (case aE6 => (k_is))
    (case i6 => (k_is))
    (case l6 => (k_is))
    (case c6 => (k_is))
    (case lc6 => (k_is))
    (case hlc6 => (exact ⟨_, _, _, _, _, _, _, _, _, _, _, _, _, _, _, rfl, rfl⟩))
    (case sa6 => (k_is))
    (case ex6 => (k_is))
    (case ty6 => (k_is))
    (case kc6 => (k_is))
    (case ld6 => (k_is))
    (case vs6 => (first | rfl | k_is))
    (case fi6 => (first | rfl | decide +kernel | k_is))
    (case to6 => (first | rfl | decide +kernel | k_is))
    (case cc6 => (k_is))
    (case zs6 => (k_is))
    (case mro6 => (first | k_is | decide +kernel | rfl))
    (case sup6 => (first | k_is | decide +kernel | rfl))
    (case sub6 => (first | k_is | decide +kernel | rfl))
    (case st6 => (first | k_is | decide +kernel | rfl))
    (case t6 => (first | k_is | decide +kernel | rfl))
    (case aE7 => (k_is))
    (case i7 => (k_is))
    (case l7 => (k_is))
    (case c7 => (k_is))
    (case lc7 => (k_is))
    (case hlc7 => (exact ⟨_, _, _, _, _, _, _, _, _, _, _, _, _, _, _, rfl, rfl⟩))
    (case sa7 => (k_is))
    (case ex7 => (k_is))
    (case ty7 => (k_is))
    (case kc7 => (k_is))
    (case ld7 => (k_is))
    (case vs7 => (first | rfl | k_is))
    (case fi7 => (first | rfl | decide +kernel | k_is))
    (case to7 => (first | rfl | decide +kernel | k_is))
    (case cc7 => (k_is))
    (case zs7 => (k_is))
    (case mro7 => (first | k_is | decide +kernel | rfl))
    (case sup7 => (first | k_is | decide +kernel | rfl))
    (case sub7 => (first | k_is | decide +kernel | rfl))
    (case st7 => (first | k_is | decide +kernel | rfl))
    (case t7 => (first | k_is | decide +kernel | rfl))
    (case aE8 => (k_is))
    (case i8 => (k_is))
    (case l8 => (k_is))
    (case c8 => (k_is))
    (case lc8 => (k_is))
    (case hlc8 => (exact ⟨_, _, _, _, _, _, _, _, _, _, _, _, _, _, _, rfl, rfl⟩))
    (case sa8 => (k_is))
    (case ex8 => (k_is))
    (case ty8 => (k_is))
    (case kc8 => (k_is))
    (case ld8 => (k_is))
    (case vs8 => (first | rfl | k_is))
    (case fi8 => (first | rfl | decide +kernel | k_is))
    (case to8 => (first | rfl | decide +kernel | k_is))
    (case cc8 => (k_is))
    (case zs8 => (k_is))
    (case mro8 => (first | k_is | decide +kernel | rfl))
    (case sup8 => (first | k_is | decide +kernel | rfl))
    (case sub8 => (first | k_is | decide +kernel | rfl))
    (case st8 => (first | k_is | decide +kernel | rfl))
    (case t8 => (first | k_is | decide +kernel | rfl))
    (case aCE => (k_is))
    (case b0 => (first | k_is | decide +kernel | rfl))
    (case b1 => (first | k_is | decide +kernel | rfl))
    (case b2 => (first | k_is | decide +kernel | rfl))
    (case b3 => (first | k_is | decide +kernel | rfl))
    (case b4 => (first | k_is | decide +kernel | rfl))
    (case b5 => (first | k_is | decide +kernel | rfl))
    (case b6 => (first | k_is | decide +kernel | rfl))
    (case b7 => (first | k_is | decide +kernel | rfl))
    (case b8 => (first | k_is | decide +kernel | rfl))
    (case hk => (first | k_is | decide +kernel | rfl))
    (case da0 => (k_is))
    (case dl0 => (k_is))
    (case dc0 => (k_is))
    (case dk0 => (k_is))
    (case da1 => (k_is))
    (case dl1 => (k_is))
    (case dc1 => (k_is))
    (case dk1 => (k_is))
    (case da2 => (k_is))
    (case dl2 => (k_is))
    (case dc2 => (k_is))
    (case dk2 => (k_is))
    (case da3 => (k_is))
    (case dl3 => (k_is))
    (case dc3 => (k_is))
    (case dk3 => (k_is))
    (case da4 => (k_is))
    (case dl4 => (k_is))
    (case dc4 => (k_is))
    (case dk4 => (k_is))
    (case da5 => (k_is))
    (case dl5 => (k_is))
    (case dc5 => (k_is))
    (case dk5 => (k_is))
    (case z_list => (k_is))
    (case z_sum => (k_is))
    (case z_len => (k_is))
    (case z_reversed => (k_is))
    (case z_range => (k_is))
    (case z_isinstance => (k_is))
    (case z_ValueError => (k_is))
    (case hno => (first | rfl | decide +kernel | k_is))
