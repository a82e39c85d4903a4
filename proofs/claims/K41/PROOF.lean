import PyProof.Rows.All
import Wide.All
import OpenK.AllK
import Wide.FinOn
import HandS.SetFor
import HandS.SetTxt0
import HandS.Strs
import PyProof.Rows.SortShellAny
import KE.GoesSet
import PyProof.MeetsSeq2
import HandS.Zip
import HandS.ForMost
import HandS.More
import HandS.Wide
import HandS.IsInst
import HandS.Flow
import HandS.Replace
import HandS.Evl
import HandS.Walk
import HandS.TupAny
import HandS.Deep
import HandS.FStr
import PyProof.NeData
import PyProof.EnumIter
import PyProof.EnumMake
import PyProof.EnumFor
import PyProof.TupleIter
import PyProof.WalksMore
import HandS.Zip0
import PyProof.ListStr
import HandS.AnyAll
import HandS.Nested
import HandS.EndTab
import HandS.GenOver
import HandS.Conv
import HandS.Style
import KE.KRevSl
import KE.GoesMore
import KE.GoesEnum
import HandS.Rev
import KE.KDictList
import PySem.Challenge.RW_linecourt_k41_sums_together
set_option Elab.async false
set_option linter.all false
set_option maxRecDepth 100000
set_option maxHeartbeats 4000000
/-! sets of texts that can be walked -/
namespace Ds
open PySem PySem.Spec PyProof.Rows PySem.Froz
/-- the table rises, and its order is told or led -/
def Wlk (w : World) (t : SetTable) : Prop := L2.Ris t.place.toList ∧ (w.params.followText "set-order" = true ∨ t.led = true)
/-- the set at a has the members l, each once -/
def TSet (P : Program) (w : World) (h : Heap) (a : Addr) (l : List Str) : Prop :=
  ∃ D : SD, h.get? a = some (sObj "set" D) ∧ TxOk P w D l ∧ l.Nodup ∧ l.length < scanBound ∧ Wlk w D.2.2
def nuD (w : World) : SD := (#[], 0, .fresh 0 0 (!w.params.followText "set-order"))
section
variable {P : Program} {w : World} {h h' : Heap} {a : Addr} {l : List Str}
theorem TSet.mv (T : TSet P w h a l) (k : ∀ o, h.get? a = some o → h'.get? a = some o) : TSet P w h' a l := by
  obtain ⟨D, e, r⟩ := T
  exact ⟨D, k _ e, r⟩
theorem TSet.nu (e : h.get? a = some (sObj "set" (nuD w))) : TSet P w h a [] := by
  refine ⟨nuD w, e, TxOk.nil rfl, List.nodup_nil, by decide, List.Pairwise.nil, ?_⟩
  show _ ∨ (!w.params.followText "set-order") = true
  cases w.params.followText "set-order" <;> simp
theorem wlk_add {D : SD} {hs : Int} {v : Value} (k : Wlk w D.2.2) : Wlk w (addTx hs v D).2.2 := by
  obtain ⟨r, e⟩ := k
  have r1 := L2.layNew_ris D.2.2 D.1 hs v r
  have e1 := L2.layNew_led D.2.2 D.1 hs v
  have k1 : ∀ t : SetTable, t = (if (layNew D.2.2 D.1 hs v).2.1.plain = true then { (layNew D.2.2 D.1 hs v).2.1 with plain := false } else (layNew D.2.2 D.1 hs v).2.1) → Wlk w t := fun t ht => by
    subst ht
    split
    · exact ⟨r1, e.imp id fun z => e1.trans z⟩
    · exact ⟨r1, e.imp id fun z => e1.trans z⟩
  unfold addTx tailTx
  have k2 := k1 _ rfl
  generalize (if (layNew D.2.2 D.1 hs v).2.1.plain = true then { (layNew D.2.2 D.1 hs v).2.1 with plain := false } else (layNew D.2.2 D.1 hs v).2.1) = t at k2 ⊢
  split
  · exact ⟨L2.relayAll_ris _ _ _, k2.2.imp id fun z => (L2.relayAll_led _ _ _).trans z⟩
  · exact k2
end
section
variable {P : Program} {w : World} {A : Around} {E : Value → Shared → Prop} {s : Shared} {a : Addr} {l : List Str}
/-- the members behind an add -/
def plus (l : List Str) (k : Str) : List Str := if k ∈ l then l else k :: l
/-- what is there already is found -/
theorem add_there {T : String} {D : SD} {k : Str} {u : Tok} {Q : Bool → Shared → Prop} (ho : s.heap.get? a = some (sObj T D)) (F : TxOk P w D l) (hk : k ∈ l) (hb : l.length < scanBound) (h : Q false s) : wpAny (model P w) A (setAddHashed a (.str k u) (hashStr w k)) Q E s := by
  obtain ⟨es, ep, t⟩ := D
  have hsz : es.size = l.length := F.sz
  have hd : (sObj T (es, ep, t)).data = .set es ep t := rfl
  obtain ⟨e, he, hq⟩ := (F.mem k).mp hk
  unfold setAddHashed setAddHashedIn
  refine wpAny_holding (wpAny_bind (wpAny_setState_of ho hd F.fit ?_))
  dsimp only
  have hb0 : es.size < scanBound := by omega
  have hel : ElemsOf (strKind P w) es.toList := F.el
  rw [byScan_of rfl hb0 hel]
  simp only [↓reduceIte]
  unfold setAddByScan
  refine wpAny_bind (wpAny_bind (wpAny_rule (wpAny_bind (wpAny_setScan_of (knd := strKind P w) (k := k) (is_str k u) ho hd F.fit F.el ?_))))
  cases q : List.findIdx? (fun e => (strKind P w).is k e.2) es.toList with
  | some j =>
    dsimp only
    exact wpAny_pure (wpAny_pure h)
  | none =>
    have c := List.findIdx?_eq_none_iff.mp q e he
    rw [hq] at c
    cases c
theorem TSet.add {k : Str} {u : Tok} {Q : Bool → Shared → Prop} (T : TSet P w s.heap a l) (hb : l.length + 1 < scanBound) (h : ∀ b h', Heap.SameBut a s.heap h' → TSet P w h' a (plus l k) → Q b { s with heap := h' }) :
    wpAny (model P w) A (setAddHashed a (.str k u) (hashStr w k)) Q E s := by
  obtain ⟨D, e, F, nd, hl, wk⟩ := T
  unfold plus at h
  by_cases c : k ∈ l
  · rw [if_pos c] at h
    exact add_there e F c hl (h false s.heap (Heap.SameBut.refl a s.heap) ⟨D, e, F, nd, hl, wk⟩)
  · rw [if_neg c] at h
    refine add_x e F c hb (h true _ (Heap.SameBut.update s.heap a _) ⟨_, get_upd _ e rfl, add_ok u F, List.nodup_cons.mpr ⟨c, nd⟩, hb, wlk_add wk⟩)
end
end Ds
set_option Elab.async false
set_option linter.all false
set_option maxRecDepth 100000
set_option maxHeartbeats 4000000
namespace Ds
open PySem PySem.Spec PyProof.Rows PySem.Froz
theorem plus_len (l : List Str) (k : Str) : (plus l k).length ≤ l.length + 1 := by
  unfold plus
  split
  · exact Nat.le_succ _
  · exact Nat.le_refl _
def gath (xs : List Str) : List Str := xs.foldl plus []
section
variable {P : Program} {w : World} {A : Around} {E : Value → Shared → Prop} {s : Shared}
theorem upd_loop {I a : Addr} {fp wr : List Addr} {G : Array GenState → Array GenState → Prop} {n : Nat} {Pv : Nat → Value → Prop} {St : Nat → Shared → Prop} {R : Result → Shared → Prop} (W : WalksS P w A.in1 I fp wr G n Pv St) (hf : a ∉ fp) (xs : List Str) (hn : xs.length = n)
    (hv : ∀ i v, Pv i v → ∃ k t, xs[i]? = some k ∧ v = .str k t) : ∀ (m i : Nat) (l : List Str) (s : Shared), i + m = n → St i s → TSet P w s.heap a l → l.length + m + 1 < scanBound →
    (∀ s', Moved (a :: wr) G s s' → TSet P w s'.heap a ((xs.drop i).foldl plus l) → R (.ok (.ret .none)) s') → codeAny (model P w) A (.builtin "set.update.loop" ⟨[.ref a, .ref I], []⟩) R s := by
  have aw : a ∉ wr := fun z => hf (W.sub _ z)
  have up : ∀ b ∈ wr, b ∈ a :: wr := fun b z => List.mem_cons_of_mem _ z
  intro m
  induction m with
  | zero =>
    intro i l s e st T hb q
    have e : i = n := e
    refine codeAny_builtin F.entry_set_update_loop ?_
    rw [Around.under_plainId F.plain_set_update_loop _]
    show wpAny _ A.in1 (pyNext (.ref I) >>= _) _ _ s
    subst e
    refine wpAny_bind (W.done s _ _ st fun s2 mv => wpAny_pure (q s2 (mv.mono up) ?_))
    rw [List.drop_of_length_le (Nat.le_of_eq hn)]
    exact T.mv fun o z => mv.heap a o aw z
  | succ m ih =>
    intro i l s e st T hb q
    refine codeAny_builtin F.entry_set_update_loop ?_
    rw [Around.under_plainId F.plain_set_update_loop _]
    show wpAny _ A.in1 (pyNext (.ref I) >>= _) _ _ s
    refine wpAny_bind (W.item i s _ _ (by omega) st fun v s2 pv st2 mv => ?_)
    obtain ⟨k, t, hk, rfl⟩ := hv i v pv
    show wpAny _ A.in1 (holding [Value.str k t] (setAdd a (.str k t)) >>= _) _ _ s2
    have T2 : TSet P w s2.heap a l := T.mv fun o z => mv.heap a o aw z
    refine wpAny_bind (wpAny_holding ?_)
    unfold setAdd
    refine wpAny_holding (wpAny_bind ((strKind P w).pyHash (k := k) (is_str k t) ?_))
    refine TSet.add (s := { s2 with toks := s2.toks + 1 }) T2 (by omega) fun b h3 sb T3 => ?_
    have hp := plus_len l k
    refine wpAny_pure ⟨plainId_quiet F.plain_set_update_loop _, ih (i + 1) (plus l k) _ (by omega) (W.frame _ s2 _ _ st2 (Nat.le_succ _) fun c hc o z => (sb.2 c fun y => hf (y ▸ hc)).trans z) T3 (by omega) fun s4 mv4 T4 => q s4 ?_ ?_⟩
    · exact Moved.trans W.gtrans ((mv.mono up).then_heap (Nat.le_succ _) fun c o hc z => (sb.2 c fun y => hc (y ▸ List.mem_cons_self)).trans z) mv4
    · have hd : xs.drop i = k :: xs.drop (i + 1) := by
        have hi : i < xs.length := by omega
        rw [List.getElem?_eq_getElem hi] at hk
        rw [List.drop_eq_getElem_cons hi, Option.some.inj hk]
      rw [hd]
      exact T4
/-- set(x) of what is walked: T the class of x -/
theorem call_set {x : Addr} {T : String} {xs : List Str} {Q : Value → Shared → Prop} (hT : s.TypeIs (.ref x) T) (h1 : isSubtype (.type T) (.type "set") = pure false) (h2 : isSubtype (.type T) (.type "frozenset") = pure false) (h3 : (Value.type T == Value.type "dict") = false)
    (hi : ∀ (A' : Around) (h1 : Heap) (R : Result → Shared → Prop) (E' : Value → Shared → Prop), A'.handled = A.handled → (∀ b o, s.heap.get? b = some o → h1.get? b = some o) → h1.objs.size = s.heap.objs.size + 1 → TSet P w h1 s.heap.objs.size [] →
      (∀ h2 tk, TSet P w h2 s.heap.objs.size (gath xs) → (∀ b o, s.heap.get? b = some o → h2.get? b = some o) → R (.ok (.ret .none)) { s with heap := h2, toks := tk }) →
      wpAny (model P w) A' (pyIter (.ref x)) (fun it s2 => codeAny (model P w) A' (.builtin "set.update.loop" ⟨[.ref s.heap.objs.size, it], []⟩) R s2) E' { s with heap := h1 })
    (q : ∀ h2 tk, TSet P w h2 s.heap.objs.size (gath xs) → (∀ b o, s.heap.get? b = some o → h2.get? b = some o) → Q (.ref s.heap.objs.size) { s with heap := h2, toks := tk }) :
    wpAny (model P w) A (call (.type "set") [.ref x]) Q E s := by
  obtain ⟨c, tl, hmro⟩ := F.called_set.mro
  have y1 := F.called_set.made
  have y2 := F.called_set.sub
  have y3 := F.called_set.notType
  have y4 := F.called_set.canCreate
  have y5 := F.typeCall_set_1 (.ref x)
  refine wpAny_call (codeAny_of_tree ?_)
  show wpAny _ _ (callAny (.type "set") _) _ _ _
  refine wpAny_pure ⟨Code.quiet_builtin _ (by decide +kernel), codeAny_builtin F.entry_type_call ?_⟩
  rw [Around.under_plain (weight_type_call_type "set" [.ref x] []) rfl]
  repeat (any_goals (first | assumption | wp_step))
  refine codeAny_mono (L2.code_set_led1 (.ref x) (E := E) (Q₁ := fun v s1 => v = .ref s.heap.objs.size ∧ s1 = { s with heap := s.heap.push (sObj "set" (nuD w)) }) ⟨rfl, rfl⟩) fun r s1 hr => ?_
  cases r with
  | error e => exact hr
  | ok fl =>
    cases fl with
    | ret v =>
      obtain ⟨rfl, rfl⟩ := hr
      have hS : (s.heap.push (sObj "set" (nuD w))).get? s.heap.objs.size = some (sObj "set" (nuD w)) := Heap.get?_push_size _ rfl
      have hT1 : Shared.TypeIs { s with heap := s.heap.push (sObj "set" (nuD w)) } (.ref s.heap.objs.size) "set" := ⟨_, hS, rfl⟩
      have z1 := F.called_set.init.lookup
      have z2 := F.called_set.init.bind (.ref s.heap.objs.size)
      repeat (any_goals (first | assumption | wp_step))
      refine codeAny_mono (codeAny_call_builtin (R := wants (fun r s2 => r = .none ∧ ∃ h2 tk, s2 = { s with heap := h2, toks := tk } ∧ TSet P w h2 s.heap.objs.size (gath xs) ∧ ∀ b o, s.heap.get? b = some o → h2.get? b = some o) E) F.called_set.init.plain F.entry_set_init (check_set_init_1 hT1 ?_)) fun r2 s2 hr2 => ?_
      · have hT2 : Shared.TypeIs { s with heap := s.heap.push (sObj "set" (nuD w)) } (.ref x) T := by
          obtain ⟨o, e1, e2⟩ := hT
          exact ⟨o, Heap.get?_push_of_some _ e1, e2⟩
        unfold Builtin.«set.__init__» noKeywords Builtin.Frozenset.updateFrom
        generalize hPI : pyIter = PI
        wp_walk
        subst hPI
        refine wpAny_mono (hi A.in1.in1 _ (wants (fun r s2 => r = .none ∧ ∃ h2 tk, s2 = { s with heap := h2, toks := tk } ∧ TSet P w h2 s.heap.objs.size (gath xs) ∧ ∀ b o, s.heap.get? b = some o → h2.get? b = some o) (fun e s' => wants (fun r s2 => r = .none ∧ ∃ h2 tk, s2 = { s with heap := h2, toks := tk } ∧ TSet P w h2 s.heap.objs.size (gath xs) ∧ ∀ b o, s.heap.get? b = some o → h2.get? b = some o) E (Except.error e) s')) _ rfl (fun b o z => Heap.get?_push_of_some _ z) (Heap.size_push ..) (TSet.nu hS) fun h2 tk T2 k2 => ⟨rfl, h2, tk, rfl, T2, k2⟩) (fun it s2 hc => ?_) fun _ _ z => z
        refine wpAny_bind (wpAny_runValue (codeAny_mono hc fun r3 s3 hr3 => ?_))
        cases r3 with
        | error e => exact hr3
        | ok fl3 =>
          cases fl3 with
          | ret r =>
            obtain ⟨rfl, h2, tk, rfl, T2, k2⟩ := hr3
            exact wpAny_pure (wpAny_pure ⟨rfl, h2, tk, rfl, T2, k2⟩)
          | _ => exact hr3.elim
      · cases r2 with
        | error e => exact hr2
        | ok fl2 =>
          cases fl2 with
          | ret r =>
            obtain ⟨rfl, h2, tk, rfl, T2, k2⟩ := hr2
            repeat (any_goals (first | assumption | wp_step))
            exact q _ _ T2 k2
          | _ => exact hr2.elim
    | _ => exact hr.elim
variable {x : Addr} {items : Array Value} {xs : List Str} {Q : Value → Shared → Prop}
theorem strs_val (hs : StrsAre items.toList xs) : ∀ (i : Nat) (v : Value), items[i]? = some v → ∃ k t, xs[i]? = some k ∧ v = .str k t := fun i v e => by
  rw [← Array.getElem?_toList] at e
  obtain ⟨t, e2⟩ := SS.strs_at hs i v e
  have hi : i < items.toList.length := (List.getElem?_eq_some_iff.mp e).1
  rw [StrsAre.len_eq hs] at hi
  refine ⟨xs[i], t, List.getElem?_eq_getElem hi, ?_⟩
  rw [e2, List.getD_eq_getElem?_getD, List.getElem?_eq_getElem hi]
  rfl
theorem strs_sz (hs : StrsAre items.toList xs) : xs.length = items.size := by rw [← StrsAre.len_eq hs, Array.length_toList]
/-- set(t), t a tuple of texts -/
theorem call_set_tup (hh : A.handled = none) (hl : s.heap.IsTuple x items) (hs : StrsAre items.toList xs) (hb : xs.length + 1 < scanBound) (q : ∀ h2 tk, TSet P w h2 s.heap.objs.size (gath xs) → (∀ b o, s.heap.get? b = some o → h2.get? b = some o) → Q (.ref s.heap.objs.size) { s with heap := h2, toks := tk }) :
    wpAny (model P w) A (call (.type "set") [.ref x]) Q E s := by
  refine call_set (T := "tuple") hl.typeIs F.sub_tuple_set F.sub_tuple_frozenset (by decide) (fun A' h1 R E' hA k1 z1 T1 qq => ?_) q
  obtain ⟨o, e1, e2, n, e3⟩ := id hl
  have hl1 : h1.IsTuple x items := ⟨o, k1 _ _ e1, e2, n, e3⟩
  have hx : x < s.heap.objs.size := Heap.lt_size e1
  refine wpAny_pyIter_tuple hl1 ?_
  have nI : x ≠ h1.objs.size := by
    rw [z1]
    exact Nat.ne_of_lt (Nat.lt_succ_of_lt hx)
  have nf : s.heap.objs.size ∉ [h1.objs.size, x] := by
    intro z
    rcases List.mem_cons.mp z with z | z
    · rw [z1] at z
      exact Nat.ne_of_lt (Nat.lt_succ_self _) z
    · exact Nat.ne_of_gt hx (List.mem_singleton.mp z)
  refine upd_loop ((Walks.tuple (show A'.in1.handled = none from hA.trans hh) h1.objs.size x nI items).toS) nf xs (strs_sz hs) (strs_val hs) items.size 0 [] _ (Nat.zero_add _) ⟨⟨_, Heap.get?_push_size _ rfl, rfl, rfl⟩, hl1.push _⟩ (T1.mv fun o z => Heap.get?_push_of_some _ z) (by rw [← strs_sz hs]; simpa using hb) fun s3 mv T3 => ?_
  obtain ⟨h3, g3, d3, t3, o3⟩ := s3
  have eg : g3 = s.gens := mv.gens
  have ed : d3 = s.drawn := mv.drawn
  have eo : o3 = s.os := mv.os
  subst eg ed eo
  refine qq h3 t3 T3 fun b o z => ?_
  have hb2 := Heap.lt_size z
  refine mv.heap b o (fun y => ?_) (Heap.get?_push_of_some _ (k1 b o z))
  rcases List.mem_cons.mp y with y | y
  · exact Nat.ne_of_lt hb2 y
  · have y := List.mem_singleton.mp y
    rw [z1] at y
    exact Nat.ne_of_lt (Nat.lt_succ_of_lt hb2) y
theorem call_set_lst (hh : A.handled = none) (hl : s.heap.IsList x items) (hs : StrsAre items.toList xs) (hb : xs.length + 1 < scanBound) (q : ∀ h2 tk, TSet P w h2 s.heap.objs.size (gath xs) → (∀ b o, s.heap.get? b = some o → h2.get? b = some o) → Q (.ref s.heap.objs.size) { s with heap := h2, toks := tk }) :
    wpAny (model P w) A (call (.type "set") [.ref x]) Q E s := by
  refine call_set (T := "list") hl.typeIs F.sub_list_set F.sub_list_frozenset (by decide) (fun A' h1 R E' hA k1 z1 T1 qq => ?_) q
  obtain ⟨o, e1, e2, n, e3⟩ := id hl
  have hl1 : h1.IsList x items := ⟨o, k1 _ _ e1, e2, n, e3⟩
  have hx : x < s.heap.objs.size := Heap.lt_size e1
  refine wpAny_pyIter_list hl1 ?_
  have nI : x ≠ h1.objs.size := by
    rw [z1]
    exact Nat.ne_of_lt (Nat.lt_succ_of_lt hx)
  have nf : s.heap.objs.size ∉ [h1.objs.size, x] := by
    intro z
    rcases List.mem_cons.mp z with z | z
    · rw [z1] at z
      exact Nat.ne_of_lt (Nat.lt_succ_self _) z
    · exact Nat.ne_of_gt hx (List.mem_singleton.mp z)
  refine upd_loop ((Walks.list (show A'.in1.handled = none from hA.trans hh) h1.objs.size x nI items).toS) nf xs (strs_sz hs) (strs_val hs) items.size 0 [] _ (Nat.zero_add _) ⟨⟨_, Heap.get?_push_size _ rfl, rfl, rfl⟩, hl1.push _⟩ (T1.mv fun o z => Heap.get?_push_of_some _ z) (by rw [← strs_sz hs]; simpa using hb) fun s3 mv T3 => ?_
  obtain ⟨h3, g3, d3, t3, o3⟩ := s3
  have eg : g3 = s.gens := mv.gens
  have ed : d3 = s.drawn := mv.drawn
  have eo : o3 = s.os := mv.os
  subst eg ed eo
  refine qq h3 t3 T3 fun b o z => ?_
  have hb2 := Heap.lt_size z
  refine mv.heap b o (fun y => ?_) (Heap.get?_push_of_some _ (k1 b o z))
  rcases List.mem_cons.mp y with y | y
  · exact Nat.ne_of_lt hb2 y
  · have y := List.mem_singleton.mp y
    rw [z1] at y
    exact Nat.ne_of_lt (Nat.lt_succ_of_lt hb2) y
end
end Ds
set_option Elab.async false
set_option linter.all false
set_option maxRecDepth 100000
set_option maxHeartbeats 4000000
namespace Ds
open PySem PySem.Spec PyProof.Rows PySem.Froz
theorem perm_of : ∀ (l ks : List Str), l.Nodup → (∀ x ∈ l, x ∈ ks) → ks.length ≤ l.length → l.Perm ks
  | [], ks, _, _, hn => by
    have : ks = [] := List.length_eq_zero_iff.mp (Nat.le_zero.mp hn)
    rw [this]
  | a :: l, ks, nd, hs, hn => by
    obtain ⟨n1, n2⟩ := List.nodup_cons.mp nd
    have ha : a ∈ ks := hs a List.mem_cons_self
    have hp := List.perm_cons_erase ha
    have hl := hp.length_eq
    rw [List.length_cons] at hl hn
    refine List.Perm.trans (List.Perm.cons a (perm_of l (ks.erase a) n2 (fun x hx => ?_) (by omega))) hp.symm
    exact (List.mem_erase_of_ne (fun z : x = a => n1 (z ▸ hx))).mpr (hs x (List.mem_cons_of_mem _ hx))
def strOf : Value → Str
  | .str k _ => k
  | _ => Str.empty
theorem str_is {k : Str} {v : Value} (h : Value.isStrOf k v = true) : ∃ t, v = .str k t := by
  unfold Value.isStrOf at h
  split at h
  · rename_i y t
    exact ⟨t, by rw [show y = k from by simpa using h]⟩
  · cases h
section
variable {P : Program} {w : World} {A : Around} {E : Value → Shared → Prop} {s : Shared} {a : Addr} {l : List Str}
theorem elem_str {es : List (Int × Value)} (h : ElemsOf (strKind P w) es) : ∀ e ∈ es, ∃ k t, e.2 = .str k t ∧ e.1 = hashStr w k := fun e he => by
  obtain ⟨⟨k, h1, h2⟩, _⟩ := h e he
  obtain ⟨t, e1⟩ := str_is h1
  exact ⟨k, t, e1, h2⟩
theorem keys_perm {D : SD} (F : TxOk P w D l) (nd : l.Nodup) : l.Perm (D.1.toList.map fun e => strOf e.2) := by
  refine perm_of l _ nd (fun x hx => ?_) ?_
  · obtain ⟨e, he, q⟩ := (F.mem x).mp hx
    obtain ⟨t, e1⟩ := str_is q
    exact List.mem_map.mpr ⟨e, he, by rw [e1]; rfl⟩
  · rw [List.length_map, Array.length_toList, F.sz]
    exact Nat.le_refl _
theorem strs_of : ∀ (vs : List Value), (∀ v ∈ vs, ∃ k t, v = Value.str k t) → StrsAre vs (vs.map strOf)
  | [], _ => .nil
  | v :: vs, h => by
    obtain ⟨k, t, rfl⟩ := h v List.mem_cons_self
    exact .cons k t (strs_of vs fun u hu => h u (List.mem_cons_of_mem _ hu))
/-- sorted(x), x a set of texts -/
theorem TSet.sorted {Q : Value → Shared → Prop} (T : TSet P w s.heap a l) (hh : A.handled = none)
    (q : ∀ s' p (out : Array Value) (c : Nat) (ys : List Str), (∀ b o, s.heap.get? b = some o → s'.heap.get? b = some o) → s'.gens = s.gens → s'.os = s.os → s.heap.objs.size ≤ p → s'.heap.get? p = some (seqObj "list" out c) → StrsAre out.toList ys → ys.Perm l → sortedS ys = true → Q (.ref p) s') :
    wpAny (model P w) A (call (.builtin "sorted") [.ref a]) Q E s := by
  obtain ⟨D, e, F, nd, hl, r, ld⟩ := T
  obtain ⟨es, ep, t⟩ := D
  have hsz : es.size = l.length := F.sz
  have hb : es.size < scanBound := by omega
  have kp := keys_perm F nd
  refine Calls.call_function_entry kind_sorted plain_sorted entry_sorted (args_sorted1 _) ?_
  unfold Builtin.«sorted»
  refine wpAny_bind (m := checkCount "sorted" 1 1 _) (wpAny_pure (wpAny_bind (L2.collect_set (A := A.in1) hh ⟨_, e, rfl, rfl⟩ F.fit hb r ld fun s1 vs k1 z1 g1 o1 pm => ?_)))
  have hS := strs_of vs fun v hv => by
    obtain ⟨x, hx, e2⟩ := List.mem_map.mp (pm.mem_iff.mp hv)
    obtain ⟨k, u, h1, _⟩ := elem_str F.el x hx
    exact ⟨k, u, e2.symm.trans h1⟩
  have pk : (vs.map strOf).Perm l := by
    have p2 := pm.map strOf
    rw [List.map_map] at p2
    exact p2.trans kp.symm
  have hvl : vs.length ≤ sizeLine := by
    have := pk.length_eq
    rw [List.length_map] at this
    rw [this]
    exact fits_of_scanBound hl
  refine wpAny_bind (wpAny_newList ?_ hvl)
  have hoL : (s1.heap.push (seqObj "list" vs.toArray 0)).get? s1.heap.objs.size = some (seqObj "list" vs.toArray 0) := Heap.get?_push_size _ rfl
  refine wpAny_bind (wpAny_holding (wpAny_call_entry slot_list_sort ⟨_, hoL, rfl⟩ entry_list_sort (list_sort_treeKAny strKind_oneLt hoL hS.keysOf (fun v₁ v₂ rest e => keyKind_strs (by rw [← e]; exact hS)) hvl fun st hp hs => ⟨_, rfl, ?_⟩) (args_list_sort _)))
  obtain ⟨ys, y1, y2, y3⟩ := sorted_out_str hS hp hs
  obtain ⟨c, hc⟩ := sortedHeap_at (vs := vs) (out := (arrOf st).map (·.2)) hoL
  refine wpAny_pure ⟨_, rfl, q _ s1.heap.objs.size _ c ys (fun b o hbo => ?_) g1 o1 z1 hc y1 (y2.trans pk) y3⟩
  have h2 := k1 b o hbo
  have hlt := Heap.lt_size h2
  show (sortedHeap (s1.heap.push (seqObj "list" vs.toArray 0)) s1.heap.objs.size vs ((arrOf st).map (·.2))).get? b = some o
  rw [sortedHeap_old (Nat.ne_of_lt hlt) (by rw [size_push']; exact Nat.lt_succ_of_lt hlt)]
  exact Heap.get?_push_of_some _ h2
end
end Ds
set_option Elab.async false
set_option linter.all false
set_option maxRecDepth 100000
set_option maxHeartbeats 4000000
namespace Ds
open PySem PySem.Spec PyProof.Rows PySem.Froz
theorem entry_and : entryFor table "set.__and__" = some Builtin.«frozenset.__and__» := entryFor_alias (id' := "frozenset.__and__") (by kernel_rfl) rfl (by decide +kernel) (by kernel_rfl)
section
variable {P : Program} {w : World} {A : Around} {E : Value → Shared → Prop} {s : Shared} {a b r : Addr} {l la lb : List Str}
theorem TSet.ty (T : TSet P w s.heap a l) : s.TypeIs (.ref a) "set" := by
  obtain ⟨D, e, _⟩ := T
  exact ⟨_, e, rfl⟩
theorem any_set {Q : Bool → Shared → Prop} (T : s.TypeIs (.ref a) "set") (q : Q true s) : wpAny (model P w) A (Builtin.Frozenset.isAnySet (.ref a)) Q E s := by
  unfold Builtin.Frozenset.isAnySet orM
  refine wpAny_bind (wpAny_isInstance T sub_set_self ?_)
  exact wpAny_pure q
theorem base_of {Q : Value → Shared → Prop} (T : s.TypeIs (.ref a) "set") (q : Q (.type "set") s) : wpAny (model P w) A (Builtin.Frozenset.baseOf a) Q E s := by
  unfold Builtin.Frozenset.baseOf
  refine wpAny_bind (wpAny_isInstance T sub_set_self ?_)
  exact wpAny_pure q
theorem walk_some {es : Array (Int × Value)} {ep : Nat} {t : SetTable} {Q : Array (Int × Value) → Shared → Prop} (e : s.heap.get? a = some (sObj "set" (es, ep, t))) (hf : t.fits es.size = true) (ld : w.params.followText "set-order" = true ∨ t.led = true)
    (q : ∀ es' d', es'.toList.Perm es.toList → Q es' { s with drawn := d' }) : wpAny (model P w) A (setWalk a) Q E s := by
  unfold setWalk
  refine wpAny_bind (wpAny_setState_of e rfl hf ?_)
  dsimp only
  refine wpAny_bind (L2.wpAny_byText ?_)
  cases hb : w.params.followText "set-order" with
  | true =>
    refine L2.wp_if_pos rfl ?_
    exact wpAny_bind (wpAny_askSetting (wpAny_pure (q _ s.drawn (L2.pick_perm _ _))))
  | false =>
    have hl : t.led = true := ld.elim (fun z => by rw [hb] at z; cases z) id
    refine L2.wp_if_neg (by decide) ?_
    by_cases c : (!t.plain && decide (es.size > 1)) = true
    · refine L2.wp_if_pos c ?_
      refine wpAny_bind (L2.drawOrder_at _ _ _ _ (Nat.le_of_eq (Array.length_toList)) fun ys d hp => wpAny_pure (q _ d ?_))
      rw [List.toList_toArray]
      exact hp
    · refine L2.wp_if_neg c ?_
      refine wpAny_bind ?_
      show wpAny _ _ (if (!t.led && decide (es.size > 1)) = true then _ else pure ()) _ _ _
      rw [hl]
      refine L2.wp_if_neg (by simp) (wpAny_pure (wpAny_pure (q es s.drawn (List.Perm.refl _))))
theorem quiet_all {Q : Bool → Shared → Prop} (xs : List Addr) (hx : ∀ c ∈ xs, ∃ l, TSet P w s.heap c l) (q : Q true s) : wpAny (model P w) A (setsQuiet xs) Q E s := by
  unfold setsQuiet
  refine wpAny_bind (wpAny_forIn_list _ (fun ys (b : Option Bool × Unit) s' => (∀ c ∈ ys, ∃ l, TSet P w s.heap c l) ∧ b = (none, ()) ∧ s' = s) _ (fun x rest b s' ⟨h1, h2, h3⟩ => ?_) (fun b s' ⟨_, h2, h3⟩ => ?_) xs (none, ()) ⟨hx, rfl, rfl⟩)
  · subst h2 h3
    obtain ⟨l, D, e, F, _⟩ := h1 x List.mem_cons_self
    refine wpAny_bind (wpAny_setEntries_of e rfl F.fit ?_)
    have hel : ∀ e ∈ D.1.toList, ∃ k t, e.2 = Value.str k t := fun e he => by
      obtain ⟨k, t, e3, _⟩ := elem_str F.el e he
      exact ⟨k, t, e3⟩
    refine wpAny_bind (MeetsSeq2.wpAny_forIn_array _ (fun ys (b : Option Bool × Unit) s2 => (∀ e ∈ ys, ∃ k t, e.2 = Value.str k t) ∧ b = (none, ()) ∧ s2 = s') _ (fun x rest b s2 ⟨g1, g2, g3⟩ => ?_) (fun b s2 ⟨_, g2, g3⟩ => ?_) D.1 (none, ()) ⟨hel, rfl, rfl⟩)
    · subst g2 g3
      obtain ⟨k, t, e3⟩ := g1 x List.mem_cons_self
      obtain ⟨hx, vx⟩ := x
      have e3 : vx = .str k t := e3
      subst e3
      exact wpAny_pure ⟨fun c hc => g1 c (List.mem_cons_of_mem _ hc), rfl, rfl⟩
    · subst g2 g3
      exact wpAny_pure ⟨fun c hc => h1 c (List.mem_cons_of_mem _ hc), rfl, rfl⟩
  · subst h2 h3
    exact wpAny_pure q
/-- walking a set where nobody sees the order: some order of its entries; the new set r stays empty -/
theorem walk_unseen {D : SD} {Q : Array (Int × Value) → Shared → Prop} (e : s.heap.get? a = some (sObj "set" D)) (F : TxOk P w D l) (nd : l.Nodup) (hl : l.length < scanBound) (wk : Wlk w D.2.2) (Tb : TSet P w s.heap b lb) (Tr : TSet P w s.heap r [])
    (q : ∀ es' h' d', es'.toList.Perm D.1.toList → Heap.SameBut r s.heap h' → TSet P w h' r [] → Q es' { s with heap := h', drawn := d' }) :
    wpAny (model P w) A (setWalkUnseen a [b, r] (some r)) Q E s := by
  obtain ⟨es, ep, t⟩ := D
  have hd : (sObj "set" (es, ep, t)).data = .set es ep t := rfl
  unfold setWalkUnseen
  refine wpAny_bind (wpAny_setState_of e hd F.fit ?_)
  refine wpAny_bind (L2.wpAny_byText ?_)
  by_cases c : (w.params.followText "set-order" || t.led && t.plain || decide (es.size ≤ 1)) = true
  · refine L2.wp_if_pos c (walk_some e F.fit wk.2 fun es' d hp => q es' s.heap d hp (Heap.SameBut.refl r s.heap) Tr)
  · refine L2.wp_if_neg c ?_
    refine wpAny_bind (quiet_all _ (fun x hx => ?_) ?_)
    · rcases List.mem_cons.mp hx with rfl | hx
      · exact ⟨l, (es, ep, t), e, F, nd, hl, wk⟩
      · rcases List.mem_cons.mp hx with rfl | hx
        · exact ⟨lb, Tb⟩
        · rw [List.mem_singleton.mp hx]
          exact ⟨[], Tr⟩
    · refine L2.wp_if_neg (by decide) (wpAny_bind (wpAny_rule ?_))
      have Tr0 := Tr
      obtain ⟨⟨ef, epf, tf⟩, e2, F2, _, _, wk2⟩ := Tr
      have z0 : ef = #[] := Array.eq_empty_of_size_eq_zero F2.sz
      subst z0
      refine wpAny_bind (wpAny_setState_of e2 rfl F2.fit ?_)
      dsimp only
      by_cases c2 : (tf.led && !t.led || tf.plain && !t.plain) = true
      · refine L2.wp_if_pos c2 (wpAny_bind (wpAny_storeSet_of e2 rfl (wpAny_pure (q es _ s.drawn (List.Perm.refl _) (Heap.SameBut.update s.heap r _) ?_)) (Nat.zero_le _)))
        have e3 : s.heap.update r (Obj.putSet #[] { tf with led := tf.led && t.led, plain := tf.plain && t.plain }) = s.heap.update r (fun _ => sObj "set" (#[], epf + 1, { tf with led := tf.led && t.led, plain := tf.plain && t.plain })) := (upd_const _ e2).trans rfl
        rw [e3]
        refine ⟨_, get_upd _ e2 rfl, TxOk.nil F2.fit, List.nodup_nil, by decide, wk2.1, ?_⟩
        rcases wk.2 with z | z
        · exact .inl z
        · rcases wk2.2 with y | y
          · exact .inl y
          · exact .inr (by show (tf.led && t.led) = true; rw [show tf.led = true from y, show t.led = true from z]; rfl)
      · exact L2.wp_if_neg c2 (wpAny_pure (q es s.heap s.drawn (List.Perm.refl _) (Heap.SameBut.refl r s.heap) Tr0))
end
end Ds
set_option Elab.async false
set_option linter.all false
set_option maxRecDepth 100000
set_option maxHeartbeats 4000000
namespace Ds
open PySem PySem.Spec PyProof.Rows PySem.Froz
section
variable {P : Program} {w : World} {A : Around} {E : Value → Shared → Prop} {s : Shared} {a b r : Addr} {l la lb : List Str}
theorem TSet.size {Q : Nat → Shared → Prop} (T : TSet P w s.heap a l) (q : Q l.length s) : wpAny (model P w) A (Builtin.Frozenset.sizeOf a) Q E s := by
  obtain ⟨D, e, F, _⟩ := T
  unfold Builtin.Frozenset.sizeOf
  have hz := F.sz
  refine wpAny_bind (wpAny_setEntries_of e rfl F.fit (wpAny_pure ?_))
  show Q D.1.size s
  rw [hz]
  exact q
theorem TSet.find {k : Str} {t : Tok} {Q : Option Nat → Shared → Prop} (T : TSet P w s.heap a l) (q : ∀ o : Option Nat, o.isSome = decide (k ∈ l) → Q o s) : wpAny (model P w) A (setFind a (.str k t) (hashStr w k)) Q E s := by
  obtain ⟨D, e, F, _, hl, _⟩ := T
  have hz := F.sz
  exact PySem.W.setFind_any (knd := strKind P w) (S := fun k => decide (k ∈ l)) (is_str k t) rfl e rfl F.el (fun k => by rw [decide_eq_true_eq]; exact F.mem k) (by omega) F.fit q
/-- the loop of & -/
theorem and_loop {id : String} {es' : Array (Int × Value)} {D : SD} {x y : Addr} {lx ly : List Str} {h0 : Heap} {Q : PUnit → Shared → Prop} (ex : h0.get? x = some (sObj "set" D)) (F : TxOk P w D lx) (nd : lx.Nodup) (hl : lx.length < scanBound) (Ty : TSet P w h0 y ly) (hx : x ≠ r) (hy : y ≠ r)
    (hp : es'.toList.Perm D.1.toList) (sb : Heap.SameBut r h0 s.heap) (Tr : TSet P w s.heap r [])
    (q : ∀ h' l', Heap.SameBut r h0 h' → TSet P w h' r l' → (∀ k, k ∈ l' ↔ k ∈ lx ∧ k ∈ ly) → Q PUnit.unit { s with heap := h' }) :
    wpAny (model P w) A (forIn es' PUnit.unit fun (z : Int × Value) (_ : PUnit) => match z with
      | (h, v) => do
        holding [v] do
          if (← setFind y v h).isSome = true then do
            let _ ← setAddHashed r v h
            pure ()
          else pure ()
        Builtin.Frozenset.unchanged id x D.2.1
        pure (ForInStep.yield PUnit.unit)) Q E s := by
  have kp := keys_perm F nd
  have hk : (es'.toList.map fun e => strOf e.2).Perm lx := (hp.map _).trans kp.symm
  have hgood : ∀ e ∈ es'.toList, ∃ k t, e.2 = Value.str k t ∧ e.1 = hashStr w k := fun e he => elem_str F.el e (hp.mem_iff.mp he)
  refine MeetsSeq2.wpAny_forIn_array _ (fun ys (u : PUnit) s' => ∃ done l', es'.toList = done ++ ys ∧ s' = { s with heap := s'.heap } ∧ Heap.SameBut r h0 s'.heap ∧ TSet P w s'.heap r l' ∧ l'.length ≤ done.length ∧ ∀ k, k ∈ l' ↔ (k ∈ done.map fun e => strOf e.2) ∧ k ∈ ly) _ (fun e rest u s' ⟨dn, l', h1, h2, h3, h4, h5, h6⟩ => ?_) (fun u s' ⟨dn, l', h1, h2, h3, h4, h5, h6⟩ => ?_) es' PUnit.unit ⟨[], [], rfl, rfl, sb, Tr, Nat.le_refl _, fun k => by simp⟩
  · obtain ⟨hh, v⟩ := e
    obtain ⟨k, t, e1, e2⟩ := hgood (hh, v) (by rw [h1]; simp)
    have e1 : v = .str k t := e1
    have e2 : hh = hashStr w k := e2
    subst e1 e2
    have Ty2 : TSet P w s'.heap y ly := Ty.mv fun o z => (h3.2 y hy).trans z
    have ex2 : s'.heap.get? x = some (sObj "set" D) := (h3.2 x hx).trans ex
    have hlen : dn.length + (rest.length + 1) = lx.length := by
      have z1 := congrArg List.length h1
      rw [List.length_append, List.length_cons] at z1
      have z2 := hk.length_eq
      rw [List.length_map] at z2
      omega
    have fin : ∀ h' l2, Heap.SameBut r h0 h' → TSet P w h' r l2 → l2.length ≤ dn.length + 1 → (∀ z, z ∈ l2 ↔ (z ∈ (dn ++ [(hashStr w k, Value.str k t)]).map fun e => strOf e.2) ∧ z ∈ ly) →
        wpAny (model P w) A (Builtin.Frozenset.unchanged id x D.2.1) (fun _ s2 => ∃ done l', es'.toList = done ++ rest ∧ s2 = { s with heap := s2.heap } ∧ Heap.SameBut r h0 s2.heap ∧ TSet P w s2.heap r l' ∧ l'.length ≤ done.length ∧ ∀ k, k ∈ l' ↔ (k ∈ done.map fun e => strOf e.2) ∧ k ∈ ly) E { s' with heap := h' } := fun h' l2 g1 g2 g3 g4 => by
      unfold Builtin.Frozenset.unchanged setEpoch
      have ex3 : h'.get? x = some (sObj "set" D) := (g1.2 x hx).trans ex
      refine wpAny_bind (wpAny_bind (wpAny_setState_of ex3 rfl F.fit (wpAny_pure ?_)))
      refine L2.wp_if_neg (by simp) (wpAny_pure ⟨dn ++ [(hashStr w k, Value.str k t)], l2, by rw [h1]; simp, ?_, g1, g2, by simpa using g3, g4⟩)
      show ({ s' with heap := h' } : Shared) = { s with heap := h' }
      rw [h2]
    refine wpAny_bind (wpAny_holding (wpAny_bind (TSet.find Ty2 fun o ho => ?_)))
    by_cases c : k ∈ ly
    · rw [decide_eq_true c] at ho
      refine L2.wp_if_pos ho (wpAny_bind (TSet.add h4 (by omega) fun b1 h7 sb7 T7 => wpAny_pure ?_))
      refine wpAny_bind (wpAny_mono (fin h7 (plus l' k) ⟨sb7.1.trans h3.1, fun c hc => (sb7.2 c hc).trans (h3.2 c hc)⟩ T7 ?_ fun z => ?_) (fun _ s2 h => wpAny_pure h) fun _ _ z => z)
      · have := plus_len l' k
        omega
      · rw [List.map_append, List.mem_append]
        unfold plus
        by_cases c2 : k ∈ l'
        · rw [if_pos c2, h6 z]
          constructor
          · exact fun ⟨z1, z2⟩ => ⟨.inl z1, z2⟩
          · rintro ⟨z1 | z1, z2⟩
            · exact ⟨z1, z2⟩
            · have z1 : z = k := by simpa [strOf] using z1
              rw [z1]
              exact (h6 k).mp c2
        · rw [if_neg c2, List.mem_cons, h6 z]
          constructor
          · rintro (z1 | ⟨z1, z2⟩)
            · rw [z1]
              exact ⟨.inr (by simp [strOf]), c⟩
            · exact ⟨.inl z1, z2⟩
          · rintro ⟨z1 | z1, z2⟩
            · exact .inr ⟨z1, z2⟩
            · exact .inl (by simpa [strOf] using z1)
    · rw [decide_eq_false c] at ho
      refine L2.wp_if_neg (by rw [ho]; decide) (wpAny_pure ?_)
      refine wpAny_bind (wpAny_mono (fin s'.heap l' h3 h4 (by omega) fun z => ?_) (fun _ s2 h => wpAny_pure h) fun _ _ z => z)
      rw [List.map_append, List.mem_append, h6 z]
      constructor
      · exact fun ⟨z1, z2⟩ => ⟨.inl z1, z2⟩
      · rintro ⟨z1 | z1, z2⟩
        · exact ⟨z1, z2⟩
        · have z1 : z = k := by simpa [strOf] using z1
          rw [z1] at z2
          exact absurd z2 c
  · rw [List.append_nil] at h1
    have hd : (dn.map fun e => strOf e.2).Perm lx := by rw [← h1]; exact hk
    rw [h2]
    exact q s'.heap l' h3 h4 fun k => by rw [h6 k, hd.mem_iff]
/-- x & y -/
theorem TSet.both {Q : Value → Shared → Prop} (Ta : TSet P w s.heap a la) (Tb : TSet P w s.heap b lb) (hab : a ≠ b)
    (q : ∀ h' d' l', (∀ c o, s.heap.get? c = some o → h'.get? c = some o) → TSet P w h' s.heap.objs.size l' → (∀ k, k ∈ l' ↔ k ∈ la ∧ k ∈ lb) → Q (.ref s.heap.objs.size) { s with heap := h', drawn := d' }) :
    wpAny (model P w) A (binaryOp .BitAnd (.ref a) (.ref b)) Q E s := by
  refine wpAny_binaryOp_same (T := "set") (id := "set.__and__") Ta.ty Tb.ty F.fills_set_and F.slot_set_and ?_
  refine wpAny_call_entry F.slot_set_and Ta.ty entry_and ?_ (F.args_set_and_2 _ _)
  show wpAny _ _ (do
    let (self, other) ← Builtin.Frozenset.slot1 "__and__" ⟨[.ref a, .ref b], []⟩
    let (l, r) := (self, other)
    if !(← Builtin.Frozenset.isAnySet l <&&> Builtin.Frozenset.isAnySet r) then
      rule s!"frozenset.{"__and__"}.declined"
      return ← ret .notImplemented
    ret (← Builtin.Frozenset.intersection s!"frozenset.{"__and__"}" (← Builtin.Frozenset.addrOf l) r)) _ _ _
  refine wpAny_bind (m := Builtin.Frozenset.slot1 "__and__" _) (wpAny_of_eq (a := (Value.ref a, Value.ref b)) (by rfl) ?_)
  dsimp only
  refine wpAny_bind ?_
  unfold andM
  refine wpAny_bind (any_set Ta.ty ?_)
  show wpAny _ _ (Builtin.Frozenset.isAnySet (.ref b)) _ _ _
  refine any_set Tb.ty ?_
  refine L2.wp_if_neg (by decide) ?_
  refine wpAny_bind (wpAny_of_eq (a := a) rfl ?_)
  refine wpAny_bind ?_
  unfold Builtin.Frozenset.intersection
  refine L2.wp_if_neg (by simpa using Ne.symm hab) ?_
  refine wpAny_bind (base_of Ta.ty ?_)
  refine wpAny_bind (wpAny_newSet_raw fun led hled => ?_)
  subst hled
  have k1 : ∀ c o, s.heap.get? c = some o → (s.heap.push (sObj "set" (nuD w))).get? c = some o := fun c o z => Heap.get?_push_of_some _ z
  have Tr : TSet P w (s.heap.push (sObj "set" (nuD w))) s.heap.objs.size [] := TSet.nu (Heap.get?_push_size _ rfl)
  have Ta1 : TSet P w (s.heap.push (sObj "set" (nuD w))) a la := Ta.mv fun o z => k1 _ o z
  have Tb1 : TSet P w (s.heap.push (sObj "set" (nuD w))) b lb := Tb.mv fun o z => k1 _ o z
  have na : a ≠ s.heap.objs.size := by
    obtain ⟨D, e, _⟩ := Ta
    exact Nat.ne_of_lt (Heap.lt_size e)
  have nb : b ≠ s.heap.objs.size := by
    obtain ⟨D, e, _⟩ := Tb
    exact Nat.ne_of_lt (Heap.lt_size e)
  change wpAny _ _ _ _ _ { s with heap := s.heap.push (sObj "set" (nuD w)) }
  have q2 : ∀ h' d' l', Heap.SameBut s.heap.objs.size (s.heap.push (sObj "set" (nuD w))) h' → TSet P w h' s.heap.objs.size l' → (∀ k, k ∈ l' ↔ k ∈ la ∧ k ∈ lb) → Q (.ref s.heap.objs.size) { s with heap := h', drawn := d' } := fun h' d' l' sb T hk =>
    q h' d' l' (fun c o z => (sb.2 c (Nat.ne_of_lt (Heap.lt_size z))).trans (k1 c o z)) T hk
  clear q
  generalize hh1 : s.heap.push (sObj "set" (nuD w)) = h1 at k1 Tr Ta1 Tb1 q2 ⊢
  generalize hn : s.heap.objs.size = n at Tr na nb q2 ⊢
  refine wpAny_bind (wpAny_of_eq (a := n) rfl ?_)
  refine wpAny_bind (wpAny_holding ?_)
  refine wpAny_bind (any_set Tb1.ty ?_)
  refine L2.wp_if_pos rfl ?_
  refine wpAny_bind (wpAny_of_eq (a := b) rfl ?_)
  refine wpAny_bind (TSet.size Tb1 ?_)
  refine wpAny_bind (TSet.size Ta1 ?_)
  have core : ∀ (x y : Addr) (lx ly : List Str), TSet P w h1 x lx → TSet P w h1 y ly → x ≠ n → y ≠ n → (∀ k, k ∈ lx ∧ k ∈ ly ↔ k ∈ la ∧ k ∈ lb) →
      wpAny (model P w) A.in1 (do
        let was ← setEpoch x
        let es ← setWalkUnseen x [y, n] (some n)
        forIn es PUnit.unit fun (z : Int × Value) (_ : PUnit) => match z with
          | (h, v) => do
            holding [v] do
              if (← setFind y v h).isSome = true then do
                let _ ← setAddHashed n v h
                pure ()
              else pure ()
            Builtin.Frozenset.unchanged (toString "frozenset." ++ toString "__and__") x was
            pure (ForInStep.yield PUnit.unit)
        pure ()) (fun _ s' => wpAny (model P w) A.in1 (pure (Value.ref n)) (fun a s' => wpAny (model P w) A.in1 (ret a) (fun fin s' => ∃ v, fin = Fin.done (Flow.ret v) ∧ v ≠ Value.notImplemented ∧ Q v s') E s') E s') E { s with heap := h1 } := fun x y lx ly Tx Ty hx hy hk => by
    obtain ⟨D, e, F, nd, hl, wk⟩ := Tx
    unfold setEpoch
    refine wpAny_bind (wpAny_bind (wpAny_setState_of e rfl F.fit (wpAny_pure ?_)))
    refine wpAny_bind (walk_unseen e F nd hl wk Ty Tr fun es h2 d2 hp sb T2 => ?_)
    refine wpAny_bind (and_loop (s := { s with heap := h2, drawn := d2 }) e F nd hl Ty hx hy hp sb T2 fun h3 l3 sb3 T3 hk3 => ?_)
    refine wpAny_pure (wpAny_pure (wpAny_pure ⟨_, rfl, by simp, q2 h3 d2 l3 sb3 T3 fun k => (hk3 k).trans (hk k)⟩))
  by_cases c : lb.length > la.length
  · rw [if_pos c]
    exact core a b la lb Ta1 Tb1 na nb fun k => Iff.rfl
  · rw [if_neg c]
    exact core b a lb la Tb1 Ta1 nb na fun k => And.comm
end
end Ds
set_option Elab.async false
set_option linter.all false
set_option maxRecDepth 100000
set_option maxHeartbeats 4000000
namespace Ds
open PySem PySem.Spec PyProof.Rows PySem.Froz L2
/-- a set of texts among what is tracked -/
def SetX (P : Program) (w : World) (a : Addr) (l : List Str) : HO := .ext fun h => TSet P w h a l
section
variable {X : Cx}
theorem setX_new {P : Program} {w : World} {H : Hp} {h : Heap} {a : Addr} {l : List Str} (T : TSet P w h a l) : ObjOk P w H h a (SetX P w a l) := by
  have ⟨D, e, _⟩ := T
  exact ⟨T, ⟨_, e⟩, fun h1 h2 p k => TSet.mv p k⟩
theorem setX_get {pins : List (Addr × Obj)} {σ : L2.St} {H : Hp} {s : Shared} {a : Addr} {l : List Str} (I : Inv X pins σ H s) (ha : H a = some (SetX X.prog X.w a l)) : TSet X.prog X.w s.heap a l := (I.hok a _ ha).1
/-- set(x), x a list or a tuple of texts -/
def rSetT (K : PySem.W.Frag) (P : Program) (w : World) : List V → Hp → VK → Prop := fun vs H Q => ∃ (a : Addr) (xs : List Str), vs = [V.ref a] ∧ (SqL K H a (xs.map V.str) ∨ SqT K H a (xs.map V.str)) ∧ xs.length ≤ 1000 ∧ ∀ p, H p = none → Q (.ref p) (upd H p (SetX P w p (gath xs)))
theorem cr_setT (hc : X.calm = true) : CallR X (.type "set") (rSetT X.K X.prog X.w) := by
  intro pins s σ H vs us Q I r h
  obtain ⟨a, xs, rfl, hq, hl, q⟩ := h
  rw [Vals.ref1 r]
  have hb : xs.length + 1 < scanBound := by unfold scanBound; omega
  have fin : ∀ h2 tk, TSet X.prog X.w h2 s.heap.objs.size (gath xs) → (∀ b o, s.heap.get? b = some o → h2.get? b = some o) → EP X pins σ Q (.ref s.heap.objs.size) { s with heap := h2, toks := tk } := fun h2 tk T k =>
    ⟨.ref _, upd H s.heap.objs.size (SetX X.prog X.w s.heap.objs.size (gath xs)), I.laid (t' := tk) k (Nat.le_refl _) (setX_new T), rfl, q _ (I.hok.fresh (Nat.le_refl _))⟩
  rcases hq with hq | hq
  · obtain ⟨its, rv, pl, _⟩ := I.list hq
    exact call_set_lst (I.ok.hd hc) pl.isList (by simpa using strsAre_of rv) hb fin
  · obtain ⟨its, rv, pl, _⟩ := I.tuple hq
    exact call_set_tup (I.ok.hd hc) pl (by simpa using strsAre_of rv) hb fin
/-- sorted(x), x a set of texts -/
def rSortX (P : Program) (w : World) : List V → Hp → VK → Prop := fun vs H Q => ∃ (a : Addr) (l : List Str), vs = [V.ref a] ∧ H a = some (SetX P w a l) ∧ ∀ (ys : List Str) (p : Addr), ys.Perm l → sortedS ys = true → H p = none → Q (.ref p) (upd H p (.lst (ys.map V.str)))
theorem cr_sortX (hc : X.calm = true) : CallR X (.builtin "sorted") (rSortX X.prog X.w) := by
  intro pins s σ H vs us Q I r h
  obtain ⟨a, l, rfl, ha, q⟩ := h
  have T := setX_get I ha
  have hl : l.length < scanBound := by
    obtain ⟨D, _, _, _, z, _⟩ := T
    exact z
  rw [Vals.ref1 r]
  refine T.sorted (I.ok.hd hc) fun s2 p out c ys k g o hp hg hs hpm hso => ?_
  have hz : (ys.map V.str).length ≤ sizeLine := by
    rw [List.length_map, hpm.length_eq]
    exact fits_of_scanBound hl
  have hn : H p = none := I.hok.fresh hp
  exact ⟨.ref p, upd H p (.lst (ys.map V.str)), I.call' (ch := []) o (Un.laid k hp hn) (I.hok.laid k hp ⟨hz, out.toList, c, vals_of_strs hs, hg⟩) (by rw [g]; exact I.bare) (fun _ z => nomatch z), rfl, q ys p hpm hso hn⟩
/-- len(x), x a set of texts -/
def rLenX (P : Program) (w : World) : List V → Hp → VK → Prop := fun vs H Q => ∃ (a : Addr) (l : List Str), vs = [V.ref a] ∧ H a = some (SetX P w a l) ∧ Q (.int l.length) H
theorem cr_lenX : CallR X (.builtin "len") (rLenX X.prog X.w) := by
  intro pins s σ H vs us Q I r h
  obtain ⟨a, l, rfl, ha, q⟩ := h
  obtain ⟨D, e, F, _, hl, _⟩ := setX_get I ha
  rw [Vals.ref1 r]
  have hz := F.sz
  have hb : (D.1.size : Int) < 2 ^ 63 := by
    unfold scanBound at hl
    omega
  exact call_len_set e ⟨rfl, rfl, rfl⟩ rfl F.fit hb ⟨.int l.length, H, I.tok _, ⟨_, by rw [hz]⟩, q⟩
/-- x & y of sets of texts -/
def rAndX (P : Program) (w : World) : R2 := fun x y H Q => ∃ (a b : Addr) (la lb : List Str), x = .ref a ∧ y = .ref b ∧ a ≠ b ∧ H a = some (SetX P w a la) ∧ H b = some (SetX P w b lb) ∧
  ∀ (l : List Str) (p : Addr), l.Nodup → (∀ k, k ∈ l ↔ k ∈ la ∧ k ∈ lb) → H p = none → Q (.ref p) (upd H p (SetX P w p l))
theorem op_andX : OpR X (binaryOp .BitAnd) (rAndX X.prog X.w) := by
  intro pins s σ H x y v u Q I rx ry h
  obtain ⟨a, b, la, lb, rfl, rfl, hab, ha, hb, q⟩ := h
  cases rx
  cases ry
  refine TSet.both (setX_get I ha) (setX_get I hb) hab fun h2 d2 l k T hk => ?_
  have nd : l.Nodup := by
    obtain ⟨D, _, _, z, _⟩ := T
    exact z
  have hn : H s.heap.objs.size = none := I.hok.fresh (Nat.le_refl _)
  exact ⟨.ref _, _, I.call (ch := []) (Un.laid k (Nat.le_refl _) hn) (I.hok.laid k (Nat.le_refl _) (setX_new T)) I.bare (fun _ z => nomatch z), rfl, q l _ nd hk hn⟩
end
end Ds
set_option Elab.async false
set_option linter.all false
set_option maxRecDepth 100000
set_option maxHeartbeats 4000000
namespace Lc
open PySem PySem.Spec PyProof.Rows L2
/-! ### a def that is called -/
structure Dn (P : Program) (w : World) (K : PySem.W.Frag) (mg : Str → Option Value) (base : Heap) (x : Str) (ps : List Str) (k : Nat) (sp : Sp) where
  f : Addr
  fd : FuncData
  kp : PySem.W.keepIn K (.ref f) = true
  g : mg x = some (.ref f)
  b : Binds K fd ps []
  G : FnOk P w K mg base CX0 k f fd ps sp
section
variable {X : Cx} {x : Str} {ps : List Str} {k : Nat} {sp : Sp} {e : Expr} {es : List Expr} {t : TA} {p pos : Pos}
theorem pe_dn (C : Dn X.prog X.w X.K X.mg X.base x ps k sp) (hr : Room k X.A) (hg : Gl X x) (ha : PA X (e :: es) t) (hdb : (x == ("__debug__" : Str)) = false := by decide)
    (he : starEach (e :: es) X.env = (false, eval e X.env) :: starEach es X.env := by rfl) (hpl : (backTo pos (starEach es X.env)).any (·.1) = false := by rfl) :
    PE X (.Call (.Name x p) (e :: es) [] pos) (tCall sp [] E0 t) := pe_call C.G hr hg C.g C.kp C.b .nil pass0 ha hdb he hpl
theorem pe_dn0 (C : Dn X.prog X.w X.K X.mg X.base x ps k sp) (hr : Room k X.A) (hg : Gl X x) (hdb : (x == ("__debug__" : Str)) = false := by decide) :
    PE X (.Call (.Name x p) [] [] pos) (tCall sp [] E0 tNil) := pe_call0 C.G hr hg C.g C.kp C.b .nil pass0 hdb
end
/-! ### frames: what is not in M stays as it is -/
def Fr (M : Addr → Prop) (H H' : Hp) : Prop := ∀ b o, H b = some o → ∃ o', H' b = some o' ∧ (¬ M b → o' = o)
theorem Fr.refl {M : Addr → Prop} (H : Hp) : Fr M H H := fun _ o h => ⟨o, h, fun _ => rfl⟩
theorem Fr.trans {M : Addr → Prop} {H H1 H2 : Hp} (a : Fr M H H1) (b : Fr M H1 H2) : Fr M H H2 := fun c o h => by
  obtain ⟨o1, h1, e1⟩ := a c o h
  obtain ⟨o2, h2, e2⟩ := b c o1 h1
  exact ⟨o2, h2, fun n => (e2 n).trans (e1 n)⟩
theorem Fr.new {M : Addr → Prop} {H : Hp} {p : Addr} {o : HO} (h : H p = none) : Fr M H (upd H p o) := fun b u e => ⟨u, by rw [upd_ne (ne_of_none e h)]; exact e, fun _ => rfl⟩
theorem Fr.mut {M : Addr → Prop} {H : Hp} {p : Addr} {o : HO} (h : M p) : Fr M H (upd H p o) := fun b u e => by
  by_cases q : b = p
  · subst q
    exact ⟨o, upd_same, fun n => absurd h n⟩
  · exact ⟨u, by rw [upd_ne q]; exact e, fun _ => rfl⟩
/-- what H does not know may change -/
theorem Fr.own {M : Addr → Prop} {H H' : Hp} {p : Addr} {o : HO} (e : Fr M H H') (h : H p = none) : Fr M H (upd H' p o) := fun b u q => by
  obtain ⟨o', h1, h2⟩ := e b u q
  exact ⟨o', by rw [upd_ne (ne_of_none q h)]; exact h1, h2⟩
theorem Fr.free {M : Addr → Prop} {H H' : Hp} {p : Addr} (e : Fr M H H') (h : H' p = none) : H p = none := by
  cases q : H p with
  | none => rfl
  | some o =>
    obtain ⟨o', h1, _⟩ := e p o q
    rw [h1] at h
    cases h
theorem Fr.at {M : Addr → Prop} {H H' : Hp} {b : Addr} {o : HO} (e : Fr M H H') (h : H b = some o) (n : ¬ M b) : H' b = some o := by
  obtain ⟨o', h1, h2⟩ := e b o h
  rw [h2 n] at h1
  exact h1
theorem Fr.of {M : Addr → Prop} {H H' : Hp} (e : Same H H') : Fr M H H' := fun b o h => ⟨o, e b o h, fun _ => rfl⟩
theorem Fr.seq {M : Addr → Prop} {K : PySem.W.Frag} {H H' : Hp} {a : Addr} {xs : List V} (e : Fr M H H') (n : ¬ M a) (h : SqL K H a xs) : SqL K H' a xs := by
  rcases h with (h | ⟨o, h⟩) | h
  · exact .inl (.inl (e.at h n))
  · exact .inl (.inr ⟨o, e.at h n⟩)
  · exact .inr h
theorem same_new {H : Hp} {p : Addr} {o : HO} (h : H p = none) : Same H (upd H p o) := fun b x e => by
  rw [upd_ne (ne_of_none e h)]
  exact e
theorem sz {n : Nat} (h : n ≤ 100000) : n ≤ sizeLine := Nat.le_trans h (by decide)
theorem szl {n : Nat} (h : n < 100000) : n < sizeLine := Nat.lt_of_lt_of_le h (by decide)
/-! ### powers by squares -/
theorem pow_odd (t s : Nat) (l : Nat) (h : l % 2 = 1) : t * s ^ l = (t * s) * (s * s) ^ (l / 2) := by
  have e : l = 2 * (l / 2) + 1 := by omega
  have e2 : (s * s) ^ (l / 2) = s ^ (2 * (l / 2)) := by rw [Nat.pow_mul]; congr 1; exact (Nat.pow_two s).symm
  rw [e2]
  conv => lhs; rw [e]
  rw [Nat.pow_succ, Nat.mul_assoc, Nat.mul_comm s]
theorem pow_even (t s : Nat) (l : Nat) (h : l % 2 = 0) : t * s ^ l = t * (s * s) ^ (l / 2) := by
  have e : l = 2 * (l / 2) := by omega
  have e2 : (s * s) ^ (l / 2) = s ^ (2 * (l / 2)) := by rw [Nat.pow_mul]; congr 1; exact (Nat.pow_two s).symm
  rw [e2, ← e]
/-! ### pigeons -/
theorem nodup_le {α : Type} [DecidableEq α] : ∀ (l m : List α), l.Nodup → (∀ x ∈ l, x ∈ m) → l.length ≤ m.length
  | [], m, _, _ => Nat.zero_le _
  | a :: l, m, hn, hs => by
    have ha : a ∈ m := hs a List.mem_cons_self
    have hn' := List.nodup_cons.mp hn
    have ih := nodup_le l (m.erase a) hn'.2 fun x hx => (List.mem_erase_of_ne (fun e => by subst e; exact hn'.1 hx)).mpr (hs x (List.mem_cons_of_mem _ hx))
    rw [List.length_erase_of_mem ha] at ih
    have : 0 < m.length := List.length_pos_of_mem ha
    simp only [List.length_cons]
    omega
/-- the words with one more sign -/
def alts (p : List Nat) : List (List Nat) := (List.range 26).map fun i => p ++ [97 + i]
theorem alts_nodup (p : List Nat) : (alts p).Nodup := by
  unfold alts
  have h := @List.nodup_range 26
  unfold List.Nodup at h ⊢
  rw [List.pairwise_map]
  refine h.imp fun {i j} ne e => ne ?_
  have := List.append_cancel_left e
  simp at this
  exact this
theorem own_few (own : List (List Nat)) (n : Nat) (h : ∀ o ∈ own, (own.filter fun q => decide (q.dropLast = o.dropLast)).length ≤ n) (p : List Nat) : (own.filter fun q => decide (q.dropLast = p)).length ≤ n := by
  by_cases hp : ∃ o ∈ own, o.dropLast = p
  · obtain ⟨o, ho, e⟩ := hp
    rw [← e]
    exact h o ho
  · have : (own.filter fun q => decide (q.dropLast = p)) = [] := by
      rw [List.filter_eq_nil_iff]
      intro q hq
      simp
      exact fun e => hp ⟨q, hq, e⟩
    rw [this]
    exact Nat.zero_le _
theorem free_sign (known own : List (List Nat)) (n : Nat) (h : ∀ o ∈ own, (own.filter fun q => decide (q.dropLast = o.dropLast)).length ≤ n) (hk : known.length + n < 26) (p : List Nat) :
    ∃ i, i < 26 ∧ (p ++ [97 + i]) ∉ known ∧ (p ++ [97 + i]) ∉ own := by
  apply Classical.byContradiction
  intro hc
  have hs : ∀ x ∈ alts p, x ∈ known ++ own.filter fun q => decide (q.dropLast = p) := by
    intro x hx
    obtain ⟨i, hi, rfl⟩ := List.mem_map.mp hx
    have hi := List.mem_range.mp hi
    by_cases h1 : (p ++ [97 + i]) ∈ known
    · exact List.mem_append_left _ h1
    · by_cases h2 : (p ++ [97 + i]) ∈ own
      · refine List.mem_append_right _ (List.mem_filter.mpr ⟨h2, ?_⟩)
        simp
      · exact absurd ⟨i, hi, h1, h2⟩ hc
  have := nodup_le _ _ (alts_nodup p) hs
  rw [List.length_append] at this
  have h2 := own_few own n h p
  have h3 : (alts p).length = 26 := by simp [alts]
  omega
end Lc
namespace Lc
open PySem PySem.Spec PyProof.Rows L2
/-! ### data -/
theorem dpI {K : PySem.W.Frag} {H : Hp} : ∀ ns : List Int, DpAll K H (ns.map V.int) (ns.map PyData.int)
  | [] => .nil
  | n :: r => .cons (.int n) (dpI r)
theorem dpS {K : PySem.W.Frag} {H : Hp} : ∀ ns : List Str, DpAll K H (ns.map V.str) (ns.map PyData.str)
  | [] => .nil
  | n :: r => .cons (.str n) (dpS r)
theorem lay_ints : ∀ ns : List Int, PyData.canLayAll0 (ns.map PyData.int) = true
  | [] => rfl
  | n :: r => by
    show (PyData.canLay0 (.int n) && PyData.canLayAll0 (r.map PyData.int)) = true
    rw [lay_ints r]
    rfl
theorem dep_ints : ∀ ns : List Int, PyData.depthAll (ns.map PyData.int) = 0
  | [] => rfl
  | n :: r => by
    show max (PyData.depth (.int n)) (PyData.depthAll (r.map PyData.int)) = 0
    rw [dep_ints r]
    rfl
theorem shInts (ns : List Int) : SeqAt.shaped (.list (ns.map PyData.int)) = true := by
  unfold SeqAt.shaped
  rw [show PyData.canLay0 (.list (ns.map PyData.int)) = true from lay_ints ns, show PyData.depth (.list (ns.map PyData.int)) = 1 by show PyData.depthAll _ + 1 = 1; rw [dep_ints]]
  rfl
theorem lay_strs : ∀ ns : List Str, (∀ x ∈ ns, PyData.canLay0 (.str x) = true) → PyData.canLayAll0 (ns.map PyData.str) = true
  | [], _ => rfl
  | n :: r, h => by
    show (PyData.canLay0 (.str n) && PyData.canLayAll0 (r.map PyData.str)) = true
    rw [lay_strs r fun x hx => h x (List.mem_cons_of_mem _ hx), h n List.mem_cons_self]
    rfl
theorem dep_strs : ∀ ns : List Str, PyData.depthAll (ns.map PyData.str) = 0
  | [] => rfl
  | n :: r => by
    show max (PyData.depth (.str n)) (PyData.depthAll (r.map PyData.str)) = 0
    rw [dep_strs r]
    rfl
theorem shStrs (ns : List Str) (h : ∀ x ∈ ns, PyData.canLay0 (.str x) = true) : SeqAt.shaped (.list (ns.map PyData.str)) = true := by
  unfold SeqAt.shaped
  rw [show PyData.canLay0 (.list (ns.map PyData.str)) = true from lay_strs ns h, show PyData.depth (.list (ns.map PyData.str)) = 1 by show PyData.depthAll _ + 1 = 1; rw [dep_strs]]
  rfl
theorem eqv_nil {α : Type} (f : α → PyData) : ∀ ns : List α, PyData.eqv (.list (ns.map f)) (.list []) = ns.isEmpty
  | [] => rfl
  | _ :: _ => rfl
theorem cut_to (xs : List V) (k : Nat) : cutV xs none (some (k : Int)) = xs.take k := by
  unfold cutV
  rw [HT.sIx_none, HT.sIx_nat, List.drop_zero, Nat.sub_zero]
  by_cases h : k ≤ xs.length
  · rw [Nat.min_eq_left h]
  · rw [Nat.min_eq_right (by omega), List.take_length, List.take_of_length_le (by omega)]
theorem cut_from (xs : List V) (k : Nat) : cutV xs (some (k : Int)) none = xs.drop k := by
  unfold cutV
  rw [HT.sIx_none, HT.sIx_nat]
  by_cases h : k ≤ xs.length
  · rw [Nat.min_eq_left h, List.take_of_length_le]
    rw [List.length_drop]
    exact Nat.le_refl _
  · rw [Nat.min_eq_right (by omega), Nat.sub_self, List.take_zero, List.drop_of_length_le (by omega)]
end Lc
namespace Lc
open PySem PySem.Spec PyProof.Rows L2
/-! ### texts by their codes -/
def tx (l : List Nat) : Str := ⟨l.toArray⟩
theorem tx_cps (l : List Nat) : (tx l).cps.toList = l := by simp [tx]
theorem tx_len (l : List Nat) : (tx l).length = l.length := by simp [tx, Str.length]
theorem tx_app (a b : List Nat) : tx a ++ tx b = tx (a ++ b) := by
  have h : (tx a ++ tx b).cps = (tx (a ++ b)).cps := by rw [Str.cps_append]; simp [tx]
  generalize tx a ++ tx b = x at h
  cases x
  cases h
  rfl
theorem tx_of (s : Str) : s = tx s.cps.toList := by
  cases s
  simp [tx]
theorem tx_inj {a b : List Nat} : tx a = tx b ↔ a = b := ⟨fun h => by rw [← tx_cps a, h, tx_cps], fun h => by rw [h]⟩
theorem tx_one (c : Nat) : (⟨#[c]⟩ : Str) = tx [c] := rfl
theorem cutS_to (l : List Nat) (k : Nat) : cutS (tx l) none (some (k : Int)) = tx (l.take k) := by
  unfold cutS
  rw [HT.sIx_none, HT.sIx_nat, tx_cps, tx_len, List.drop_zero, Nat.sub_zero]
  unfold tx
  by_cases h : k ≤ l.length
  · rw [Nat.min_eq_left h]
  · rw [Nat.min_eq_right (by omega), List.take_length, List.take_of_length_le (by omega)]
theorem cutS_from (l : List Nat) (k : Nat) : cutS (tx l) (some (k : Int)) none = tx (l.drop k) := by
  unfold cutS
  rw [HT.sIx_none, HT.sIx_nat, tx_cps, tx_len]
  unfold tx
  by_cases h : k ≤ l.length
  · rw [Nat.min_eq_left h, List.take_of_length_le]
    rw [List.length_drop]
    exact Nat.le_refl _
  · rw [Nat.min_eq_right (by omega), Nat.sub_self, List.take_zero, List.drop_of_length_le (by omega)]
theorem cutS_last (p : List Nat) (x : Nat) : cutS (tx (p ++ [x])) none (some (-1)) = tx p := by
  unfold cutS
  rw [HT.sIx_none, tx_cps, tx_len, List.drop_zero, Nat.sub_zero]
  have e : HT.sIx (p ++ [x]).length (p ++ [x]).length (some (-1)) = p.length := by
    rw [List.length_append]
    show HT.sIx (p.length + 1) (p.length + 1) (some (-1)) = p.length
    unfold HT.sIx
    simp
    omega
  rw [e, List.take_left]
  rfl
theorem in_strs {x : Str} : ∀ {xs : List Str}, inV (.str x) (xs.map V.str) = decide (x ∈ xs)
  | [] => by simp [inV]
  | y :: r => by
    have ih := in_strs (x := x) (xs := r)
    unfold inV at ih ⊢
    rw [List.map_cons, List.any_cons, ih]
    show ((y == x) || decide (x ∈ r)) = decide (x ∈ y :: r)
    by_cases h : y = x
    · subst h
      simp
    · have h2 : ¬ x = y := fun e => h e.symm
      simp [h, h2]
theorem flat_strs : ∀ xs : List Str, (xs.map V.str).all flatV = true
  | [] => rfl
  | y :: r => by
    rw [List.map_cons, List.all_cons, flat_strs r]
    rfl
/-- small signs alone -/
def Low (l : List Nat) : Prop := ∀ c ∈ l, 97 ≤ c ∧ c ≤ 122
theorem Low.app {a b : List Nat} (h : Low a) (g : Low b) : Low (a ++ b) := fun c hc => (List.mem_append.mp hc).elim (h c) (g c)
theorem Low.take {a : List Nat} (h : Low a) (k : Nat) : Low (a.take k) := fun c hc => h c (List.mem_of_mem_take hc)
theorem Low.drop {a : List Nat} (h : Low a) (k : Nat) : Low (a.drop k) := fun c hc => h c (List.mem_of_mem_drop hc)
theorem Low.lay {a : List Nat} (h : Low a) : PyData.canLay0 (.str (tx a)) = true := by
  show PySem.PyData.strOk (tx a) = true
  unfold PyData.strOk tx
  rw [List.all_toArray]
  rw [List.all_eq_true]
  intro c hc
  have := h c hc
  simp
  omega
end Lc
namespace Lc
open PySem PySem.Spec PyProof.Rows L2
/-! ### the rules with the written part told, for use inside a comprehension -/
section
variable {X : Cx} (K : PySem.W.Frag)
theorem ix_listK (h : X.K = K := by rfl) : IxR X (rIxL K) := h ▸ ix_list
theorem ix_tupK (h : X.K = K := by rfl) : IxR X (rIxT K) := h ▸ ix_tup
theorem ix_seqK (h : X.K = K := by rfl) : IxR X (rIx K) := h ▸ ix_seq
theorem sl_listK (h : X.K = K := by rfl) : SlR X (rSlL K) := h ▸ sl_list
theorem sl_tupK (h : X.K = K := by rfl) : SlR X (rSlT K) := h ▸ sl_tup
theorem op_in_seqK (h : X.K = K := by rfl) : OpR X (compareOp .In) (rIn K false) := h ▸ op_in_seq
theorem op_notIn_seqK (h : X.K = K := by rfl) : OpR X (compareOp .NotIn) (rIn K true) := h ▸ op_notIn_seq
theorem op_eqDK (hu : X.A.units + 64 < cLine) (h : X.K = K := by rfl) : OpR X (compareOp .Eq) (rEqD K) := h ▸ op_eqD hu
theorem op_neDK (hu : X.A.units + 64 < cLine) (h : X.K = K := by rfl) : OpR X (compareOp .NotEq) (rNeD K) := h ▸ op_neD hu
theorem op_catTK (h : X.K = K := by rfl) : OpR X (binaryOp .Add) (rCatT K) := h ▸ op_catT
def rLenQ (K : PySem.W.Frag) : List V → Hp → VK → Prop := fun xs H Q => ∃ p ys, xs = [.ref p] ∧ (SqL K H p ys ∨ SqT K H p ys) ∧ Q (.int ys.length) H
theorem call_len_seqK (h : X.K = K := by rfl) : CallR X (.builtin "len") (rLenQ K) := h ▸ call_len_seq
theorem call_isiK' (h : X.K = K := by rfl) : CallR X (.builtin "isinstance") (rIsi K) := h ▸ call_isi
variable {o e : Expr} {es : List Expr} {to : TE} {t : TA} {name : Str} {apos cpos : Pos} {T id : String} {r : V → List V → Hp → VK → Prop}
theorem pe_bmK (pa : PlainAttrs T) (slot : Slot T name id) (hty : typeOf (.builtin id) = pure (.type "method_descriptor")) (hm : MtR X id r) (ho : PE X o to) (ha : PA X (e :: es) t) (h : X.K = K := by rfl)
    (hbase : attributeBase o name X.env (eval o X.env) = eval o X.env := by rfl)
    (hfew : ((backTo cpos (starEach (e :: es) X.env)).all (fun x => !x.1) && (backToKw cpos (keywordEach [] X.env)).all (fun x => x.1.isSome)
      && decide ((e :: es).length + ([] : List Keyword).length + (if ([] : List Keyword).isEmpty then 0 else 1) < 30)) = true := by rfl)
    (hline : (apos.endLine == cpos.line) = true := by rfl) (hs : starEach (e :: es) X.env = (false, eval e X.env) :: starEach es X.env := by rfl) (hplain : (backTo cpos (starEach es X.env)).any (·.1) = false := by rfl) :
    PE X (.Call (.Attribute o name apos) (e :: es) [] cpos) (tBM K T r to t) := h ▸ pe_bm pa slot hty hm ho ha hbase hfew hline hs hplain
theorem pe_bm0K (pa : PlainAttrs T) (slot : Slot T name id) (hty : typeOf (.builtin id) = pure (.type "method_descriptor")) (hm : MtR X id r) (ho : PE X o to) (h : X.K = K := by rfl)
    (hbase : attributeBase o name X.env (eval o X.env) = eval o X.env := by rfl) (hline : (apos.endLine == cpos.line) = true := by rfl) : PE X (.Call (.Attribute o name apos) [] [] cpos) (tBM0 K T r to) := h ▸ pe_bm0 pa slot hty hm ho hbase hline
theorem pg_tupK {es : List Expr} {k : Nat} {t : TGs} {n : Nat} {pos : Pos} (hc : X.calm = true) (hg : PGs X es t) (h : X.K = K := by rfl)
    (hn : (assignEach es X.env).length = n := by rfl) (hst : (assignEach es X.env).findIdx? (·.1) = none := by rfl) : PG X (.Tuple es k pos) (gTup K n t) := h ▸ pg_tup hc hg hn hst
theorem pi_listK {tg l : Expr} {tl : TE} (hl : PE X l tl) (h : X.K = K := by rfl) : PI X tg l (iList K tl) := h ▸ pi_list hl
theorem pi_tupK {tg l : Expr} {tl : TE} (hl : PE X l tl) (h : X.K = K := by rfl) : PI X tg l (iTup K tl) := h ▸ pi_tup hl
end
end Lc
namespace Lc
open PySem PySem.Spec PyProof.Rows L2
theorem yes_if {σ : L2.St} {H : Hp} {A B : Hp → Prop} (h : A H) : tYes σ H (fun b H3 => if b = true then A H3 else B H3) := by
  show if true = true then A H else B H
  rw [if_pos rfl]
  exact h
end Lc
set_option Elab.async false
set_option linter.all false
set_option maxRecDepth 100000
set_option maxHeartbeats 4000000
/-! values as data: what a value in the heap stands for, and readings by functions on data -/
namespace Dl
open PySem PySem.Spec PyProof.Rows L2
abbrev D := PyData
abbrev Bar := Addr → Prop
/-- the written part, and the handles of what is shared -/
structure Kx where
  K : PySem.W.Frag
  hd : Nat → Addr → Prop
def KT (K : PySem.W.Frag) (a : Addr) (xs : List V) : Prop :=
  ∃ (o : Obj) (its : Array Value) (n : Nat), K.lookup a = some o ∧ o.cls = .type "tuple" ∧ o.data = .seq its n ∧ its.size ≤ sizeLine ∧ Vals xs its.toList
/-- a handle: a thing that is shared and may change, told by its number -/
def hnd (n : Nat) : D := .dict [(.int n, .none)]
mutual
def Rep (G : Kx) (B : Bar) (H : Hp) : D → V → Prop
  | .none, v => v = .non
  | .bool b, v => v = .bl b
  | .int i, v => v = .int i
  | .str x, v => v = .str x
  | .list ds, v => ∃ a vs, v = .ref a ∧ H a = some (.lst vs) ∧ ¬ B a ∧ Reps G B H ds vs
  | .tuple ds, v => ∃ a vs, v = .ref a ∧ ((H a = some (.tup vs) ∧ ¬ B a) ∨ KT G.K a vs) ∧ Reps G B H ds vs
  | .dict kvs, v => ∃ a, v = .ref a ∧ ((∃ n, kvs = [(.int (n : Nat), .none)] ∧ G.hd n a) ∨ (kvs = [] ∧ H a = some (.dK []) ∧ ¬ B a))
def Reps (G : Kx) (B : Bar) (H : Hp) : List D → List V → Prop
  | [], vs => vs = []
  | d :: ds, vs => ∃ v r, vs = v :: r ∧ Rep G B H d v ∧ Reps G B H ds r
end
section
variable {G : Kx} {B B' : Bar} {H H' : Hp}
mutual
theorem Rep.mv (k : ∀ a o, H a = some o → ¬ B a → H' a = some o ∧ ¬ B' a) : ∀ (d : D) (v : V), Rep G B H d v → Rep G B' H' d v
  | .none, _, h => by simpa only [Rep] using h
  | .bool _, _, h => by simpa only [Rep] using h
  | .int _, _, h => by simpa only [Rep] using h
  | .str _, _, h => by simpa only [Rep] using h
  | .list ds, v, h => by
    simp only [Rep] at h ⊢
    obtain ⟨a, vs, e, h1, h2, h3⟩ := h
    exact ⟨a, vs, e, (k a _ h1 h2).1, (k a _ h1 h2).2, Reps.mv k ds vs h3⟩
  | .tuple ds, v, h => by
    simp only [Rep] at h ⊢
    obtain ⟨a, vs, e, h1, h3⟩ := h
    refine ⟨a, vs, e, ?_, Reps.mv k ds vs h3⟩
    rcases h1 with ⟨h1, h2⟩ | h1
    · exact .inl ⟨(k a _ h1 h2).1, (k a _ h1 h2).2⟩
    · exact .inr h1
  | .dict _, _, h => by
    simp only [Rep] at h ⊢
    obtain ⟨a, e, h⟩ := h
    refine ⟨a, e, h.imp id fun ⟨h1, h2, h3⟩ => ⟨h1, (k a _ h2 h3).1, (k a _ h2 h3).2⟩⟩
theorem Reps.mv (k : ∀ a o, H a = some o → ¬ B a → H' a = some o ∧ ¬ B' a) : ∀ (ds : List D) (vs : List V), Reps G B H ds vs → Reps G B' H' ds vs
  | [], _, h => by simpa only [Reps] using h
  | d :: ds, vs, h => by
    simp only [Reps] at h ⊢
    obtain ⟨v, r, e, h1, h2⟩ := h
    exact ⟨v, r, e, Rep.mv k d v h1, Reps.mv k ds r h2⟩
end
theorem Rep.same {d : D} {v : V} (h : Rep G B H d v) (s : Same H H') : Rep G B H' d v := h.mv fun a o e n => ⟨s a o e, n⟩
theorem Reps.same {d : List D} {v : List V} (h : Reps G B H d v) (s : Same H H') : Reps G B H' d v := h.mv fun a o e n => ⟨s a o e, n⟩
theorem Rep.fr {M : Bar} {d : D} {v : V} (h : Rep G B H d v) (f : Lc.Fr M H H') (m : ∀ a, M a → B a) : Rep G B H' d v := h.mv fun a o e n => ⟨f.at e fun z => n (m a z), n⟩
theorem Reps.fr {M : Bar} {d : List D} {v : List V} (h : Reps G B H d v) (f : Lc.Fr M H H') (m : ∀ a, M a → B a) : Reps G B H' d v := h.mv fun a o e n => ⟨f.at e fun z => n (m a z), n⟩
theorem Rep.sub {d : D} {v : V} (h : Rep G B H d v) (k : ∀ a, B' a → H a ≠ none → B a) : Rep G B' H d v := h.mv fun a o e n => ⟨e, fun z => n (k a z (by rw [e]; simp))⟩
theorem Reps.sub {d : List D} {v : List V} (h : Reps G B H d v) (k : ∀ a, B' a → H a ≠ none → B a) : Reps G B' H d v := h.mv fun a o e n => ⟨e, fun z => n (k a z (by rw [e]; simp))⟩
theorem Reps.len : ∀ {ds : List D} {vs : List V}, Reps G B H ds vs → vs.length = ds.length
  | [], _, h => by simp only [Reps] at h; subst h; rfl
  | d :: ds, vs, h => by
    simp only [Reps] at h
    obtain ⟨v, r, rfl, _, h2⟩ := h
    simp [Reps.len h2]
theorem Reps.nil : Reps G B H [] [] := by simp only [Reps]
theorem Reps.cons {d : D} {ds : List D} {v : V} {vs : List V} (h : Rep G B H d v) (t : Reps G B H ds vs) : Reps G B H (d :: ds) (v :: vs) := by
  simp only [Reps]
  exact ⟨v, vs, rfl, h, t⟩
theorem Reps.get : ∀ {ds : List D} {vs : List V} {i : Nat} {d : D}, Reps G B H ds vs → ds[i]? = some d → ∃ v, vs[i]? = some v ∧ Rep G B H d v
  | [], _, _, _, _, e => by simp at e
  | d :: ds, vs, i, x, h, e => by
    simp only [Reps] at h
    obtain ⟨v, r, rfl, h1, h2⟩ := h
    cases i with
    | zero =>
      simp at e
      subst e
      exact ⟨v, rfl, h1⟩
    | succ i => exact Reps.get (i := i) h2 (by simpa using e)
theorem Reps.append : ∀ {ds es : List D} {vs us : List V}, Reps G B H ds vs → Reps G B H es us → Reps G B H (ds ++ es) (vs ++ us)
  | [], _, _, _, h, t => by simp only [Reps] at h; subst h; exact t
  | d :: ds, es, vs, us, h, t => by
    simp only [Reps] at h
    obtain ⟨v, r, rfl, h1, h2⟩ := h
    exact Reps.cons h1 (Reps.append h2 t)
theorem Reps.take : ∀ {ds : List D} {vs : List V} (n : Nat), Reps G B H ds vs → Reps G B H (ds.take n) (vs.take n)
  | _, _, 0, _ => by simp [Reps]
  | [], _, n + 1, h => by simp only [Reps] at h; subst h; simp [Reps]
  | d :: ds, vs, n + 1, h => by
    simp only [Reps] at h
    obtain ⟨v, r, rfl, h1, h2⟩ := h
    exact Reps.cons h1 (Reps.take n h2)
theorem Reps.drop : ∀ {ds : List D} {vs : List V} (n : Nat), Reps G B H ds vs → Reps G B H (ds.drop n) (vs.drop n)
  | _, _, 0, h => h
  | [], _, n + 1, h => by simp only [Reps] at h; subst h; simp [Reps]
  | d :: ds, vs, n + 1, h => by
    simp only [Reps] at h
    obtain ⟨v, r, rfl, h1, h2⟩ := h
    exact Reps.drop n h2
theorem Reps.ints : ∀ {ns : List Int} {vs : List V}, Reps G B H (ns.map PyData.int) vs → vs = ns.map V.int
  | [], _, h => by simpa only [Reps, List.map_nil] using h
  | n :: ns, vs, h => by
    simp only [Reps, Rep, List.map_cons] at h
    obtain ⟨v, r, rfl, rfl, h2⟩ := h
    rw [Reps.ints h2]
    rfl
theorem Reps.strs : ∀ {ns : List Str} {vs : List V}, Reps G B H (ns.map PyData.str) vs → vs = ns.map V.str
  | [], _, h => by simpa only [Reps, List.map_nil] using h
  | n :: ns, vs, h => by
    simp only [Reps, Rep, List.map_cons] at h
    obtain ⟨v, r, rfl, rfl, h2⟩ := h
    rw [Reps.strs h2]
    rfl
theorem Reps.bools : ∀ {ns : List Bool} {vs : List V}, Reps G B H (ns.map PyData.bool) vs → vs = ns.map V.bl
  | [], _, h => by simpa only [Reps, List.map_nil] using h
  | n :: ns, vs, h => by
    simp only [Reps, Rep, List.map_cons] at h
    obtain ⟨v, r, rfl, rfl, h2⟩ := h
    rw [Reps.bools h2]
    rfl
theorem reps_ints : ∀ {ns : List Int}, Reps G B H (ns.map PyData.int) (ns.map V.int)
  | [] => Reps.nil
  | n :: ns => Reps.cons (by simp only [Rep]) reps_ints
theorem reps_strs : ∀ {ns : List Str}, Reps G B H (ns.map PyData.str) (ns.map V.str)
  | [] => Reps.nil
  | n :: ns => Reps.cons (by simp only [Rep]) reps_strs
/-- a tuple is to be read -/
theorem Rep.sqT {ds : List D} {v : V} (h : Rep G B H (.tuple ds) v) : ∃ a vs, v = .ref a ∧ SqT G.K H a vs ∧ Reps G B H ds vs := by
  simp only [Rep] at h
  obtain ⟨a, vs, e, h1, h3⟩ := h
  refine ⟨a, vs, e, ?_, h3⟩
  rcases h1 with ⟨h1, _⟩ | h1
  · exact .inl (.inl h1)
  · exact .inr h1
theorem Rep.sqL {ds : List D} {v : V} (h : Rep G B H (.list ds) v) : ∃ a vs, v = .ref a ∧ H a = some (.lst vs) ∧ SqL G.K H a vs ∧ Reps G B H ds vs := by
  simp only [Rep] at h
  obtain ⟨a, vs, e, h1, h2, h3⟩ := h
  exact ⟨a, vs, e, h1, .inl (.inl h1), h3⟩
mutual
theorem Rep.dp : ∀ (d : D) (v : V), PyData.canLay0 d = true → Rep G B H d v → Dp G.K H v d
  | .none, _, _, h => by simp only [Rep] at h; subst h; exact .non
  | .bool _, _, _, h => by simp only [Rep] at h; subst h; exact .bl _
  | .int _, _, _, h => by simp only [Rep] at h; subst h; exact .int _
  | .str _, _, _, h => by simp only [Rep] at h; subst h; exact .str _
  | .list ds, v, c, h => by
    obtain ⟨a, vs, rfl, _, h1, h2⟩ := h.sqL
    exact .lst h1 (Reps.dp ds vs (by simpa [PyData.canLay0] using c) h2)
  | .tuple ds, v, c, h => by
    obtain ⟨a, vs, rfl, h1, h2⟩ := h.sqT
    exact .tup h1 (Reps.dp ds vs (by simpa [PyData.canLay0] using c) h2)
  | .dict _, _, c, _ => by simp [PyData.canLay0] at c
theorem Reps.dp : ∀ (ds : List D) (vs : List V), PyData.canLayAll0 ds = true → Reps G B H ds vs → DpAll G.K H vs ds
  | [], vs, _, h => by simp only [Reps] at h; subst h; exact .nil
  | d :: ds, vs, c, h => by
    simp only [Reps] at h
    obtain ⟨v, r, rfl, h1, h2⟩ := h
    have c' : d.canLay0 = true ∧ PyData.canLayAll0 ds = true := by simpa [PyData.canLayAll0] using c
    exact .cons (Rep.dp d v c'.1 h1) (Reps.dp ds r c'.2 h2)
end
end
/-! ### what is shared, and the slots -/
structure Zk (S : Type) where
  M : Bar
  R : Hp → S → Prop
  dom : ∀ H s a, R H s → M a → H a ≠ none
  loc : ∀ H H' s, R H s → (∀ a, M a → H' a = H a) → R H' s
theorem Zk.same {S : Type} (Z : Zk S) {H H' : Hp} {s : S} (r : Z.R H s) (e : Same H H') : Z.R H' s := Z.loc H H' s r fun a m => by
  cases q : H a with
  | none => exact absurd q (Z.dom H s a r m)
  | some o => exact e a o q
abbrev Rho := List (Option D)
abbrev Ev (S : Type) := Rho → S → Option (D × S)
abbrev Ea (S : Type) := Rho → S → Option (List D × S)
structure Er (G : Kx) (W : List Nat) (B O : Bar) (H : Hp) (σ : L2.St) (ρ : Rho) : Prop where
  len : σ.length = ρ.length
  pl : ∀ i d, i ∉ W → ρ[i]? = some (some d) → ∃ v, σ[i]? = some (some v) ∧ Rep G (fun a => B a ∨ O a) H d v
  ow : ∃ om : Nat → Addr, (∀ i j d e, i ∈ W → j ∈ W → ρ[i]? = some (some d) → ρ[j]? = some (some e) → om i = om j → i = j) ∧
    ∀ i d, i ∈ W → ρ[i]? = some (some d) → ∃ ds vs, d = .list ds ∧ σ[i]? = some (some (.ref (om i))) ∧ O (om i) ∧ H (om i) = some (.lst vs) ∧ Reps G (fun a => B a ∨ O a) H ds vs
structure Eo {S : Type} (G : Kx) (Z : Zk S) (W : List Nat) (B O : Bar) (H : Hp) (σ : L2.St) (ρ : Rho) : Prop where
  er : Er G W B O H σ ρ
  bd : ∀ a, B a → H a ≠ none
  ol : ∀ a, O a → ∃ vs, H a = some (.lst vs)
  mb : ∀ a, Z.M a → B a
  ob : ∀ a, O a → ¬ B a
section
variable {S : Type} {G : Kx} {Z : Zk S} {W : List Nat} {B O : Bar} {H H' : Hp} {σ : L2.St} {ρ : Rho}
theorem some_of_ne {α : Type} {o : Option α} (h : o ≠ none) : ∃ x, o = some x := by
  cases o with
  | none => exact absurd rfl h
  | some x => exact ⟨x, rfl⟩
theorem ne_fr {M : Bar} {a : Addr} (f : Lc.Fr M H H') (h : H a ≠ none) : H' a ≠ none := by
  obtain ⟨o, e⟩ := some_of_ne h
  obtain ⟨o', e', _⟩ := f a o e
  rw [e']
  simp
theorem Er.fr {M : Bar} (e : Er G W B O H σ ρ) (f : Lc.Fr M H H') (m : ∀ a, M a → B a) (ob : ∀ a, O a → ¬ B a) : Er G W B O H' σ ρ where
  len := e.len
  pl := fun i d hi hd => by
    obtain ⟨v, h1, h2⟩ := e.pl i d hi hd
    exact ⟨v, h1, h2.fr f fun a z => .inl (m a z)⟩
  ow := by
    obtain ⟨om, h1, h2⟩ := e.ow
    refine ⟨om, h1, fun i d hi hd => ?_⟩
    obtain ⟨ds, vs, a1, a2, a3, a4, a5⟩ := h2 i d hi hd
    exact ⟨ds, vs, a1, a2, a3, f.at a4 fun z => ob _ a3 (m _ z), a5.fr f fun a z => .inl (m a z)⟩
theorem Eo.od (e : Eo G Z W B O H σ ρ) : ∀ a, O a → H a ≠ none := fun a h => by
  obtain ⟨vs, h⟩ := e.ol a h
  rw [h]
  simp
theorem Eo.fr (e : Eo G Z W B O H σ ρ) (f : Lc.Fr Z.M H H') : Eo G Z W B O H' σ ρ where
  er := e.er.fr f e.mb e.ob
  bd := fun a h => ne_fr f (e.bd a h)
  ol := fun a h => by
    obtain ⟨vs, h2⟩ := e.ol a h
    exact ⟨vs, f.at h2 fun z => e.ob a h (e.mb a z)⟩
  mb := e.mb
  ob := e.ob
theorem Eo.new (e : Eo G Z W B O H σ ρ) {p : Addr} (h : H p = none) : ¬ (B p ∨ O p) := fun z => z.elim (fun z => e.bd p z h) fun z => e.od p z h
end
/-! ### readings of expressions by functions on data -/
def tEx {S : Type} (G : Kx) (Z : Zk S) (W : List Nat) (f : Ev S) : TE := fun σ H Q =>
  ∃ (B O : Bar) (ρ : Rho) (s : S) (d : D) (s' : S), Eo G Z W B O H σ ρ ∧ Z.R H s ∧ f ρ s = some (d, s') ∧
    ∀ v H', Lc.Fr Z.M H H' → Rep G (fun a => B a ∨ O a) H' d v → Z.R H' s' → Q v H'
def tEa {S : Type} (G : Kx) (Z : Zk S) (W : List Nat) (f : Ea S) : TA := fun σ H Q =>
  ∃ (B O : Bar) (ρ : Rho) (s : S) (d : List D) (s' : S), Eo G Z W B O H σ ρ ∧ Z.R H s ∧ f ρ s = some (d, s') ∧
    ∀ v H', Lc.Fr Z.M H H' → Reps G (fun a => B a ∨ O a) H' d v → Z.R H' s' → Q v H'
def tEt {S : Type} (G : Kx) (Z : Zk S) (W : List Nat) (f : Rho → S → Option (Bool × S)) : TT := fun σ H Q =>
  ∃ (B O : Bar) (ρ : Rho) (s : S) (d : Bool) (s' : S), Eo G Z W B O H σ ρ ∧ Z.R H s ∧ f ρ s = some (d, s') ∧
    ∀ H', Lc.Fr Z.M H H' → Z.R H' s' → Q d H'
theorem imp_pe {X : Cx} {e : Expr} {t t' : TE} (h : PE X e t) (m : ∀ σ H Q, t' σ H Q → t σ H Q) : PE X e t' := ⟨fun pins s σ H Q I q => h.run pins s σ H Q I (m σ H Q q)⟩
theorem imp_pa {X : Cx} {e : List Expr} {t t' : TA} (h : PA X e t) (m : ∀ σ H Q, t' σ H Q → t σ H Q) : PA X e t' := ⟨fun pos pins s σ H Q I q => h.run pos pins s σ H Q I (m σ H Q q)⟩
theorem imp_pt {X : Cx} {e : Expr} {t t' : TT} (h : PT X e t) (m : ∀ σ H Q, t' σ H Q → t σ H Q) : PT X e t' := ⟨fun pins s σ H Q I q => h.run pins s σ H Q I (m σ H Q q)⟩
theorem imp_pw {X : Cx} {e : Expr} {t t' : TT} (h : PW X e t) (m : ∀ σ H Q, t' σ H Q → t σ H Q) : PW X e t' := ⟨fun wh pins s σ H Q I q => h.run wh pins s σ H Q I (m σ H Q q)⟩
theorem imp_ps {X : Cx} {e : Stmt} {t t' : TS} (h : PS X e t) (m : ∀ D σ H, t' D σ H → t D σ H) : PS X e t' := ⟨fun pins s σ H D I q => h.run pins s σ H D I (m D σ H q)⟩
theorem imp_pss {X : Cx} {e : List Stmt} {t t' : TS} (h : PSs X e t) (m : ∀ D σ H, t' D σ H → t D σ H) : PSs X e t' := ⟨fun pins s σ H D I q => h.run pins s σ H D I (m D σ H q)⟩
end Dl
set_option Elab.async false
set_option linter.all false
set_option maxRecDepth 100000
set_option maxHeartbeats 4000000
namespace Dl
open PySem PySem.Spec PyProof.Rows L2
def bnd {S α β : Type} (f : Option (α × S)) (k : α → S → Option (β × S)) : Option (β × S) := match f with
  | none => none
  | some (a, s) => k a s
theorem bnd_some {S α β : Type} {f : Option (α × S)} {k : α → S → Option (β × S)} {r : β × S} (h : bnd f k = some r) : ∃ a s, f = some (a, s) ∧ k a s = some r := by
  unfold bnd at h
  split at h
  · cases h
  · exact ⟨_, _, rfl, h⟩
@[simp] theorem bnd_of {S α β : Type} {a : α} {s : S} {k : α → S → Option (β × S)} : bnd (some (a, s)) k = k a s := rfl
@[simp] theorem bnd_no {S α β : Type} {k : α → S → Option (β × S)} : bnd (none : Option (α × S)) k = none := rfl
/-- a value without a change of what is shared -/
def put {S α : Type} (o : Option α) (s : S) : Option (α × S) := match o with
  | none => none
  | some a => some (a, s)
@[simp] theorem put_of {S α : Type} {a : α} {s : S} : put (some a) s = some (a, s) := rfl
@[simp] theorem put_no {S α : Type} {s : S} : put (none : Option α) s = none := rfl
theorem put_some {S α : Type} {o : Option α} {s s' : S} {a : α} (h : put o s = some (a, s')) : o = some a ∧ s' = s := by
  unfold put at h
  split at h
  · cases h
  · cases h
    exact ⟨rfl, rfl⟩
section
variable {S : Type}
def cVar (i : Nat) : Ev S := fun ρ s => match ρ[i]? with
  | some (some d) => some (d, s)
  | _ => none
def cK (d : D) : Ev S := fun _ s => some (d, s)
def cB (p : D → D → Option D) (f g : Ev S) : Ev S := fun ρ s => bnd (f ρ s) fun x s => bnd (g ρ s) fun y s => put (p x y) s
def cU (p : D → Option D) (f : Ev S) : Ev S := fun ρ s => bnd (f ρ s) fun x s => put (p x) s
def aNil : Ea S := fun _ s => some ([], s)
def aCons (f : Ev S) (g : Ea S) : Ea S := fun ρ s => bnd (f ρ s) fun x s => bnd (g ρ s) fun xs s => some (x :: xs, s)
def cN (p : List D → Option D) (f : Ea S) : Ev S := fun ρ s => bnd (f ρ s) fun xs s => put (p xs) s
def pTup (ds : List D) : Option D := if ds.length ≤ sizeLine then some (.tuple ds) else none
def pLst (ds : List D) : Option D := if ds.length ≤ sizeLine then some (.list ds) else none
abbrev Fn (S : Type) := List D → S → Option (D × S)
def cCall (n : Nat) (F : Fn S) (f : Ea S) : Ev S := fun ρ s => bnd (f ρ s) fun xs s => if xs.length = n then F xs s else none
end
def truth : D → Option Bool
  | .none => some false
  | .bool b => some b
  | .int i => some (i != 0)
  | .str x => if x.length ≤ sizeLine then some ((x.length : Int) != 0) else none
  | .list ds => some (!ds.isEmpty)
  | .tuple ds => some (!ds.isEmpty)
  | .dict _ => none
section
variable {S : Type}
abbrev Et (S : Type) := Rho → S → Option (Bool × S)
def qT (f : Ev S) : Et S := fun ρ s => bnd (f ρ s) fun x s => put (truth x) s
def qNot (f : Et S) : Et S := fun ρ s => bnd (f ρ s) fun b s => some (!b, s)
def qAnd (f g : Et S) : Et S := fun ρ s => bnd (f ρ s) fun b s => if b = true then g ρ s else some (false, s)
def qOr (f g : Et S) : Et S := fun ρ s => bnd (f ρ s) fun b s => if b = true then some (true, s) else g ρ s
def cAnd (f g : Ev S) : Ev S := fun ρ s => bnd (f ρ s) fun x s => bnd (put (truth x) s) fun b s => if b = true then g ρ s else some (x, s)
def cOr (f g : Ev S) : Ev S := fun ρ s => bnd (f ρ s) fun x s => bnd (put (truth x) s) fun b s => if b = true then some (x, s) else g ρ s
def cNot (f : Ev S) : Ev S := fun ρ s => bnd (f ρ s) fun x s => bnd (put (truth x) s) fun b s => some (.bool (!b), s)
def cIf (c : Et S) (f g : Ev S) : Ev S := fun ρ s => bnd (c ρ s) fun b s => if b = true then f ρ s else g ρ s
def asB : D → Option Bool
  | .bool b => some b
  | _ => none
/-- a < b < c -/
def cCh (p q : D → D → Option D) (f g h : Ev S) : Ev S := fun ρ s => bnd (f ρ s) fun x s => bnd (g ρ s) fun y s => bnd (put (p x y) s) fun z s => bnd (put (asB z) s) fun b s =>
  if b = true then bnd (h ρ s) fun w s => put (q y w) s else some (.bool false, s)
end
/-! ### the rules -/
section
variable {S : Type} {X : Cx} {G : Kx} {Z : Zk S} {W : List Nat} {f g : Ev S} {fa : Ea S} {a b c e : Expr} {es : List Expr} {pos p : Pos} {x : Str}
theorem ex_var (i : Nat) (hw : W.contains i = false := by rfl) (hN : X.N[i]? = some x := by rfl) (hv : Vis X.env.scope x := by first | exact Or.inl rfl | exact Or.inr (Or.inl rfl) | exact Or.inr (Or.inr rfl)) (hd : (x == ("__debug__" : Str)) = false := by decide)
    (hcd : (x == ("__classdict__" : Str)) = false := by decide) : PE X (.Name x pos) (tEx G Z W (cVar i)) :=
  imp_pe (pe_var hN hv hd hcd) fun σ H Q ⟨B, O, ρ, s, d, s', eo, hR, hf, q⟩ => by
    unfold cVar at hf
    split at hf
    · rename_i e
      cases hf
      obtain ⟨v, h1, h2⟩ := eo.er.pl i d (by simpa using hw) e
      exact ⟨v, h1, q v H (Lc.Fr.refl H) h2 hR⟩
    · cases hf
theorem ex_of {v : V} {d : D} (h : PE X e (tC v)) (r : ∀ B H, Rep G B H d v) : PE X e (tEx G Z W (cK d)) :=
  imp_pe h fun σ H Q ⟨B, O, ρ, s, d', s', eo, hR, hf, q⟩ => by
    cases hf
    exact q v H (Lc.Fr.refl H) (r _ H) hR
theorem ex_int {i : Int} {j} : PE X (.Constant (.int i) j pos) (tEx G Z W (cK (.int i))) := ex_of pe_int fun B H => by simp only [Rep]
theorem ex_str {i : Str} {j} : PE X (.Constant (.str i) j pos) (tEx G Z W (cK (.str i))) := ex_of pe_str fun B H => by simp only [Rep]
theorem ex_bl {i : Bool} {j} : PE X (.Constant (.bool i) j pos) (tEx G Z W (cK (.bool i))) := ex_of pe_bl fun B H => by simp only [Rep]
theorem ex_non {j} : PE X (.Constant .none j pos) (tEx G Z W (cK .none)) := ex_of pe_non fun B H => by simp only [Rep]
/-- an operation on values, by one on data -/
def OpS (G : Kx) (r : R2) (p : D → D → Option D) : Prop := ∀ (B : Bar) (H : Hp) (x y : V) (dx dy d : D) (Q : VK), (∀ a, B a → H a ≠ none) → Rep G B H dx x → Rep G B H dy y → p dx dy = some d →
  (∀ v H', Same H H' → Rep G B H' d v → Q v H') → r x y H Q
theorem top_ex {r : R2} {p : D → D → Option D} (hs : OpS G r p) {σ : L2.St} {H : Hp} {Q : VK} (h : tEx G Z W (cB p f g) σ H Q) : tOp r (tEx G Z W f) (tEx G Z W g) σ H Q := by
  obtain ⟨B, O, ρ, s, d, s', eo, hR, hf, q⟩ := h
  unfold cB at hf
  obtain ⟨x, s1, h1, hf⟩ := bnd_some hf
  obtain ⟨y, s2, h2, hf⟩ := bnd_some hf
  obtain ⟨h3, rfl⟩ := put_some hf
  refine ⟨B, O, ρ, s, x, s1, eo, hR, h1, fun v H1 f1 r1 R1 => ⟨B, O, ρ, s1, y, _, eo.fr f1, R1, h2, fun u H2 f2 r2 R2 => ?_⟩⟩
  have e2 := (eo.fr f1).fr f2
  refine hs _ H2 v u x y d Q (fun a z => z.elim (e2.bd a) (e2.od a)) (r1.fr f2 fun a z => .inl (eo.mb a z)) r2 h3 fun w H3 sm r3 => ?_
  exact q w H3 ((f1.trans f2).trans (Lc.Fr.of sm)) r3 (Z.same R2 sm)
theorem ex_bin {op : Operator} {r : R2} {q : D → D → Option D} (ho : OpR X (binaryOp op) r) (hs : OpS G r q) (ha : PE X a (tEx G Z W f)) (hb : PE X b (tEx G Z W g)) : PE X (.BinOp a op b pos) (tEx G Z W (cB q f g)) :=
  imp_pe (pe_op ho ha hb) fun σ H Q h => top_ex hs h
theorem ex_cmp {op : CmpOp} {r : R2} {q : D → D → Option D} (ho : OpR X (compareOp op) r) (hs : OpS G r q) (ha : PE X a (tEx G Z W f)) (hb : PE X b (tEx G Z W g)) (hm : behindInMarks op b = false) : PE X (.Compare a [op] [b] pos) (tEx G Z W (cB q f g)) :=
  imp_pe (pe_cmpR ho ha hb hm) fun σ H Q h => top_ex hs h
theorem ex_ix {r : R2} {q : D → D → Option D} (ho : IxR X r) (hs : OpS G r q) (ha : PE X a (tEx G Z W f)) (hb : PE X b (tEx G Z W g)) (hp : PlainIx b) : PE X (.Subscript a b pos) (tEx G Z W (cB q f g)) :=
  imp_pe (pe_ix ho ha hb hp) fun σ H Q h => top_ex hs h
def UnS (G : Kx) (r : V → Hp → VK → Prop) (p : D → Option D) : Prop := ∀ (B : Bar) (H : Hp) (x : V) (dx d : D) (Q : VK), (∀ a, B a → H a ≠ none) → Rep G B H dx x → p dx = some d →
  (∀ v H', Same H H' → Rep G B H' d v → Q v H') → r x H Q
theorem tun_ex {r : V → Hp → VK → Prop} {p : D → Option D} (hs : UnS G r p) {σ : L2.St} {H : Hp} {Q : VK} (h : tEx G Z W (cU p f) σ H Q) : tUn r (tEx G Z W f) σ H Q := by
  obtain ⟨B, O, ρ, s, d, s', eo, hR, hf, q⟩ := h
  unfold cU at hf
  obtain ⟨x, s1, h1, hf⟩ := bnd_some hf
  obtain ⟨h3, rfl⟩ := put_some hf
  refine ⟨B, O, ρ, s, x, _, eo, hR, h1, fun v H1 f1 r1 R1 => ?_⟩
  have e2 := eo.fr f1
  refine hs _ H1 v x d Q (fun a z => z.elim (e2.bd a) (e2.od a)) r1 h3 fun w H3 sm r3 => ?_
  exact q w H3 (f1.trans (Lc.Fr.of sm)) r3 (Z.same R1 sm)
theorem ex_un {op : UnaryOp} {r : V → Hp → VK → Prop} {q : D → Option D} (ho : UnR X (unaryOp op) r) (hs : UnS G r q) (ha : PE X a (tEx G Z W f)) : PE X (.UnaryOp op a pos) (tEx G Z W (cU q f)) :=
  imp_pe (pe_un ho ha) fun σ H Q h => tun_ex hs h
/-! arguments -/
theorem ea_nil : PA X [] (tEa G Z W aNil) := imp_pa pa_nil fun σ H Q ⟨B, O, ρ, s, d, s', eo, hR, hf, q⟩ => by
  cases hf
  exact q [] H (Lc.Fr.refl H) Reps.nil hR
theorem ea_cons (ha : PE X e (tEx G Z W f)) (hr : PA X es (tEa G Z W fa)) (hs : starEach (e :: es) X.env = (false, eval e X.env) :: starEach es X.env := by rfl) : PA X (e :: es) (tEa G Z W (aCons f fa)) :=
  imp_pa (pa_cons ha hr hs) fun σ H Q ⟨B, O, ρ, s, d, s', eo, hR, hf, q⟩ => by
    unfold aCons at hf
    obtain ⟨x, s1, h1, hf⟩ := bnd_some hf
    obtain ⟨y, s2, h2, hf⟩ := bnd_some hf
    cases hf
    refine ⟨B, O, ρ, s, x, s1, eo, hR, h1, fun v H1 f1 r1 R1 => ⟨B, O, ρ, s1, y, _, eo.fr f1, R1, h2, fun u H2 f2 r2 R2 => ?_⟩⟩
    exact q _ H2 (f1.trans f2) (Reps.cons (r1.fr f2 fun a z => .inl (eo.mb a z)) r2) R2
/-- a call of something built in, by a function on data -/
def CaS (G : Kx) (r : List V → Hp → VK → Prop) (p : List D → Option D) : Prop := ∀ (B : Bar) (H : Hp) (xs : List V) (ds : List D) (d : D) (Q : VK), (∀ a, B a → H a ≠ none) → Reps G B H ds xs → p ds = some d →
  (∀ v H', Same H H' → Rep G B H' d v → Q v H') → r xs H Q
theorem tcb_ex {r : List V → Hp → VK → Prop} {p : List D → Option D} (hs : CaS G r p) {σ : L2.St} {H : Hp} {Q : VK} (h : tEx G Z W (cN p fa) σ H Q) : tCB r (tEa G Z W fa) σ H Q := by
  obtain ⟨B, O, ρ, s, d, s', eo, hR, hf, q⟩ := h
  unfold cN at hf
  obtain ⟨x, s1, h1, hf⟩ := bnd_some hf
  obtain ⟨h3, rfl⟩ := put_some hf
  refine ⟨B, O, ρ, s, x, _, eo, hR, h1, fun v H1 f1 r1 R1 => ?_⟩
  have e2 := eo.fr f1
  refine hs _ H1 v x d Q (fun a z => z.elim (e2.bd a) (e2.od a)) r1 h3 fun w H3 sm r3 => ?_
  exact q w H3 (f1.trans (Lc.Fr.of sm)) r3 (Z.same R1 sm)
theorem ex_callB {id : String} {r : List V → Hp → VK → Prop} {q : List D → Option D} (hc : CallR X (.builtin id) r) (hS : CaS G r q) (hg : Gl X x) (hm : X.mg x = none) (hv : bootBuiltins x = some (.builtin id)) (ha : PA X (e :: es) (tEa G Z W fa)) (hn : x ≠ "__name__" := by decide) (hdb : (x == ("__debug__" : Str)) = false := by decide)
    (he : starEach (e :: es) X.env = (false, eval e X.env) :: starEach es X.env := by rfl) (hpl : (backTo pos (starEach es X.env)).any (·.1) = false := by rfl) : PE X (.Call (.Name x p) (e :: es) [] pos) (tEx G Z W (cN q fa)) :=
  imp_pe (pe_callB hc hg hm hv ha hn hdb he hpl) fun σ H Q h => tcb_ex hS h
theorem ex_callTy {T : String} {r : List V → Hp → VK → Prop} {q : List D → Option D} (hc : CallR X (.type T) r) (hS : CaS G r q) (hg : Gl X x) (hm : X.mg x = none) (hv : bootBuiltins x = some (.type T)) (ha : PA X (e :: es) (tEa G Z W fa)) (hn : x ≠ "__name__" := by decide) (hdb : (x == ("__debug__" : Str)) = false := by decide)
    (he : starEach (e :: es) X.env = (false, eval e X.env) :: starEach es X.env := by rfl) (hpl : (backTo pos (starEach es X.env)).any (·.1) = false := by rfl) : PE X (.Call (.Name x p) (e :: es) [] pos) (tEx G Z W (cN q fa)) :=
  imp_pe (pe_callTy hc hg hm hv ha hn hdb he hpl) fun σ H Q h => tcb_ex hS h
theorem ttup_ex {σ : L2.St} {H : Hp} {Q : VK} (h : tEx G Z W (cN pTup fa) σ H Q) : tTup (tEa G Z W fa) σ H Q := by
  obtain ⟨B, O, ρ, s, d, s', eo, hR, hf, q⟩ := h
  unfold cN at hf
  obtain ⟨x, s1, h1, hf⟩ := bnd_some hf
  obtain ⟨h3, rfl⟩ := put_some hf
  unfold pTup at h3
  split at h3
  · cases h3
    refine ⟨B, O, ρ, s, x, _, eo, hR, h1, fun v H1 f1 r1 R1 => ⟨by rw [r1.len]; assumption, fun p hp => ?_⟩⟩
    have e2 := eo.fr f1
    refine q _ _ (f1.trans (Lc.Fr.new hp)) ?_ (Z.same R1 (Lc.same_new hp))
    simp only [Rep]
    exact ⟨p, v, rfl, .inl ⟨upd_same, e2.new hp⟩, r1.same (Lc.same_new hp)⟩
  · cases h3
theorem ex_tup {x1} (h : PA X es (tEa G Z W fa)) : PE X (.Tuple es x1 pos) (tEx G Z W (cN pTup fa)) := imp_pe (pe_tup h) fun σ H Q h => ttup_ex h
theorem tlst_ex {σ : L2.St} {H : Hp} {Q : VK} (h : tEx G Z W (cN pLst fa) σ H Q) : tLst (tEa G Z W fa) σ H Q := by
  obtain ⟨B, O, ρ, s, d, s', eo, hR, hf, q⟩ := h
  unfold cN at hf
  obtain ⟨x, s1, h1, hf⟩ := bnd_some hf
  obtain ⟨h3, rfl⟩ := put_some hf
  unfold pLst at h3
  split at h3
  · cases h3
    refine ⟨B, O, ρ, s, x, _, eo, hR, h1, fun v H1 f1 r1 R1 => ⟨by rw [r1.len]; assumption, fun p hp => ?_⟩⟩
    have e2 := eo.fr f1
    refine q _ _ (f1.trans (Lc.Fr.new hp)) ?_ (Z.same R1 (Lc.same_new hp))
    simp only [Rep]
    exact ⟨p, v, rfl, upd_same, e2.new hp, r1.same (Lc.same_new hp)⟩
  · cases h3
theorem ex_lst (h : PA X es (tEa G Z W fa)) : PE X (.List es pos) (tEx G Z W (cN pLst fa)) := imp_pe (pe_lst h) fun σ H Q h => tlst_ex h
/-! a def by a function on data -/
def spD (G : Kx) (Z : Zk S) (n : Nat) (F : Fn S) : Sp := fun vs H Q _ => ∃ (B : Bar) (ds : List D) (s : S) (d : D) (s' : S), ds.length = n ∧ (∀ a, B a → H a ≠ none) ∧ (∀ a, Z.M a → B a) ∧ Reps G B H ds vs ∧ Z.R H s ∧ F ds s = some (d, s') ∧
  ∀ v H', Lc.Fr Z.M H H' → Rep G B H' d v → Z.R H' s' → Q v H'
theorem tcall_ex {n : Nat} {F : Fn S} {σ : L2.St} {H : Hp} {Q : VK} (h : tEx G Z W (cCall n F fa) σ H Q) : tCall (spD G Z n F) [] E0 (tEa G Z W fa) σ H Q := by
  obtain ⟨B, O, ρ, s, d, s', eo, hR, hf, q⟩ := h
  unfold cCall at hf
  obtain ⟨x, s1, h1, hf⟩ := bnd_some hf
  split at hf
  · refine ⟨B, O, ρ, s, x, s1, eo, hR, h1, fun v H1 f1 r1 R1 => ?_⟩
    have e2 := eo.fr f1
    show spD G Z n F (v ++ []) H1 Q E0
    rw [List.append_nil]
    exact ⟨_, x, s1, d, s', by assumption, fun a z => z.elim (e2.bd a) (e2.od a), fun a z => .inl (eo.mb a z), r1, R1, hf, fun w H2 f2 r2 R2 => q w H2 (f1.trans f2) r2 R2⟩
  · cases hf
theorem ex_call {ps : List Str} {k n : Nat} {F : Fn S} (C : Lc.Dn X.prog X.w X.K X.mg X.base x ps k (spD G Z n F)) (hr : Room k X.A) (hg : Gl X x) (ha : PA X (e :: es) (tEa G Z W fa)) (hdb : (x == ("__debug__" : Str)) = false := by decide)
    (he : starEach (e :: es) X.env = (false, eval e X.env) :: starEach es X.env := by rfl) (hpl : (backTo pos (starEach es X.env)).any (·.1) = false := by rfl) : PE X (.Call (.Name x p) (e :: es) [] pos) (tEx G Z W (cCall n F fa)) :=
  imp_pe (Lc.pe_dn C hr hg ha hdb he hpl) fun σ H Q h => tcall_ex h
theorem ex_call0 {ps : List Str} {k : Nat} {F : Fn S} (C : Lc.Dn X.prog X.w X.K X.mg X.base x ps k (spD G Z 0 F)) (hr : Room k X.A) (hg : Gl X x) (hdb : (x == ("__debug__" : Str)) = false := by decide) : PE X (.Call (.Name x p) [] [] pos) (tEx G Z W (cCall 0 F aNil)) :=
  imp_pe (Lc.pe_dn0 C hr hg hdb) fun σ H Q h => by
    have h2 := tcall_ex h
    obtain ⟨B, O, ρ, s, d, s', eo, hR, hf, q⟩ := h2
    cases hf
    exact q [] H (Lc.Fr.refl H) Reps.nil hR
/-! tests -/
theorem tru_of {B : Bar} {H : Hp} : ∀ {d : D} {v : V} {k : Bool}, Rep G B H d v → truth d = some k → TruV G.K v H k
  | .none, v, k, h, e => by simp only [Rep] at h; subst h; cases e; rfl
  | .bool b, v, k, h, e => by simp only [Rep] at h; subst h; cases e; rfl
  | .int i, v, k, h, e => by simp only [Rep] at h; subst h; cases e; rfl
  | .str x, v, k, h, e => by
    simp only [Rep] at h
    subst h
    have e : (if x.length ≤ sizeLine then some ((x.length : Int) != 0) else none) = some k := e
    split at e
    · cases e
      exact ⟨by assumption, rfl⟩
    · cases e
  | .list ds, v, k, h, e => by
    obtain ⟨a, vs, rfl, _, h1, h2⟩ := h.sqL
    cases e
    refine .inl ⟨vs, h1, ?_⟩
    have := h2.len
    cases ds <;> cases vs <;> simp_all
  | .tuple ds, v, k, h, e => by
    obtain ⟨a, vs, rfl, h1, h2⟩ := h.sqT
    cases e
    refine .inr (.inl ⟨vs, h1, ?_⟩)
    have := h2.len
    cases ds <;> cases vs <;> simp_all
  | .dict _, v, k, h, e => by cases e
theorem et_val (ha : PE X a (tEx G Z W f)) (he : ∀ whole, isTrue a X.env whole = (do let v ← whole; standAt a.pos; holding [v] (truthy v)) := by intro _; rfl) (hK : X.K = G.K := by rfl) : PT X a (tEt G Z W (qT f)) :=
  imp_pt (pt_truth ha he) fun σ H Q ⟨B, O, ρ, s, d, s', eo, hR, hf, q⟩ => by
    unfold qT at hf
    obtain ⟨x, s1, h1, hf⟩ := bnd_some hf
    obtain ⟨h3, rfl⟩ := put_some hf
    refine ⟨B, O, ρ, s, x, _, eo, hR, h1, fun v H1 f1 r1 R1 => ⟨d, ?_, q H1 f1 R1⟩⟩
    rw [hK]
    exact tru_of r1 h3
theorem et_cmp {op : CmpOp} {r : R2} {q : D → D → Option D} (ho : OpR X (compareOp op) r) (hs : OpS G r q) (ha : PE X a (tEx G Z W f)) (hb : PE X b (tEx G Z W g)) (hm : behindInMarks op b = false) (hq : ∀ x y z, q x y = some z → ∃ k, z = .bool k := by intro x y z h; first | exact qb h | simp_all) :
    PT X (.Compare a [op] [b] pos) (tEt G Z W (qT (cB q f g))) :=
  imp_pt (pt_cmpR ho ha hb hm) fun σ H Q ⟨B, O, ρ, s, d, s', eo, hR, hf, h⟩ => by
    unfold qT at hf
    obtain ⟨x, s1, h1, hf⟩ := bnd_some hf
    obtain ⟨h3, rfl⟩ := put_some hf
    have hx : ∃ k, x = .bool k := by
      unfold cB at h1
      obtain ⟨x', s1, h1, hf⟩ := bnd_some h1
      obtain ⟨y', s2, h2, hf⟩ := bnd_some hf
      obtain ⟨h3, h4⟩ := put_some hf
      exact hq _ _ _ h3
    obtain ⟨k, rfl⟩ := hx
    cases h3
    refine top_ex hs ⟨B, O, ρ, s, .bool d, _, eo, hR, h1, fun v H1 f1 r1 R1 => ?_⟩
    simp only [Rep] at r1
    exact ⟨d, r1, h H1 f1 R1⟩
theorem et_not {t : Et S} (ha : PT X a (tEt G Z W t)) : PT X (.UnaryOp .Not a pos) (tEt G Z W (qNot t)) :=
  imp_pt (pt_not ha) fun σ H Q ⟨B, O, ρ, s, d, s', eo, hR, hf, h⟩ => by
    unfold qNot at hf
    obtain ⟨x, s1, h1, hf⟩ := bnd_some hf
    cases hf
    exact ⟨B, O, ρ, s, x, _, eo, hR, h1, fun H1 f1 R1 => h H1 f1 R1⟩
theorem ew_and {t u : Et S} {rest : List Expr} (ha : PT X a (tEt G Z W t)) (hb : PW X (.BoolOp .And (b :: rest) pos) (tEt G Z W u)) : PW X (.BoolOp .And (a :: b :: rest) pos) (tEt G Z W (qAnd t u)) :=
  imp_pw (pw_and ha hb) fun σ H Q ⟨B, O, ρ, s, d, s', eo, hR, hf, h⟩ => by
    unfold qAnd at hf
    obtain ⟨x, s1, h1, hf⟩ := bnd_some hf
    refine ⟨B, O, ρ, s, x, s1, eo, hR, h1, fun H1 f1 R1 => ?_⟩
    cases x with
    | true => exact ⟨B, O, ρ, s1, d, s', eo.fr f1, R1, hf, fun H2 f2 R2 => h H2 (f1.trans f2) R2⟩
    | false =>
      cases hf
      exact h H1 f1 R1
theorem ew_or {t u : Et S} {rest : List Expr} (ha : PT X a (tEt G Z W t)) (hb : PW X (.BoolOp .Or (b :: rest) pos) (tEt G Z W u)) : PW X (.BoolOp .Or (a :: b :: rest) pos) (tEt G Z W (qOr t u)) :=
  imp_pw (pw_or ha hb) fun σ H Q ⟨B, O, ρ, s, d, s', eo, hR, hf, h⟩ => by
    unfold qOr at hf
    obtain ⟨x, s1, h1, hf⟩ := bnd_some hf
    refine ⟨B, O, ρ, s, x, s1, eo, hR, h1, fun H1 f1 R1 => ?_⟩
    cases x with
    | false => exact ⟨B, O, ρ, s1, d, s', eo.fr f1, R1, hf, fun H2 f2 R2 => h H2 (f1.trans f2) R2⟩
    | true =>
      cases hf
      exact h H1 f1 R1
/-! and, or, not, if as values -/
theorem ex_one {op} (h : PE X a (tEx G Z W f)) : PE X (.BoolOp op [a] pos) (tEx G Z W f) := pe_one h
theorem ex_and {rest : List Expr} (ha : PE X a (tEx G Z W f)) (hb : PE X (.BoolOp .And (b :: rest) pos) (tEx G Z W g)) (hK : X.K = G.K := by rfl) : PE X (.BoolOp .And (a :: b :: rest) pos) (tEx G Z W (cAnd f g)) :=
  imp_pe (pe_andT ha hb) fun σ H Q ⟨B, O, ρ, s, d, s', eo, hR, hf, h⟩ => by
    unfold cAnd at hf
    obtain ⟨x, s1, h1, hf⟩ := bnd_some hf
    obtain ⟨k, s2, h2, hf⟩ := bnd_some hf
    obtain ⟨h3, rfl⟩ := put_some h2
    refine ⟨B, O, ρ, s, x, _, eo, hR, h1, fun v H1 f1 r1 R1 => ⟨k, by rw [hK]; exact tru_of r1 h3, ?_⟩⟩
    cases k with
    | true => exact ⟨B, O, ρ, _, d, s', eo.fr f1, R1, hf, fun w H2 f2 r2 R2 => h w H2 (f1.trans f2) r2 R2⟩
    | false =>
      cases hf
      exact h v H1 f1 r1 R1
theorem ex_or {rest : List Expr} (ha : PE X a (tEx G Z W f)) (hb : PE X (.BoolOp .Or (b :: rest) pos) (tEx G Z W g)) (hK : X.K = G.K := by rfl) : PE X (.BoolOp .Or (a :: b :: rest) pos) (tEx G Z W (cOr f g)) :=
  imp_pe (pe_orT ha hb) fun σ H Q ⟨B, O, ρ, s, d, s', eo, hR, hf, h⟩ => by
    unfold cOr at hf
    obtain ⟨x, s1, h1, hf⟩ := bnd_some hf
    obtain ⟨k, s2, h2, hf⟩ := bnd_some hf
    obtain ⟨h3, rfl⟩ := put_some h2
    refine ⟨B, O, ρ, s, x, _, eo, hR, h1, fun v H1 f1 r1 R1 => ⟨k, by rw [hK]; exact tru_of r1 h3, ?_⟩⟩
    cases k with
    | false => exact ⟨B, O, ρ, _, d, s', eo.fr f1, R1, hf, fun w H2 f2 r2 R2 => h w H2 (f1.trans f2) r2 R2⟩
    | true =>
      cases hf
      exact h v H1 f1 r1 R1
theorem ex_not (ha : PE X a (tEx G Z W f)) (hK : X.K = G.K := by rfl) : PE X (.UnaryOp .Not a pos) (tEx G Z W (cNot f)) :=
  imp_pe (pe_notT ha) fun σ H Q ⟨B, O, ρ, s, d, s', eo, hR, hf, h⟩ => by
    unfold cNot at hf
    obtain ⟨x, s1, h1, hf⟩ := bnd_some hf
    obtain ⟨k, s2, h2, hg⟩ := bnd_some hf
    obtain ⟨h3, rfl⟩ := put_some h2
    cases hg
    exact ⟨B, O, ρ, s, x, _, eo, hR, h1, fun v H1 f1 r1 R1 => ⟨k, by rw [hK]; exact tru_of r1 h3, h _ H1 f1 (by simp only [Rep]) R1⟩⟩
theorem ex_if {t : Et S} (hc : PT X c (tEt G Z W t)) (ha : PE X a (tEx G Z W f)) (hb : PE X b (tEx G Z W g)) : PE X (.IfExp c a b pos) (tEx G Z W (cIf t f g)) :=
  imp_pe (pe_ifExp hc ha hb) fun σ H Q ⟨B, O, ρ, s, d, s', eo, hR, hf, h⟩ => by
    unfold cIf at hf
    obtain ⟨x, s1, h1, hf⟩ := bnd_some hf
    refine ⟨B, O, ρ, s, x, s1, eo, hR, h1, fun H1 f1 R1 => ?_⟩
    cases x with
    | true => exact ⟨B, O, ρ, s1, d, s', eo.fr f1, R1, hf, fun w H2 f2 r2 R2 => h w H2 (f1.trans f2) r2 R2⟩
    | false => exact ⟨B, O, ρ, s1, d, s', eo.fr f1, R1, hf, fun w H2 f2 r2 R2 => h w H2 (f1.trans f2) r2 R2⟩
theorem tch_ex {h : Ev S} {r r' : R2} {q q' : D → D → Option D} (hs : OpS G r q) (hs' : OpS G r' q') {σ : L2.St} {H : Hp} {Q : VK} (hh : tEx G Z W (cCh q q' f g h) σ H Q) : tChain r r' (tEx G Z W f) (tEx G Z W g) (tEx G Z W h) σ H Q := by
  obtain ⟨B, O, ρ, s, d, s', eo, hR, hf, k⟩ := hh
  unfold cCh at hf
  obtain ⟨x, s1, h1, hf⟩ := bnd_some hf
  obtain ⟨y, s2, h2, hf⟩ := bnd_some hf
  obtain ⟨z, s3, h3, hf⟩ := bnd_some hf
  obtain ⟨b, s4, h4, hf⟩ := bnd_some hf
  obtain ⟨h5, rfl⟩ := put_some h3
  obtain ⟨h7, rfl⟩ := put_some h4
  refine ⟨B, O, ρ, s, x, s1, eo, hR, h1, fun v H1 f1 r1 R1 => ⟨B, O, ρ, s1, y, _, eo.fr f1, R1, h2, fun u H2 f2 r2 R2 => ?_⟩⟩
  have e2 := (eo.fr f1).fr f2
  refine hs _ H2 v u x y z _ (fun a z => z.elim (e2.bd a) (e2.od a)) (r1.fr f2 fun a z => .inl (eo.mb a z)) r2 h5 fun w H3 sm r3 => ?_
  have hz : z = .bool b := by
    unfold asB at h7
    split at h7
    · cases h7; rfl
    · cases h7
  subst hz
  simp only [Rep] at r3
  refine ⟨b, r3, ?_⟩
  cases b with
  | false =>
    cases hf
    exact k _ H3 ((f1.trans f2).trans (Lc.Fr.of sm)) (by simp only [Rep]) (Z.same R2 sm)
  | true =>
    obtain ⟨w2, s5, h9, hf⟩ := bnd_some (show bnd (h ρ _) (fun w s => put (q' y w) s) = some (d, s') from hf)
    obtain ⟨h10, rfl⟩ := put_some hf
    have e3 := e2.fr (Lc.Fr.of sm)
    refine ⟨B, O, ρ, _, w2, _, e3, Z.same R2 sm, h9, fun u4 H4 f4 r4 R4 => ?_⟩
    have e4 := e3.fr f4
    refine hs' _ H4 u u4 y w2 d Q (fun a z => z.elim (e4.bd a) (e4.od a)) ((r2.same sm).fr f4 fun a z => .inl (eo.mb a z)) r4 h10 fun w5 H5 sm5 r5 => ?_
    exact k w5 H5 ((((f1.trans f2).trans (Lc.Fr.of sm)).trans f4).trans (Lc.Fr.of sm5)) r5 (Z.same R4 sm5)
theorem ex_chain {h : Ev S} {op op' : CmpOp} {r r' : R2} {q q' : D → D → Option D} (ho : OpR X (compareOp op) r) (hs : OpS G r q) (ho' : OpR X (compareOp op') r') (hs' : OpS G r' q') (ha : PE X a (tEx G Z W f)) (hb : PE X b (tEx G Z W g)) (hc : PE X c (tEx G Z W h))
    (hm : lastMarks [op, op'] [b, c] = false := by with_unfolding_all rfl) : PE X (.Compare a [op, op'] [b, c] pos) (tEx G Z W (cCh q q' f g h)) :=
  imp_pe (pe_chain ho ho' ha hb hc hm) fun σ H Q hh => tch_ex hs hs' hh
end
end Dl
set_option Elab.async false
set_option linter.all false
set_option maxRecDepth 100000
set_option maxHeartbeats 4000000
namespace Dl
open PySem PySem.Spec PyProof.Rows L2
/-! ### flat data: no list within -/
mutual
def flatD : D → Bool
  | .none => true
  | .bool _ => true
  | .int _ => true
  | .str _ => true
  | .list _ => false
  | .tuple ds => flatDs ds
  | .dict _ => true
def flatDs : List D → Bool
  | [] => true
  | d :: ds => flatD d && flatDs ds
end
section
variable {G : Kx} {B O : Bar} {H : Hp}
mutual
theorem Rep.flat (ol : ∀ a, O a → ∃ vs, H a = some (.lst vs)) : ∀ (d : D) (v : V), flatD d = true → Rep G B H d v → Rep G (fun a => B a ∨ O a) H d v
  | .none, _, _, h => by simpa only [Rep] using h
  | .bool _, _, _, h => by simpa only [Rep] using h
  | .int _, _, _, h => by simpa only [Rep] using h
  | .str _, _, _, h => by simpa only [Rep] using h
  | .list _, _, c, _ => by simp [flatD] at c
  | .tuple ds, v, c, h => by
    simp only [Rep] at h ⊢
    obtain ⟨a, vs, e, h1, h3⟩ := h
    refine ⟨a, vs, e, ?_, Reps.flat ol ds vs (by simpa only [flatD] using c) h3⟩
    rcases h1 with ⟨h1, h2⟩ | h1
    · refine .inl ⟨h1, fun z => z.elim h2 fun z => ?_⟩
      obtain ⟨us, z⟩ := ol a z
      rw [h1] at z
      cases z
    · exact .inr h1
  | .dict _, _, _, h => by
    simp only [Rep] at h ⊢
    obtain ⟨a, e, h⟩ := h
    refine ⟨a, e, h.imp id fun ⟨h1, h2, h3⟩ => ⟨h1, h2, fun z => z.elim h3 fun z => ?_⟩⟩
    obtain ⟨us, z⟩ := ol a z
    rw [h2] at z
    cases z
theorem Reps.flat (ol : ∀ a, O a → ∃ vs, H a = some (.lst vs)) : ∀ (ds : List D) (vs : List V), flatDs ds = true → Reps G B H ds vs → Reps G (fun a => B a ∨ O a) H ds vs
  | [], _, _, h => by simpa only [Reps] using h
  | d :: ds, vs, c, h => by
    simp only [Reps] at h ⊢
    obtain ⟨v, r, e, h1, h2⟩ := h
    have c' : flatD d = true ∧ flatDs ds = true := by simpa [flatDs] using c
    exact ⟨v, r, e, Rep.flat ol d v c'.1 h1, Reps.flat ol ds r c'.2 h2⟩
end
end
section
variable {S : Type} {G : Kx} {Z : Zk S} {W : List Nat} {B O : Bar} {H : Hp} {σ : L2.St} {ρ : Rho}
theorem Eo.weak (e : Eo G Z W B O H σ ρ) : Eo G Z [] B (fun _ => False) H σ ρ where
  er := by
    refine ⟨e.er.len, fun i d _ hd => ?_, fun _ => 0, (fun _ _ _ _ z => by cases z), (fun _ _ z => by cases z)⟩
    by_cases hi : i ∈ W
    · obtain ⟨om, _, h2⟩ := e.er.ow
      obtain ⟨ds, vs, rfl, a2, a3, a4, a5⟩ := h2 i d hi hd
      refine ⟨_, a2, ?_⟩
      simp only [Rep]
      exact ⟨_, vs, rfl, a4, fun z => z.elim (e.ob _ a3) id, a5.sub fun a z _ => .inl (z.elim id False.elim)⟩
    · obtain ⟨v, h1, h2⟩ := e.er.pl i d hi hd
      exact ⟨v, h1, h2.sub fun a z _ => .inl (z.elim id False.elim)⟩
  bd := e.bd
  ol := fun _ z => z.elim
  mb := e.mb
  ob := fun _ z => z.elim
end
def cFl {S : Type} (f : Ev S) : Ev S := fun ρ s => bnd (f ρ s) fun d s => if flatD d = true then some (d, s) else none
theorem ex_weak {S : Type} {X : Cx} {G : Kx} {Z : Zk S} {W : List Nat} {f : Ev S} {e : Expr} (h : PE X e (tEx G Z [] f)) : PE X e (tEx G Z W (cFl f)) :=
  imp_pe h fun σ H Q ⟨B, O, ρ, s, d, s', eo, hR, hf, q⟩ => by
    unfold cFl at hf
    obtain ⟨x, s1, h1, hf⟩ := bnd_some hf
    split at hf
    · rename_i hfl
      cases hf
      refine ⟨B, fun _ => False, ρ, s, d, _, eo.weak, hR, h1, fun v H' f1 r1 R1 => q v H' f1 ?_ R1⟩
      have e2 := eo.fr f1
      exact Rep.flat e2.ol d v hfl (r1.sub fun a z _ => .inl z)
    · cases hf
/-! ### statements -/
inductive Rs where
  | nx (ρ : Rho) | rt (d : D) | bk (ρ : Rho) | ct (ρ : Rho)
abbrev Sv (S : Type) := Rho → S → Option (Rs × S)
structure Sr {S : Type} (G : Kx) (Z : Zk S) (W : List Nat) (B : Bar) (H0 : Hp) (O : Bar) (H : Hp) (σ : L2.St) (ρ : Rho) (s : S) : Prop where
  eo : Eo G Z W B O H σ ρ
  fr : Lc.Fr Z.M H0 H
  b0 : ∀ a, B a → H0 a ≠ none
  o0 : ∀ a, O a → H0 a = none
  r : Z.R H s
/-- what a statement may have changed: what is shared, the own lists -/
structure Ch {S : Type} (Z : Zk S) (O O' : Bar) (H H' : Hp) : Prop where
  fr : Lc.Fr (fun a => Z.M a ∨ O a) H H'
  up : ∀ a, O a → O' a
  nw : ∀ a, O' a → O a ∨ H a = none
section
variable {S : Type} {G : Kx} {Z : Zk S} {W : List Nat} {B O O1 O2 : Bar} {H H1 H2 H0 : Hp} {σ σ1 : L2.St} {ρ ρ1 : Rho} {s s1 : S}
theorem Ch.refl : Ch Z O O H H := ⟨Lc.Fr.refl H, fun _ h => h, fun _ h => .inl h⟩
theorem Ch.of (f : Lc.Fr Z.M H H1) : Ch Z O O H H1 := ⟨fun b o e => by
  obtain ⟨o', h1, h2⟩ := f b o e
  exact ⟨o', h1, fun n => h2 fun z => n (.inl z)⟩, fun _ h => h, fun _ h => .inl h⟩
theorem Ch.trans (a : Ch Z O O1 H H1) (b : Ch Z O1 O2 H1 H2) : Ch Z O O2 H H2 where
  fr := fun c o e => by
    obtain ⟨o1, e1, k1⟩ := a.fr c o e
    obtain ⟨o2, e2, k2⟩ := b.fr c o1 e1
    refine ⟨o2, e2, fun n => (k2 fun z => ?_).trans (k1 n)⟩
    rcases z with z | z
    · exact n (.inl z)
    · rcases a.nw c z with z | z
      · exact n (.inr z)
      · rw [e] at z; cases z
  up := fun c h => b.up c (a.up c h)
  nw := fun c h => by
    rcases b.nw c h with h | h
    · exact a.nw c h
    · right
      cases q : H c with
      | none => rfl
      | some o =>
        obtain ⟨o1, e1, _⟩ := a.fr c o q
        rw [h] at e1
        cases e1
theorem Sr.mb (r : Sr G Z W B H0 O H σ ρ s) : ∀ a, Z.M a → B a := r.eo.mb
theorem Sr.step (r : Sr G Z W B H0 O H σ ρ s) (f : Lc.Fr Z.M H H1) (hs : Z.R H1 s1) : Sr G Z W B H0 O H1 σ ρ s1 := ⟨r.eo.fr f, r.fr.trans f, r.b0, r.o0, hs⟩
/-- a slot that is no own list is set -/
theorem Er.set (e : Er G W B O H σ ρ) {i : Nat} {d : D} {v : V} (hi : i ∉ W) (h : Rep G (fun a => B a ∨ O a) H d v) : Er G W B O H (σ.set i (some v)) (ρ.set i (some d)) where
  len := by simp [e.len]
  pl := fun j x hj hx => by
    by_cases hij : i = j
    · subst hij
      rw [List.getElem?_set] at hx
      simp only [if_true] at hx
      split at hx
      · cases hx
        refine ⟨v, ?_, h⟩
        rw [List.getElem?_set]
        simp only [if_true]
        rw [if_pos (by rw [e.len]; assumption)]
      · cases hx
    · rw [List.getElem?_set_ne hij] at hx
      obtain ⟨u, h1, h2⟩ := e.pl j x hj hx
      exact ⟨u, by rw [List.getElem?_set_ne hij]; exact h1, h2⟩
  ow := by
    obtain ⟨om, h1, h2⟩ := e.ow
    have ne : ∀ j, j ∈ W → i ≠ j := fun j hj z => hi (z ▸ hj)
    refine ⟨om, fun j k x y hj hk hx hy => ?_, fun j x hj hx => ?_⟩
    · rw [List.getElem?_set_ne (ne j hj)] at hx
      rw [List.getElem?_set_ne (ne k hk)] at hy
      exact h1 j k x y hj hk hx hy
    · rw [List.getElem?_set_ne (ne j hj)] at hx
      obtain ⟨ds, vs, a1, a2, a3, a4, a5⟩ := h2 j x hj hx
      exact ⟨ds, vs, a1, by rw [List.getElem?_set_ne (ne j hj)]; exact a2, a3, a4, a5⟩
theorem Eo.set (e : Eo G Z W B O H σ ρ) {i : Nat} {d : D} {v : V} (hi : i ∉ W) (h : Rep G (fun a => B a ∨ O a) H d v) : Eo G Z W B O H (σ.set i (some v)) (ρ.set i (some d)) := ⟨e.er.set hi h, e.bd, e.ol, e.mb, e.ob⟩
end
def tSt {S : Type} (G : Kx) (Z : Zk S) (W : List Nat) (F : Sv S) : TS := fun E σ H =>
  ∃ (B : Bar) (H0 : Hp) (O : Bar) (ρ : Rho) (s : S) (r : Rs) (s' : S), Sr G Z W B H0 O H σ ρ s ∧ F ρ s = some (r, s') ∧
    match r with
    | .nx ρ' => ∀ O' σ' H', Sr G Z W B H0 O' H' σ' ρ' s' → Ch Z O O' H H' → E.nx σ' H'
    | .rt d => ∀ v H', Lc.Fr Z.M H0 H' → Rep G B H' d v → Z.R H' s' → E.rt v H'
    | .bk ρ' => ∀ O' σ' H', Sr G Z W B H0 O' H' σ' ρ' s' → Ch Z O O' H H' → E.bk σ' H'
    | .ct ρ' => ∀ O' σ' H', Sr G Z W B H0 O' H' σ' ρ' s' → Ch Z O O' H H' → E.ct σ' H'
section
variable {S : Type}
def sNx : Sv S := fun ρ s => some (.nx ρ, s)
def sBk : Sv S := fun ρ s => some (.bk ρ, s)
def sCt : Sv S := fun ρ s => some (.ct ρ, s)
def sSeq (F F' : Sv S) : Sv S := fun ρ s => match F ρ s with
  | some (.nx ρ', s') => F' ρ' s'
  | r => r
def sSet (i : Nat) (f : Ev S) : Sv S := fun ρ s => bnd (f ρ s) fun d s => some (.nx (ρ.set i (some d)), s)
def sRet (f : Ev S) : Sv S := fun ρ s => bnd (f ρ s) fun d s => some (.rt d, s)
def sIf (c : Et S) (F F' : Sv S) : Sv S := fun ρ s => bnd (c ρ s) fun b s => if b = true then F ρ s else F' ρ s
def sExpr (f : Ev S) : Sv S := fun ρ s => bnd (f ρ s) fun d s => some (.nx ρ, s)
/-- a target: how it sets slots -/
abbrev Tg := D → Rho → Option Rho
def gNm (i : Nat) : Tg := fun d ρ => some (ρ.set i (some d))
abbrev Tgs := List D → Rho → Option Rho
def gN0 : Tgs := fun ds ρ => match ds with
  | [] => some ρ
  | _ => none
def gC (t : Tg) (u : Tgs) : Tgs := fun ds ρ => match ds with
  | d :: ds => (t d ρ).bind fun ρ => u ds ρ
  | _ => none
def gTp (u : Tgs) : Tg := fun d ρ => match d with
  | .tuple ds => u ds ρ
  | _ => none
def sAsg (f : Ev S) (t : Tg) : Sv S := fun ρ s => bnd (f ρ s) fun d s => match t d ρ with
  | none => none
  | some ρ' => some (.nx ρ', s)
def loopF (t : Tg) (body : Sv S) : List D → Rho → S → Option (Rs × S)
  | [], ρ, s => some (.nx ρ, s)
  | d :: ds, ρ, s => match t d ρ with
    | none => none
    | some ρ1 => match body ρ1 s with
      | some (.nx ρ', s') => loopF t body ds ρ' s'
      | some (.ct ρ', s') => loopF t body ds ρ' s'
      | some (.bk ρ', s') => some (.nx ρ', s')
      | r => r
def sFor (fi : Ea S) (t : Tg) (body : Sv S) : Sv S := fun ρ s => bnd (fi ρ s) fun ds s => loopF t body ds ρ s
def whileF (c : Et S) (body : Sv S) : Nat → Rho → S → Option (Rs × S)
  | 0, _, _ => none
  | n + 1, ρ, s => bnd (c ρ s) fun b s => if b = true then
      match body ρ s with
      | some (.nx ρ', s') => whileF c body n ρ' s'
      | some (.ct ρ', s') => whileF c body n ρ' s'
      | some (.bk ρ', s') => some (.nx ρ', s')
      | r => r
    else some (.nx ρ, s)
/-- a while that ends: n, the turns that it may take at most, told by the slots -/
def sWh (n : Rho → Nat) (c : Et S) (body : Sv S) : Sv S := fun ρ s => whileF c body (n ρ) ρ s
end
section
variable {S : Type} {X : Cx} {G : Kx} {Z : Zk S} {W : List Nat} {f g : Ev S} {F F' : Sv S} {a b c e : Expr} {es : List Expr} {st : Stmt} {rest : List Stmt} {pos p : Pos} {x : Str}
theorem es_nil : PSs X [] (tSt G Z W sNx) := imp_pss pss_nil fun E σ H ⟨B, H0, O, ρ, s, r, s', sr, hf, q⟩ => by
  cases hf
  exact q O σ H sr Ch.refl
theorem es_pass : PS X (.Pass pos) (tSt G Z W sNx) := imp_ps ps_pass fun E σ H ⟨B, H0, O, ρ, s, r, s', sr, hf, q⟩ => by
  cases hf
  exact q O σ H sr Ch.refl
theorem es_break : PS X (.Break pos) (tSt G Z W sBk) := imp_ps ps_break fun E σ H ⟨B, H0, O, ρ, s, r, s', sr, hf, q⟩ => by
  cases hf
  exact q O σ H sr Ch.refl
theorem es_continue : PS X (.Continue pos) (tSt G Z W sCt) := imp_ps ps_continue fun E σ H ⟨B, H0, O, ρ, s, r, s', sr, hf, q⟩ => by
  cases hf
  exact q O σ H sr Ch.refl
theorem es_one (h : PS X st (tSt G Z W F)) : PSs X [st] (tSt G Z W F) := pss_one h
theorem es_cons (h : PS X st (tSt G Z W F)) (h2 : PSs X rest (tSt G Z W F')) : PSs X (st :: rest) (tSt G Z W (sSeq F F')) :=
  imp_pss (pss_cons h h2) fun E σ H ⟨B, H0, O, ρ, s, r, s', sr, hf, q⟩ => by
    unfold sSeq at hf
    split at hf
    · rename_i ρ1 s1 e1
      refine ⟨B, H0, O, ρ, s, .nx ρ1, s1, sr, e1, fun O1 σ1 H1 sr1 ch => ⟨B, H0, O1, ρ1, s1, r, s', sr1, hf, ?_⟩⟩
      cases r with
      | rt d => exact q
      | nx ρ2 => exact fun O2 σ2 H2 sr2 ch2 => q O2 σ2 H2 sr2 (ch.trans ch2)
      | bk ρ2 => exact fun O2 σ2 H2 sr2 ch2 => q O2 σ2 H2 sr2 (ch.trans ch2)
      | ct ρ2 => exact fun O2 σ2 H2 sr2 ch2 => q O2 σ2 H2 sr2 (ch.trans ch2)
    · rename_i hn
      refine ⟨B, H0, O, ρ, s, r, s', sr, hf, ?_⟩
      cases r with
      | rt d => exact q
      | nx ρ2 => exact absurd hf (hn ρ2 s')
      | bk ρ2 => exact q
      | ct ρ2 => exact q
theorem es_set {i : Nat} {pos' : Pos} (hN : X.N.Nodup) (hi : X.N[i]? = some x) (hx : Loc X.env.scope x) (he : PE X e (tEx G Z W f)) (hw : W.contains i = false := by rfl) (hs : swapsWith e (some (.Name x pos')) pos.line X.env = pure false := by rfl) (hf : X.fn x = true ∨ X.env.scope.names.lookup x = some .local := by first | exact .inl rfl | exact .inr rfl | assumption) :
    PS X (.Assign [.Name x pos'] e pos) (tSt G Z W (sSet i f)) :=
  imp_ps (ps_set hN hi hx he hs hf) fun E σ H ⟨B, H0, O, ρ, s, r, s', sr, hf, q⟩ => by
    unfold sSet at hf
    obtain ⟨d, s1, h1, hf⟩ := bnd_some hf
    cases hf
    refine ⟨B, O, ρ, s, d, _, sr.eo, sr.r, h1, fun v H1 f1 r1 R1 => ?_⟩
    have sr1 := sr.step f1 R1
    exact q O _ H1 ⟨sr1.eo.set (by simpa using hw) r1, sr1.fr, sr1.b0, sr1.o0, R1⟩ (Ch.of f1)
theorem es_ret (he : PE X e (tEx G Z [] f)) : PS X (.Return (some e) pos) (tSt G Z W (sRet f)) :=
  imp_ps (ps_ret he) fun E σ H ⟨B, H0, O, ρ, s, r, s', sr, hf, q⟩ => by
    unfold sRet at hf
    obtain ⟨d, s1, h1, hf⟩ := bnd_some hf
    cases hf
    exact ⟨B, fun _ => False, ρ, s, d, _, sr.eo.weak, sr.r, h1, fun v H1 f1 r1 R1 => q v H1 (sr.fr.trans f1) (r1.sub fun a z _ => .inl z) R1⟩
theorem es_if {t : Et S} {body orelse : List Stmt} (hc : PT X c (tEt G Z W t)) (ha : PSs X body (tSt G Z W F)) (hb : PSs X orelse (tSt G Z W F')) : PS X (.If c body orelse pos) (tSt G Z W (sIf t F F')) :=
  imp_ps (ps_if hc ha hb) fun E σ H ⟨B, H0, O, ρ, s, r, s', sr, hf, q⟩ => by
    unfold sIf at hf
    obtain ⟨d, s1, h1, hf⟩ := bnd_some hf
    refine ⟨B, O, ρ, s, d, s1, sr.eo, sr.r, h1, fun H1 f1 R1 => ?_⟩
    have sr1 := sr.step f1 R1
    have go : ∀ F : Sv S, F ρ s1 = some (r, s') → tSt G Z W F E σ H1 := fun F hF => by
      refine ⟨B, H0, O, ρ, s1, r, s', sr1, hF, ?_⟩
      cases r with
      | rt d => exact q
      | nx ρ2 => exact fun O2 σ2 H2 sr2 ch2 => q O2 σ2 H2 sr2 ((Ch.of f1).trans ch2)
      | bk ρ2 => exact fun O2 σ2 H2 sr2 ch2 => q O2 σ2 H2 sr2 ((Ch.of f1).trans ch2)
      | ct ρ2 => exact fun O2 σ2 H2 sr2 ch2 => q O2 σ2 H2 sr2 ((Ch.of f1).trans ch2)
    cases d with
    | true => exact go F hf
    | false => exact go F' hf
theorem es_expr (he : PE X e (tEx G Z [] f)) (hs : swapsWith e none pos.line X.env = pure false := by rfl) : PS X (.Expr e pos) (tSt G Z W (sExpr f)) :=
  imp_ps (ps_expr he hs) fun E σ H ⟨B, H0, O, ρ, s, r, s', sr, hf, q⟩ => by
    unfold sExpr at hf
    obtain ⟨d, s1, h1, hf⟩ := bnd_some hf
    cases hf
    exact ⟨B, fun _ => False, ρ, s, d, _, sr.eo.weak, sr.r, h1, fun v H1 f1 r1 R1 => q O σ H1 (sr.step f1 R1) (Ch.of f1)⟩
/-! targets -/
def tTg (G : Kx) (Z : Zk S) (W vs : List Nat) (t : Tg) : TG := fun v σ H Q => ∃ (B O : Bar) (ρ : Rho) (d : D) (ρ' : Rho), Eo G Z W B O H σ ρ ∧ Rep G (fun a => B a ∨ O a) H d v ∧ t d ρ = some ρ' ∧
  ∀ σ', Eo G Z W B O H σ' ρ' → (σ'.length = σ.length ∧ ∀ i, i ∉ vs → σ'[i]? = σ[i]?) → Q σ' H
def tTgs (G : Kx) (Z : Zk S) (W vs : List Nat) (t : Tgs) : TGs := fun v σ H Q => ∃ (B O : Bar) (ρ : Rho) (d : List D) (ρ' : Rho), Eo G Z W B O H σ ρ ∧ Reps G (fun a => B a ∨ O a) H d v ∧ t d ρ = some ρ' ∧
  ∀ σ', Eo G Z W B O H σ' ρ' → (σ'.length = σ.length ∧ ∀ i, i ∉ vs → σ'[i]? = σ[i]?) → Q σ' H
theorem imp_pg {t t' : TG} (h : PG X e t) (m : ∀ v σ H Q, t' v σ H Q → t v σ H Q) : PG X e t' := ⟨fun pins s σ H v u Q I r q => h.run pins s σ H v u Q I r (m v σ H Q q)⟩
theorem imp_pgs {t t' : TGs} (h : PGs X es t) (m : ∀ v σ H Q, t' v σ H Q → t v σ H Q) : PGs X es t' := ⟨fun pins s σ H v u Q I r q => h.run pins s σ H v u Q I r (m v σ H Q q)⟩
theorem eg_name {i : Nat} (hN : X.N.Nodup) (hi : X.N[i]? = some x) (hx : Loc X.env.scope x) (hw : W.contains i = false := by rfl) (hf : X.fn x = true ∨ X.env.scope.names.lookup x = some .local := by first | exact .inl rfl | exact .inr rfl | assumption) : PG X (.Name x pos) (tTg G Z W [i] (gNm i)) :=
  imp_pg (pg_name hN hi hx hf) fun v σ H Q ⟨B, O, ρ, d, ρ', eo, hr, ht, q⟩ => by
    cases ht
    exact q _ (eo.set (by simpa using hw) hr) ⟨by simp, fun j hj => List.getElem?_set_ne fun z => hj (by simp [z])⟩
theorem egs_nil : PGs X [] (tTgs G Z W [] gN0) := imp_pgs pgs_nil fun v σ H Q ⟨B, O, ρ, d, ρ', eo, hr, ht, q⟩ => by
  unfold gN0 at ht
  split at ht
  · cases ht
    simp only [Reps] at hr
    exact ⟨hr, q σ eo ⟨rfl, fun _ _ => rfl⟩⟩
  · cases ht
theorem egs_cons {t : Tg} {u : Tgs} {vs us : List Nat} (h1 : PG X e (tTg G Z W vs t)) (h2 : PGs X es (tTgs G Z W us u)) (hs : (assignEach (e :: es) X.env).map (·.2) = assign e X.env :: (assignEach es X.env).map (·.2) := by rfl) : PGs X (e :: es) (tTgs G Z W (vs ++ us) (gC t u)) :=
  imp_pgs (pgs_cons h1 h2 hs) fun v σ H Q ⟨B, O, ρ, d, ρ', eo, hr, ht, q⟩ => by
    unfold gC at ht
    split at ht
    · rename_i d ds
      simp only [Reps] at hr
      obtain ⟨w, r, rfl, hr1, hr2⟩ := hr
      cases e1 : t d ρ with
      | none => rw [e1] at ht; cases ht
      | some ρ1 =>
        rw [e1] at ht
        have ht : u ds ρ1 = some ρ' := ht
        refine ⟨w, r, rfl, B, O, ρ, d, ρ1, eo, hr1, e1, fun σ1 eo1 k1 => ⟨B, O, ρ1, ds, ρ', eo1, hr2, ht, fun σ2 eo2 k2 => q σ2 eo2 ⟨k2.1.trans k1.1, fun i hi => ?_⟩⟩⟩
        rw [k2.2 i fun z => hi (List.mem_append_right _ z), k1.2 i fun z => hi (List.mem_append_left _ z)]
    · cases ht
theorem eg_tup {k n : Nat} {u : Tgs} {vs : List Nat} (hc : X.calm = true) (h : PGs X es (tTgs G Z W vs u)) (hl : ∀ ds ρ ρ', u ds ρ = some ρ' → ds.length = n) (hK : X.K = G.K := by rfl)
    (hn : (assignEach es X.env).length = n := by rfl) (hst : (assignEach es X.env).findIdx? (·.1) = none := by rfl) : PG X (.Tuple es k pos) (tTg G Z W vs (gTp u)) :=
  imp_pg (pg_tup hc h hn hst) fun v σ H Q ⟨B, O, ρ, d, ρ', eo, hr, ht, q⟩ => by
    unfold gTp at ht
    split at ht
    · rename_i ds
      obtain ⟨a, xs, rfl, h1, h2⟩ := hr.sqT
      refine ⟨a, xs, rfl, by rw [hK]; exact h1, by rw [h2.len]; exact hl _ _ _ ht, B, O, ρ, ds, ρ', eo, h2, ht, q⟩
    · cases ht
theorem gl0 {ds : List D} {ρ ρ' : Rho} (h : gN0 ds ρ = some ρ') : ds.length = 0 := by
  unfold gN0 at h
  split at h
  · rfl
  · cases h
theorem glC {t : Tg} {u : Tgs} {n : Nat} (hu : ∀ ds ρ ρ', u ds ρ = some ρ' → ds.length = n) {ds : List D} {ρ ρ' : Rho} (h : gC t u ds ρ = some ρ') : ds.length = n + 1 := by
  unfold gC at h
  split at h
  · rename_i d ds
    cases e1 : t d ρ with
    | none => rw [e1] at h; cases h
    | some ρ1 =>
      rw [e1] at h
      have := hu ds ρ1 ρ' h
      simp [this]
  · cases h
theorem es_asg {t : Tg} {vs : List Nat} {tg : Expr} (he : PE X e (tEx G Z W f)) (hg : PG X tg (tTg G Z W vs t)) (h : PS X (.Assign [tg] e pos) (tAsg (tEx G Z W f) (tTg G Z W vs t))) : PS X (.Assign [tg] e pos) (tSt G Z W (sAsg f t)) :=
  imp_ps h fun E σ H ⟨B, H0, O, ρ, s, r, s', sr, hf, q⟩ => by
    unfold sAsg at hf
    obtain ⟨d, s1, h1, hf⟩ := bnd_some hf
    split at hf
    · cases hf
    · rename_i ρ1 e1
      cases hf
      refine ⟨B, O, ρ, s, d, _, sr.eo, sr.r, h1, fun v H1 f1 r1 R1 => ?_⟩
      have sr1 := sr.step f1 R1
      exact ⟨B, O, ρ, d, ρ1, sr1.eo, r1, e1, fun σ2 eo2 _ => q O _ H1 ⟨eo2, sr1.fr, sr1.b0, sr1.o0, R1⟩ (Ch.of f1)⟩
end
end Dl
set_option Elab.async false
set_option linter.all false
set_option maxRecDepth 100000
set_option maxHeartbeats 4000000
namespace Dl
open PySem PySem.Spec PyProof.Rows L2
/-! ### what is walked -/
def Wk (G : Kx) (B : Bar) (H1 : Hp) (J : It) (ds : List D) : Prop := ∃ (Gd : Hp → Prop) (Y : Nat → Hp → V → Hp → Prop), Walk J ds.length Gd Y ∧
  ∀ (B2 : Bar) (H2 : Hp), (∀ a o, H1 a = some o → ¬ B a → H2 a = some o ∧ ¬ B2 a) → (∀ a, B2 a → H2 a ≠ none) → Gd H2 ∧ ∀ i d x H3, ds[i]? = some d → Y i H2 x H3 → Same H2 H3 ∧ Rep G B2 H3 d x
def tIt {S : Type} (G : Kx) (Z : Zk S) (W : List Nat) (f : Ea S) : TI := fun σ H R =>
  ∃ (B O : Bar) (ρ : Rho) (s : S) (d : List D) (s' : S), Eo G Z W B O H σ ρ ∧ Z.R H s ∧ f ρ s = some (d, s') ∧
    ∀ J H', Lc.Fr Z.M H H' → Wk G (fun a => B a ∨ O a) H' J d → Z.R H' s' → R J H'
theorem imp_pi {X : Cx} {tg e : Expr} {t t' : TI} (h : PI X tg e t) (m : ∀ σ H Q, t' σ H Q → t σ H Q) : PI X tg e t' := ⟨fun pins s σ H Q I q => h.run pins s σ H Q I (m σ H Q q)⟩
section
variable {S : Type} {X : Cx} {G : Kx} {Z : Zk S} {W : List Nat} {f g : Ev S} {F F' : Sv S} {a b c e tg : Expr} {es : List Expr} {st : Stmt} {rest : List Stmt} {pos p : Pos} {x : Str}
theorem es_for {iter : Expr} {body : List Stmt} {fi : Ea S} {t : Tg} {vs : List Nat} (hp : PassesOwn (model X.prog X.w) X.A X.env X.xe) (hc : X.calm = true) (hi : PI X tg iter (tIt G Z W fi)) (hg : PG X tg (tTg G Z W vs t)) (hb : PSs X body (tSt G Z W F))
    (hs : ∀ x, foldedSetIterable iter X.env x = pure x := by intro _; rfl) : PS X (.For tg iter body [] pos) (tSt G Z W (sFor fi t F)) :=
  imp_ps (ps_for hp hc hi hg hb hs) fun E σ H ⟨B, H0, O, ρ, s, r, s', sr, hf, q⟩ => by
    unfold sFor at hf
    obtain ⟨ds, s1, h1, hf⟩ := bnd_some hf
    refine ⟨B, O, ρ, s, ds, s1, sr.eo, sr.r, h1, fun J H1 f1 wk R1 => ?_⟩
    obtain ⟨Gd, Y, w, k⟩ := wk
    have sr1 := sr.step f1 R1
    have stay : ∀ {O2 : Bar} {H2 : Hp}, Ch Z O O2 H1 H2 → ∀ a o, H1 a = some o → ¬ (B a ∨ O a) → H2 a = some o ∧ ¬ (B a ∨ O2 a) := fun ch a o e n =>
      ⟨ch.fr.at e fun z => n (z.elim (fun z => .inl (sr.mb a z)) .inr), fun z => n (z.elim .inl fun z => (ch.nw a z).elim .inr fun z => by rw [e] at z; cases z)⟩
    have dom : ∀ {O2 : Bar} {H2 : Hp} {σ2 : L2.St} {ρ2 : Rho} {s2 : S}, Sr G Z W B H0 O2 H2 σ2 ρ2 s2 → ∀ a, (B a ∨ O2 a) → H2 a ≠ none := fun r a z => z.elim (r.eo.bd a) (r.eo.od a)
    refine for_it w (fun i σ2 H2 => ∃ O2 ρ2 s2, Sr G Z W B H0 O2 H2 σ2 ρ2 s2 ∧ Ch Z O O2 H1 H2 ∧ loopF t F (ds.drop i) ρ2 s2 = some (r, s')) ⟨O, ρ, s1, sr1, Ch.refl, hf⟩ ?_ ?_ ?_
    · rintro i σ2 H2 hi ⟨O2, ρ2, s2, sr2, ch, _⟩
      exact (k _ H2 (stay ch) (dom sr2)).1
    · rintro i x σ2 H2 H3 hi ⟨O2, ρ2, s2, sr2, ch, hl⟩ y
      have hd : ds[i]? = some ds[i] := by simp [hi]
      obtain ⟨sm, rp⟩ := (k _ H2 (stay ch) (dom sr2)).2 i ds[i] x H3 hd y
      rw [List.drop_eq_getElem_cons hi] at hl
      unfold loopF at hl
      split at hl
      · cases hl
      · rename_i ρ3 e1
        refine ⟨B, O2, ρ2, ds[i], ρ3, sr2.eo.fr (Lc.Fr.of sm), rp, e1, fun σ3 eo3 _ => ?_⟩
        have sr3 : Sr G Z W B H0 O2 H3 σ3 ρ3 s2 := ⟨eo3, sr2.fr.trans (Lc.Fr.of sm), sr2.b0, sr2.o0, Z.same sr2.r sm⟩
        have ch3 : Ch Z O O2 H1 H3 := ch.trans (Ch.of (Lc.Fr.of sm))
        split at hl
        · rename_i ρ4 s4 e4
          exact ⟨B, H0, O2, ρ3, s2, .nx ρ4, s4, sr3, e4, fun O5 σ5 H5 sr5 ch5 => ⟨O5, ρ4, s4, sr5, ch3.trans ch5, hl⟩⟩
        · rename_i ρ4 s4 e4
          exact ⟨B, H0, O2, ρ3, s2, .ct ρ4, s4, sr3, e4, fun O5 σ5 H5 sr5 ch5 => ⟨O5, ρ4, s4, sr5, ch3.trans ch5, hl⟩⟩
        · rename_i ρ4 s4 e4
          cases hl
          exact ⟨B, H0, O2, ρ3, s2, .bk ρ4, _, sr3, e4, fun O5 σ5 H5 sr5 ch5 => q O5 σ5 H5 sr5 ((Ch.of f1).trans (ch3.trans ch5))⟩
        · rename_i n1 n2 n3
          cases r with
          | rt d => exact ⟨B, H0, O2, ρ3, s2, .rt d, s', sr3, hl, q⟩
          | nx ρ4 => exact absurd hl (n1 ρ4 s')
          | ct ρ4 => exact absurd hl (n2 ρ4 s')
          | bk ρ4 => exact absurd hl (n3 ρ4 s')
    · rintro σ2 H2 ⟨O2, ρ2, s2, sr2, ch, hl⟩
      rw [List.drop_length] at hl
      cases hl
      exact q O2 σ2 H2 sr2 ((Ch.of f1).trans ch)
theorem es_while {body : List Stmt} {t : Et S} {n : Rho → Nat} (hp : PassesOwn (model X.prog X.w) X.A X.env X.xe) (hc : PT X c (tEt G Z W t)) (hb : PSs X body (tSt G Z W F)) : PS X (.While c body [] pos) (tSt G Z W (sWh n t F)) :=
  imp_ps (ps_while hp hc hb) fun E σ H ⟨B, H0, O, ρ, s, r, s', sr, hf, q⟩ => by
    unfold sWh at hf
    refine ⟨fun m σ2 H2 => ∃ O2 ρ2 s2, Sr G Z W B H0 O2 H2 σ2 ρ2 s2 ∧ Ch Z O O2 H H2 ∧ whileF t F m ρ2 s2 = some (r, s'), ⟨n ρ, O, ρ, s, sr, Ch.refl, hf⟩, ?_⟩
    rintro m σ2 H2 ⟨O2, ρ2, s2, sr2, ch, hl⟩
    cases m with
    | zero => cases hl
    | succ m =>
      unfold whileF at hl
      obtain ⟨d, s3, h3, hl⟩ := bnd_some hl
      refine ⟨B, O2, ρ2, s2, d, s3, sr2.eo, sr2.r, h3, fun H3 f3 R3 => ?_⟩
      have sr3 := sr2.step f3 R3
      have ch3 : Ch Z O O2 H H3 := ch.trans (Ch.of f3)
      cases d with
      | false =>
        cases hl
        exact q O2 σ2 H3 sr3 ch3
      | true =>
        rw [if_pos rfl] at hl
        refine ⟨fun σ4 H4 => ∃ O4 ρ4 s4, Sr G Z W B H0 O4 H4 σ4 ρ4 s4 ∧ Ch Z O O4 H H4 ∧ whileF t F m ρ4 s4 = some (r, s'), fun σ4 H4 h4 => ⟨m, Nat.lt_succ_self m, h4⟩, ?_⟩
        split at hl
        · rename_i ρ4 s4 e4
          exact ⟨B, H0, O2, ρ2, s3, .nx ρ4, s4, sr3, e4, fun O5 σ5 H5 sr5 ch5 => ⟨O5, ρ4, s4, sr5, ch3.trans ch5, hl⟩⟩
        · rename_i ρ4 s4 e4
          exact ⟨B, H0, O2, ρ2, s3, .ct ρ4, s4, sr3, e4, fun O5 σ5 H5 sr5 ch5 => ⟨O5, ρ4, s4, sr5, ch3.trans ch5, hl⟩⟩
        · rename_i ρ4 s4 e4
          cases hl
          exact ⟨B, H0, O2, ρ2, s3, .bk ρ4, _, sr3, e4, fun O5 σ5 H5 sr5 ch5 => q O5 σ5 H5 sr5 (ch3.trans ch5)⟩
        · rename_i n1 n2 n3
          cases r with
          | rt d => exact ⟨B, H0, O2, ρ2, s3, .rt d, s', sr3, hl, q⟩
          | nx ρ4 => exact absurd hl (n1 ρ4 s')
          | ct ρ4 => exact absurd hl (n2 ρ4 s')
          | bk ρ4 => exact absurd hl (n3 ρ4 s')
/-! what can be walked -/
def asL : D → Option (List D)
  | .list ds => some ds
  | _ => none
def asT : D → Option (List D)
  | .tuple ds => some ds
  | _ => none
/-- an iterable of an expression's value -/
def iOf (p : D → Option (List D)) (f : Ev S) : Ea S := fun ρ s => bnd (f ρ s) fun d s => put (p d) s
theorem wk_list {B : Bar} {H : Hp} {a : Addr} {vs : List V} {ds : List D} (hK : PySem.W.Frag) (h : H a = some (.lst vs)) (n : ¬ B a) (r : Reps G B H ds vs) : Wk G B H (Itl hK a) ds := by
  refine ⟨fun H => SqL hK H a vs, YAt vs, by rw [← r.len]; exact walk_list, fun B2 H2 st dm => ⟨.inl (.inl (st a _ h n).1), fun i d x H3 hd y => ?_⟩⟩
  obtain ⟨rfl, hx⟩ := y
  obtain ⟨v, h1, h2⟩ := (r.mv (B' := B2) (H' := H3) st).get hd
  rw [hx] at h1
  cases h1
  exact ⟨Same.refl _, h2⟩
theorem wk_tup {B : Bar} {H : Hp} {a : Addr} {vs : List V} {ds : List D} (h : (H a = some (.tup vs) ∧ ¬ B a) ∨ KT G.K a vs) (r : Reps G B H ds vs) : Wk G B H (Itt G.K a) ds := by
  refine ⟨fun H => SqT G.K H a vs, YAt vs, by rw [← r.len]; exact walk_tup, fun B2 H2 st dm => ⟨?_, fun i d x H3 hd y => ?_⟩⟩
  · rcases h with ⟨h, n⟩ | h
    · exact .inl (.inl (st a _ h n).1)
    · exact .inr h
  · obtain ⟨rfl, hx⟩ := y
    obtain ⟨v, h1, h2⟩ := (r.mv (B' := B2) (H' := H3) st).get hd
    rw [hx] at h1
    cases h1
    exact ⟨Same.refl _, h2⟩
theorem ei_list (he : PE X e (tEx G Z W f)) : PI X tg e (tIt G Z W (iOf asL f)) :=
  imp_pi (pi_list he) fun σ H Q ⟨B, O, ρ, s, d, s', eo, hR, hf, q⟩ => by
    unfold iOf at hf
    obtain ⟨y, s1, h1, hf⟩ := bnd_some hf
    obtain ⟨h3, rfl⟩ := put_some hf
    refine ⟨B, O, ρ, s, y, _, eo, hR, h1, fun v H1 f1 r1 R1 => ?_⟩
    unfold asL at h3
    split at h3
    · cases h3
      simp only [Rep] at r1
      obtain ⟨a, vs, rfl, h4, h5, h6⟩ := r1
      exact ⟨a, rfl, ⟨vs, .inl (.inl h4)⟩, q _ H1 f1 (wk_list _ h4 h5 h6) R1⟩
    · cases h3
theorem ei_tup (he : PE X e (tEx G Z W f)) (hK : X.K = G.K := by rfl) : PI X tg e (tIt G Z W (iOf asT f)) :=
  imp_pi (pi_tup he) fun σ H Q ⟨B, O, ρ, s, d, s', eo, hR, hf, q⟩ => by
    unfold iOf at hf
    obtain ⟨y, s1, h1, hf⟩ := bnd_some hf
    obtain ⟨h3, rfl⟩ := put_some hf
    refine ⟨B, O, ρ, s, y, _, eo, hR, h1, fun v H1 f1 r1 R1 => ?_⟩
    unfold asT at h3
    split at h3
    · cases h3
      obtain ⟨a0, vs0, e0, hT, _⟩ := r1.sqT
      simp only [Rep] at r1
      obtain ⟨a, vs, rfl, h4, h6⟩ := r1
      cases e0
      rw [hK]
      exact ⟨_, rfl, ⟨vs0, hT⟩, q _ H1 f1 (wk_tup h4 h6) R1⟩
    · cases h3
def asS : D → Option (List D)
  | .str z => some (z.cps.toList.map fun c => .str ⟨#[c]⟩)
  | _ => none
theorem wk_str {B : Bar} {H : Hp} {z : Str} : Wk G B H (Its z) (z.cps.toList.map fun c => .str ⟨#[c]⟩) := by
  refine ⟨fun _ => True, _, by rw [List.length_map, Array.length_toList]; exact walk_str, fun B2 H2 st dm => ⟨trivial, fun i d x H3 hd y => ?_⟩⟩
  obtain ⟨rfl, c, hc, rfl⟩ := y
  rw [List.getElem?_map, Array.getElem?_toList, hc] at hd
  cases hd
  exact ⟨Same.refl _, by simp only [Rep]⟩
theorem ei_str (he : PE X e (tEx G Z W f)) : PI X tg e (tIt G Z W (iOf asS f)) :=
  imp_pi (pi_str he) fun σ H Q ⟨B, O, ρ, s, d, s', eo, hR, hf, q⟩ => by
    unfold iOf at hf
    obtain ⟨y, s1, h1, hf⟩ := bnd_some hf
    obtain ⟨h3, rfl⟩ := put_some hf
    refine ⟨B, O, ρ, s, y, _, eo, hR, h1, fun v H1 f1 r1 R1 => ?_⟩
    unfold asS at h3
    split at h3
    · cases h3
      simp only [Rep] at r1
      exact ⟨_, r1, q _ H1 f1 wk_str R1⟩
    · cases h3
def rngD (lo : Int) (n : Nat) : List D := (List.range n).map fun (i : Nat) => .int (lo + i)
theorem wk_range {B : Bar} {H : Hp} {lo : Int} {n : Nat} : Wk G B H (Itr lo n) (rngD lo n) := by
  refine ⟨fun _ => True, _, by simp only [rngD, List.length_map, List.length_range]; exact walk_range, fun B2 H2 st dm => ⟨trivial, fun i d x H3 hd y => ?_⟩⟩
  obtain ⟨rfl, rfl⟩ := y
  simp only [rngD, List.getElem?_map] at hd
  by_cases hi : i < n
  · rw [List.getElem?_range hi] at hd
    cases hd
    exact ⟨Same.refl _, by simp only [Rep]⟩
  · rw [List.getElem?_eq_none (by simpa using hi)] at hd
    cases hd
def pR1 : List D → Option (List D)
  | [.int j] => if -(2 ^ 62) ≤ j ∧ j < 2 ^ 62 then some (rngD 0 j.toNat) else none
  | _ => none
def pR2 : List D → Option (List D)
  | [.int i, .int j] => if -(2 ^ 62) ≤ i ∧ i < 2 ^ 62 ∧ -(2 ^ 62) ≤ j ∧ j < 2 ^ 62 then some (rngD i (j - i).toNat) else none
  | _ => none
def iOfA (p : List D → Option (List D)) (f : Ea S) : Ea S := fun ρ s => bnd (f ρ s) fun d s => put (p d) s
theorem ei_range1 {fa : Ea S} (h : PI X tg (.Call (.Name "range" p) [a] [] pos) (iRng1 (tEa G Z W fa))) : PI X tg (.Call (.Name "range" p) [a] [] pos) (tIt G Z W (iOfA pR1 fa)) :=
  imp_pi h fun σ H Q ⟨B, O, ρ, s, d, s', eo, hR, hf, q⟩ => by
    unfold iOfA at hf
    obtain ⟨y, s1, h1, hf⟩ := bnd_some hf
    obtain ⟨h3, rfl⟩ := put_some hf
    refine ⟨B, O, ρ, s, y, _, eo, hR, h1, fun v H1 f1 r1 R1 => ?_⟩
    unfold pR1 at h3
    split at h3
    · split at h3
      · rename_i j hj
        cases h3
        simp only [Reps, Rep] at r1
        obtain ⟨v, r, rfl, rfl, rfl⟩ := r1
        exact ⟨j, rfl, hj.1, hj.2, q _ H1 f1 wk_range R1⟩
      · cases h3
    · cases h3
theorem ei_range2 {fa : Ea S} (h : PI X tg (.Call (.Name "range" p) [a, b] [] pos) (iRng2 (tEa G Z W fa))) : PI X tg (.Call (.Name "range" p) [a, b] [] pos) (tIt G Z W (iOfA pR2 fa)) :=
  imp_pi h fun σ H Q ⟨B, O, ρ, s, d, s', eo, hR, hf, q⟩ => by
    unfold iOfA at hf
    obtain ⟨y, s1, h1, hf⟩ := bnd_some hf
    obtain ⟨h3, rfl⟩ := put_some hf
    refine ⟨B, O, ρ, s, y, _, eo, hR, h1, fun v H1 f1 r1 R1 => ?_⟩
    unfold pR2 at h3
    split at h3
    · split at h3
      · rename_i i j hj
        cases h3
        simp only [Reps, Rep] at r1
        obtain ⟨v, r, rfl, rfl, w, r, rfl, rfl, rfl⟩ := r1
        exact ⟨i, j, rfl, hj, q _ H1 f1 wk_range R1⟩
      · cases h3
    · cases h3
/-! list comprehensions -/
def wipeR (ρ : Rho) : List Nat → Rho
  | [] => ρ
  | v :: vs => (wipeR ρ vs).set v none
def compF (t : Tg) (q : Et S) (f : Ev S) (ρ : Rho) : List D → S → Option (List D × S)
  | [], s => some ([], s)
  | d :: ds, s => match t d ρ with
    | none => none
    | some ρ1 => bnd (q ρ1 s) fun b s => if b = true then bnd (f ρ1 s) fun y s => bnd (compF t q f ρ ds s) fun ys s => some (y :: ys, s) else compF t q f ρ ds s
def lcF (fi : Ea S) (t : Tg) (q : Et S) (f : Ev S) (vs : List Nat) : Ea S := fun ρ s => bnd (fi ρ s) fun ds s => if ds.length ≤ sizeLine then compF t q f (wipeR ρ vs) ds s else none
def cLc (fi : Ea S) (t : Tg) (q : Et S) (f : Ev S) (vs : List Nat) : Ev S := fun ρ s => bnd (lcF fi t q f vs ρ s) fun ds s => some (.list ds, s)
def qYes : Et S := fun _ s => some (true, s)
theorem wipe_get {σ : L2.St} {i : Nat} : ∀ {vs : List Nat}, i ∉ vs → (wipe σ vs)[i]? = σ[i]?
  | [], _ => rfl
  | v :: vs, h => by
    unfold wipe
    rw [List.getElem?_set_ne fun z => h (by simp [z]), wipe_get fun z => h (List.mem_cons_of_mem _ z)]
theorem wipeR_get {ρ : Rho} {i : Nat} {d : D} : ∀ {vs : List Nat}, (wipeR ρ vs)[i]? = some (some d) → ρ[i]? = some (some d) ∧ i ∉ vs
  | [], h => ⟨h, by simp⟩
  | v :: vs, h => by
    unfold wipeR at h
    by_cases hi : v = i
    · subst hi
      rw [List.getElem?_set] at h
      simp only [if_true] at h
      split at h <;> cases h
    · rw [List.getElem?_set_ne hi] at h
      obtain ⟨h1, h2⟩ := wipeR_get h
      exact ⟨h1, fun z => (List.mem_cons.mp z).elim (fun z => hi z.symm) h2⟩
theorem wipeR_len {ρ : Rho} : ∀ {vs : List Nat}, (wipeR ρ vs).length = ρ.length
  | [] => rfl
  | v :: vs => by unfold wipeR; rw [List.length_set, wipeR_len]
theorem wipe_none {σ : L2.St} {i : Nat} : ∀ {vs : List Nat}, i ∈ vs → i < σ.length → (wipe σ vs)[i]? = some none
  | v :: vs, h, hl => by
    unfold wipe
    by_cases hi : v = i
    · subst hi
      rw [List.getElem?_set_self (by rw [wipe_length]; exact hl)]
    · rw [List.getElem?_set_ne hi]
      exact wipe_none ((List.mem_cons.mp h).elim (fun z => absurd z.symm hi) id) hl
theorem Eo.wipe {B O : Bar} {H : Hp} {σ : L2.St} {ρ : Rho} (e : Eo G Z W B O H σ ρ) (vs : List Nat) : Eo G Z W B O H (L2.wipe σ vs) (wipeR ρ vs) where
  er := by
    refine ⟨by rw [wipe_length, wipeR_len]; exact e.er.len, fun i d hi hd => ?_, ?_⟩
    · obtain ⟨h1, h2⟩ := wipeR_get hd
      rw [wipe_get h2]
      exact e.er.pl i d hi h1
    · obtain ⟨om, h1, h2⟩ := e.er.ow
      refine ⟨om, fun i j d d' hi hj hd hd' => h1 i j d d' hi hj (wipeR_get hd).1 (wipeR_get hd').1, fun i d hi hd => ?_⟩
      obtain ⟨h3, h4⟩ := wipeR_get hd
      rw [wipe_get h4]
      exact h2 i d hi h3
  bd := e.bd
  ol := e.ol
  mb := e.mb
  ob := e.ob
theorem wipe_ext {σ σ2 : L2.St} {us vs : List Nat} (hv : ∀ i ∈ us, i ∈ vs) (hl : σ2.length = σ.length) (k : ∀ i, i ∉ us → σ2[i]? = (wipe σ vs)[i]?) : wipe σ2 vs = wipe σ vs := by
  apply List.ext_getElem?
  intro i
  by_cases hi : i ∈ vs
  · by_cases hl2 : i < σ.length
    · rw [wipe_none hi (by omega), wipe_none hi hl2]
    · rw [List.getElem?_eq_none (by rw [wipe_length]; omega), List.getElem?_eq_none (by rw [wipe_length]; omega)]
  · rw [wipe_get hi, k i fun z => hi (hv i z)]
theorem Eo.bar {B O : Bar} {H : Hp} {σ : L2.St} {ρ : Rho} (e : Eo G Z W B O H σ ρ) {L : Addr} (h : H L = none) (o : HO) : Eo G Z W (fun a => B a ∨ a = L) O (upd H L o) σ ρ := by
  have k : ∀ a u, H a = some u → ¬ (B a ∨ O a) → upd H L o a = some u ∧ ¬ ((B a ∨ a = L) ∨ O a) := fun a u q n => by
    have ne : a ≠ L := ne_of_none q h
    exact ⟨by rw [upd_ne ne]; exact q, fun z => n (z.elim (fun z => z.elim .inl fun z => absurd z ne) .inr)⟩
  refine ⟨⟨e.er.len, fun i d hi hd => ?_, ?_⟩, fun a z => ?_, fun a z => ?_, fun a z => .inl (e.mb a z), fun a z y => ?_⟩
  · obtain ⟨v, h1, h2⟩ := e.er.pl i d hi hd
    exact ⟨v, h1, h2.mv k⟩
  · obtain ⟨om, h1, h2⟩ := e.er.ow
    refine ⟨om, h1, fun i d hi hd => ?_⟩
    obtain ⟨ds, vs, a1, a2, a3, a4, a5⟩ := h2 i d hi hd
    exact ⟨ds, vs, a1, a2, a3, by rw [upd_ne (ne_of_none a4 h)]; exact a4, a5.mv k⟩
  · rcases z with z | rfl
    · by_cases hq : a = L
      · subst hq; rw [upd_same]; simp
      · rw [upd_ne hq]; exact e.bd a z
    · rw [upd_same]; simp
  · obtain ⟨vs, hv⟩ := e.ol a z
    exact ⟨vs, by rw [upd_ne (ne_of_none hv h)]; exact hv⟩
  · rcases y with y | rfl
    · exact e.ob a z y
    · exact e.od a z h
theorem Eo.upd {B O : Bar} {H : Hp} {σ : L2.St} {ρ : Rho} (e : Eo G Z W B O H σ ρ) {L : Addr} (h : B L) (o : HO) : Eo G Z W B O (upd H L o) σ ρ := by
  have k : ∀ a u, H a = some u → ¬ (B a ∨ O a) → L2.upd H L o a = some u ∧ ¬ (B a ∨ O a) := fun a u q n => ⟨by rw [upd_ne fun z => n (.inl (by rw [z]; exact h))]; exact q, n⟩
  have nO : ∀ a, O a → a ≠ L := fun a z y => e.ob a z (by rw [y]; exact h)
  refine ⟨⟨e.er.len, fun i d hi hd => ?_, ?_⟩, fun a z => ?_, fun a z => ?_, e.mb, e.ob⟩
  · obtain ⟨v, h1, h2⟩ := e.er.pl i d hi hd
    exact ⟨v, h1, h2.mv k⟩
  · obtain ⟨om, h1, h2⟩ := e.er.ow
    refine ⟨om, h1, fun i d hi hd => ?_⟩
    obtain ⟨ds, vs, a1, a2, a3, a4, a5⟩ := h2 i d hi hd
    exact ⟨ds, vs, a1, a2, a3, by rw [upd_ne (nO _ a3)]; exact a4, a5.mv k⟩
  · by_cases hq : a = L
    · subst hq; rw [upd_same]; simp
    · rw [upd_ne hq]; exact e.bd a z
  · obtain ⟨vs, hv⟩ := e.ol a z
    exact ⟨vs, by rw [upd_ne (nO a z)]; exact hv⟩
/-- the core: a comprehension makes a new list -/
theorem lc_new {fi : Ea S} {t : Tg} {us vs : List Nat} {q : Et S} {tt : TT} {B O : Bar} {ρ : Rho} {s s' : S} {ds : List D} {σ : L2.St} {H : Hp} {Q : VK} (hu : ∀ i ∈ us, i ∈ vs) (hq : ∀ σ H Q, tEt G Z W q σ H Q → tt σ H Q) (eo : Eo G Z W B O H σ ρ) (hR : Z.R H s) (hf : lcF fi t q f vs ρ s = some (ds, s'))
    (h : ∀ p vs H', H p = none → Lc.Fr Z.M H H' → H' p = some (.lst vs) → Reps G (fun a => (B a ∨ a = p) ∨ O a) H' ds vs → Z.R H' s' → Q (.ref p) H') :
    tLc (tIt G Z W fi) (tTg G Z W us t) tt (tEx G Z W f) vs σ H Q := by
  unfold lcF at hf
  obtain ⟨xs, s1, h1, hf⟩ := bnd_some hf
  split at hf
  · rename_i hsz
    refine ⟨B, O, ρ, s, xs, s1, eo, hR, h1, fun J H1 f1 wk R1 => fun L hL => ?_⟩
    obtain ⟨Gd, Y, w, k⟩ := wk
    have eo1 := eo.fr f1
    have nL : ¬ (B L ∨ O L) := eo1.new hL
    have nM : ¬ Z.M L := fun z => nL (.inl (eo.mb L z))
    have hL0 : H L = none := f1.free hL
    have dm : ∀ {H2 : Hp}, Eo G Z W (fun a => B a ∨ a = L) O H2 σ ρ → ∀ a, ((B a ∨ a = L) ∨ O a) → H2 a ≠ none := fun e2 a z => z.elim (e2.bd a) (e2.od a)
    have st : ∀ {H2 : Hp}, Lc.Fr Z.M H1 H2 → ∀ a o, H1 a = some o → ¬ (B a ∨ O a) → H2 a = some o ∧ ¬ ((B a ∨ a = L) ∨ O a) := fun f2 a o e n =>
      ⟨f2.at e fun z => n (.inl (eo.mb a z)), fun z => n (z.elim (fun z => z.elim .inl fun z => absurd z (ne_of_none e hL)) .inr)⟩
    refine lc_it w (fun i H2 => ∃ acc as rest s2, Eo G Z W (fun a => B a ∨ a = L) O H2 σ ρ ∧ Lc.Fr Z.M H1 H2 ∧ H2 L = some (.lst as) ∧ Reps G (fun a => (B a ∨ a = L) ∨ O a) H2 acc as ∧ acc.length ≤ i ∧ Z.R H2 s2 ∧ compF t q f (wipeR ρ vs) (xs.drop i) s2 = some (rest, s') ∧ acc ++ rest = ds) ?_ ?_ ?_ ?_
    · exact ⟨[], [], ds, s1, eo1.bar hL _, Lc.Fr.new hL, upd_same, Reps.nil, Nat.le_refl _, Z.same R1 (Lc.same_new hL), hf, rfl⟩
    · rintro i H2 hi ⟨acc, as, rest, s2, eo2, f2, _⟩
      exact (k _ H2 (st f2) (dm eo2)).1
    · rintro i x H2 H3 hi ⟨acc, as, rest, s2, eo2, f2, hLs, ra, hn, R2, hc, hds⟩ y
      have hd : xs[i]? = some xs[i] := by simp [hi]
      obtain ⟨sm, rp⟩ := (k _ H2 (st f2) (dm eo2)).2 i xs[i] x H3 hd y
      rw [List.drop_eq_getElem_cons hi] at hc
      unfold compF at hc
      split at hc
      · cases hc
      · rename_i ρ3 e1
        have eo3 := (eo2.fr (Lc.Fr.of sm)).wipe vs
        refine ⟨_, O, wipeR ρ vs, xs[i], ρ3, eo3, rp, e1, fun σ3 eo4 kk => ⟨wipe_ext hu (by rw [kk.1, wipe_length]) kk.2, ?_⟩⟩
        obtain ⟨b, s3, h3, hc⟩ := bnd_some hc
        refine hq _ _ _ ⟨_, O, ρ3, s2, b, s3, eo4, Z.same R2 sm, h3, fun H4 f4 R4 => ?_⟩
        have f24 : Lc.Fr Z.M H2 H4 := (Lc.Fr.of sm).trans f4
        have mb : ∀ a, Z.M a → (B a ∨ a = L) ∨ O a := fun a z => .inl (.inl (eo.mb a z))
        have hL4 : H4 L = some (.lst as) := f24.at hLs nM
        cases b with
        | false =>
          rw [if_neg (by simp)] at hc
          refine iteF ?_
          exact ⟨acc, as, rest, s3, eo2.fr f24, f2.trans f24, hL4, ra.fr f24 mb, by omega, R4, hc, hds⟩
        | true =>
          rw [if_pos rfl] at hc
          refine iteT ?_
          obtain ⟨y1, s4, h4, hc⟩ := bnd_some hc
          obtain ⟨ys, s5, h5, hc⟩ := bnd_some hc
          cases hc
          refine ⟨_, O, ρ3, s3, y1, s4, eo4.fr f4, R4, h4, fun u H5 f5 r5 R5 => ?_⟩
          have f25 := f24.trans f5
          have hL5 : H5 L = some (.lst as) := f25.at hLs nM
          have ra5 := ra.fr f25 mb
          refine ⟨as, hL5, by have := ra.len; omega, ?_⟩
          have up : ∀ a o, H5 a = some o → ¬ ((B a ∨ a = L) ∨ O a) → L2.upd H5 L (.lst (as ++ [u])) a = some o ∧ ¬ ((B a ∨ a = L) ∨ O a) := fun a o e n => ⟨by rw [upd_ne fun z => n (.inl (.inr z))]; exact e, n⟩
          refine ⟨acc ++ [y1], as ++ [u], ys, s4, (eo2.fr f25).upd (.inr rfl) _, Lc.Fr.own (f2.trans f25) hL, upd_same, (ra5.append (Reps.cons r5 Reps.nil)).mv up, by simp; omega, Z.loc H5 _ s4 R5 fun a z => upd_ne fun e => nM (by rw [← e]; exact z), h5, by simpa using hds⟩
    · rintro H2 ⟨acc, as, rest, s2, eo2, f2, hLs, ra, hn, R2, hc, hds⟩
      rw [List.drop_length] at hc
      cases hc
      rw [List.append_nil] at hds
      subst hds
      exact h L as H2 hL0 (f1.trans f2) hLs ra R2
  · cases hf
end
end Dl
set_option Elab.async false
set_option linter.all false
set_option maxRecDepth 100000
set_option maxHeartbeats 4000000
namespace Dl
open PySem PySem.Spec PyProof.Rows L2
/-! ### new lists, and slots that own them -/
/-- a reading whose value is a new list -/
def tNl {S : Type} (G : Kx) (Z : Zk S) (W : List Nat) (f : Ea S) : TE := fun σ H Q =>
  ∃ (B O : Bar) (ρ : Rho) (s : S) (d : List D) (s' : S), Eo G Z W B O H σ ρ ∧ Z.R H s ∧ f ρ s = some (d, s') ∧
    ∀ p vs H', H p = none → Lc.Fr Z.M H H' → H' p = some (.lst vs) → Reps G (fun a => (B a ∨ a = p) ∨ O a) H' d vs → Z.R H' s' → Q (.ref p) H'
def cNl {S : Type} (f : Ea S) : Ev S := fun ρ s => bnd (f ρ s) fun ds s => some (.list ds, s)
section
variable {S : Type} {X : Cx} {G : Kx} {Z : Zk S} {W : List Nat} {f g : Ev S} {fa : Ea S} {F F' : Sv S} {a b c e tg : Expr} {es : List Expr} {st : Stmt} {rest : List Stmt} {pos p : Pos} {x : Str}
theorem ex_nl (h : PE X e (tNl G Z W fa)) : PE X e (tEx G Z W (cNl fa)) :=
  imp_pe h fun σ H Q ⟨B, O, ρ, s, d, s', eo, hR, hf, q⟩ => by
    unfold cNl at hf
    obtain ⟨y, s1, h1, hf⟩ := bnd_some hf
    cases hf
    refine ⟨B, O, ρ, s, y, _, eo, hR, h1, fun p vs H' hp f1 h2 h3 R1 => q _ H' f1 ?_ R1⟩
    simp only [Rep]
    exact ⟨p, vs, rfl, h2, eo.new hp, h3.sub fun a z _ => z.elim (fun z => .inl (.inl z)) .inr⟩
theorem nl_lc {iter : Expr} {ifs : List Expr} {scope : Scope} {own : List (Str × Nat)} {fi : Ea S} {t : Tg} {us : List Nat} {q : Et S} {tt : TT} (hc : X.calm = true) (hN : X.N.Nodup) (hi : PI X tg iter (tIt G Z W fi)) (ok : BlkOk X.N X.env.scope scope own)
    (hg : ∀ (s : Shared) (H : Hp) (C : Addr) (cl : List (Str × Addr)) (fp : List Addr), PG (X.blk s H scope (compEnvC scope cl C X.env) fp) tg (tTg G Z W us t)) (ht : ∀ (s : Shared) (H : Hp) (C : Addr) (cl : List (Str × Addr)) (fp : List Addr), PTs (X.blk s H scope (compEnvC scope cl C X.env) fp) ifs tt)
    (hq : ∀ σ H Q, tEt G Z W q σ H Q → tt σ H Q)
    (he : ∀ (s : Shared) (H : Hp) (C : Addr) (cl : List (Str × Addr)) (fp : List Addr), PE (X.blk s H scope (compEnvC scope cl C X.env) fp) e (tEx G Z W f)) (hu : ∀ i ∈ us, i ∈ own.map (·.2) := by decide) (hs : ∀ x, foldedSetIterable iter X.env x = pure x := by intro _; rfl) :
    PE X (.ListComp e [⟨tg, iter, ifs, 0⟩] scope pos) (tNl G Z W (lcF fi t q f (own.map (·.2)))) :=
  imp_pe (pe_lc hc hN hi ok hg ht he hs) fun σ H Q ⟨B, O, ρ, s, d, s', eo, hR, hf, k⟩ => lc_new hu hq eo hR hf k
theorem yes_of {σ : L2.St} {H : Hp} {Q : Bool → Hp → Prop} (h : tEt G Z W qYes σ H Q) : tYes σ H Q := by
  obtain ⟨B, O, ρ, s, d, s', eo, hR, hf, q⟩ := h
  cases hf
  exact q H (Lc.Fr.refl H) hR
/-- name = [..], the name no own list -/
theorem es_setLc {i : Nat} {y : Str} {py : Pos} {iter : Expr} {ifs : List Expr} {scope : Scope} {own : List (Str × Nat)} {spos : Pos} {fi : Ea S} {t : Tg} {us : List Nat} {q : Et S} {tt : TT} (hc : X.calm = true) (hN : X.N.Nodup) (hy : X.N[i]? = some y) (hyl : X.env.scope.names.lookup y = some .local)
    (hsw : swapsWith (.ListComp e [⟨tg, iter, ifs, 0⟩] scope pos) (some (.Name y py)) spos.line X.env = pure true) (hi : PI X tg iter (tIt G Z W fi)) (ok : BlkOk X.N X.env.scope scope own)
    (hg : ∀ (s : Shared) (H : Hp) (C : Addr) (cl : List (Str × Addr)) (fp : List Addr), PG (X.blk s H scope (compEnvC scope cl C X.env) fp) tg (tTg G Z W us t)) (ht : ∀ (s : Shared) (H : Hp) (C : Addr) (cl : List (Str × Addr)) (fp : List Addr), PTs (X.blk s H scope (compEnvC scope cl C X.env) fp) ifs tt)
    (hq : ∀ σ H Q, tEt G Z W q σ H Q → tt σ H Q)
    (he : ∀ (s : Shared) (H : Hp) (C : Addr) (cl : List (Str × Addr)) (fp : List Addr), PE (X.blk s H scope (compEnvC scope cl C X.env) fp) e (tEx G Z W f)) (hw : W.contains i = false := by rfl) (hu : ∀ i ∈ us, i ∈ own.map (·.2) := by decide) (hs : ∀ x, foldedSetIterable iter X.env x = pure x := by intro _; rfl) :
    PS X (.Assign [.Name y py] (.ListComp e [⟨tg, iter, ifs, 0⟩] scope pos) spos) (tSt G Z W (sSet i (cNl (lcF fi t q f (own.map (·.2)))))) :=
  imp_ps (ps_setLc hc hN hy hyl hsw hi ok hg ht he hs) fun E σ H ⟨B, H0, O, ρ, s, r, s', sr, hf, k⟩ => by
    unfold sSet cNl at hf
    obtain ⟨d, s1, h1, hf⟩ := bnd_some hf
    obtain ⟨y, s2, h2, h1⟩ := bnd_some h1
    cases h1
    cases hf
    refine lc_new hu hq sr.eo sr.r h2 fun p vs H' hp f1 h2 h3 R1 => ?_
    have sr1 := sr.step f1 R1
    refine k O _ H' ⟨sr1.eo.set (by simpa using hw) ?_, sr1.fr, sr1.b0, sr1.o0, R1⟩ (Ch.of f1)
    simp only [Rep]
    exact ⟨p, vs, rfl, h2, sr.eo.new hp, h3.sub fun a z _ => z.elim (fun z => .inl (.inl z)) .inr⟩
/-- an own slot is set to a new list -/
theorem Sr.own {B O : Bar} {H0 H H' : Hp} {σ : L2.St} {ρ : Rho} {s s' : S} {P : Addr} {vs : List V} {ds : List D} {i : Nat} (sr : Sr G Z W B H0 O H σ ρ s) (hi : i ∈ W) (hp : H P = none) (f1 : Lc.Fr Z.M H H') (h1 : H' P = some (.lst vs))
    (h2 : Reps G (fun a => (B a ∨ a = P) ∨ O a) H' ds vs) (R1 : Z.R H' s') : Sr G Z W B H0 (fun a => O a ∨ a = P) H' (σ.set i (some (.ref P))) (ρ.set i (some (.list ds))) s' ∧ Ch Z O (fun a => O a ∨ a = P) H H' := by
  have eo1 := sr.eo.fr f1
  have nB : ¬ B P := fun z => sr.eo.bd P z hp
  have k : ∀ a o, H a = some o → ¬ (B a ∨ O a) → H' a = some o ∧ ¬ (B a ∨ (O a ∨ a = P)) := fun a o e n =>
    ⟨f1.at e fun z => n (.inl (sr.mb a z)), fun z => n (z.elim .inl fun z => z.elim .inr fun z => absurd z (ne_of_none e hp))⟩
  obtain ⟨om, o1, o2⟩ := sr.eo.er.ow
  refine ⟨⟨⟨?_, eo1.bd, fun a z => ?_, sr.mb, fun a z => ?_⟩, sr.fr.trans f1, sr.b0, fun a z => ?_, R1⟩, ⟨fun b o e => ?_, fun _ z => .inl z, fun a z => ?_⟩⟩
  · have base : Er G W B (fun a => O a ∨ a = P) H' (σ.set i (some (.ref P))) (ρ.set i (some (.list ds))) := by
      have e' : Er G W B O H' σ ρ := eo1.er
      -- the old slots, by what they were in H
      refine ⟨by simp [e'.len], fun j d hj hd => ?_, ?_⟩
      · have ne : i ≠ j := fun z => hj (z ▸ hi)
        rw [List.getElem?_set_ne ne] at hd
        obtain ⟨v, h3, h4⟩ := sr.eo.er.pl j d hj hd
        exact ⟨v, by rw [List.getElem?_set_ne ne]; exact h3, h4.mv k⟩
      · have at_ : ∀ j d, (ρ.set i (some (.list ds)))[j]? = some (some d) → (j = i ∧ i < ρ.length ∧ d = .list ds) ∨ (j ≠ i ∧ ρ[j]? = some (some d)) := fun j d hd => by
          by_cases hij : i = j
          · subst hij
            rw [List.getElem?_set] at hd
            simp only [if_true] at hd
            split at hd
            · cases hd
              exact .inl ⟨rfl, by assumption, rfl⟩
            · cases hd
          · rw [List.getElem?_set_ne hij] at hd
            exact .inr ⟨Ne.symm hij, hd⟩
        have old : ∀ j d, j ∈ W → ρ[j]? = some (some d) → om j ≠ P := fun j d hj hd z => by
          obtain ⟨ds', vs', a1, a2, a3, a4, a5⟩ := o2 j d hj hd
          rw [z, hp] at a4
          cases a4
        refine ⟨fun j => if j = i then P else om j, fun j m d d' hj hm hd hd' hh => ?_, fun j d hj hd => ?_⟩
        · rcases at_ j d hd with ⟨z1, z2, z3⟩ | ⟨z1, z2⟩
          · rcases at_ m d' hd' with ⟨y1, y2, y3⟩ | ⟨y1, y2⟩
            · rw [z1, y1]
            · simp only [if_pos z1, if_neg y1] at hh
              exact absurd hh.symm (old m d' hm y2)
          · rcases at_ m d' hd' with ⟨y1, y2, y3⟩ | ⟨y1, y2⟩
            · simp only [if_neg z1, if_pos y1] at hh
              exact absurd hh (old j d hj z2)
            · simp only [if_neg z1, if_neg y1] at hh
              exact o1 j m d d' hj hm z2 y2 hh
        · rcases at_ j d hd with ⟨rfl, z2, rfl⟩ | ⟨z1, z2⟩
          · simp only [if_true]
            refine ⟨ds, vs, rfl, ?_, (by first | exact .inr rfl | exact .inr trivial), h1, h2.sub fun a z _ => z.elim (fun z => .inl (.inl z)) fun z => z.elim .inr fun z => .inl (.inr z)⟩
            rw [List.getElem?_set_self (by rw [e'.len]; exact z2)]
          · simp only [if_neg z1]
            obtain ⟨ds', vs', a1, a2, a3, a4, a5⟩ := o2 j d hj z2
            exact ⟨ds', vs', a1, by rw [List.getElem?_set_ne (Ne.symm z1)]; exact a2, .inl a3, f1.at a4 fun z => sr.eo.ob _ a3 (sr.mb _ z), a5.mv k⟩
    exact base
  · rcases z with z | rfl
    · exact eo1.ol a z
    · exact ⟨vs, h1⟩
  · rcases z with z | rfl
    · exact sr.eo.ob a z
    · exact nB
  · rcases z with z | rfl
    · exact sr.o0 a z
    · exact sr.fr.free hp
  · obtain ⟨o', q1, q2⟩ := f1 b o e
    exact ⟨o', q1, fun n => q2 fun z => n (.inl z)⟩
  · rcases z with z | rfl
    · exact .inl z
    · exact .inr hp
def sOwn (i : Nat) (f : Ea S) : Sv S := fun ρ s => bnd (f ρ s) fun ds s => some (.nx (ρ.set i (some (.list ds))), s)
theorem es_own {i : Nat} {pos' : Pos} (hN : X.N.Nodup) (hi : X.N[i]? = some x) (hx : Loc X.env.scope x) (he : PE X e (tNl G Z W fa)) (hw : W.contains i = true := by rfl) (hs : swapsWith e (some (.Name x pos')) pos.line X.env = pure false := by rfl) (hf : X.fn x = true ∨ X.env.scope.names.lookup x = some .local := by first | exact .inl rfl | exact .inr rfl | assumption) :
    PS X (.Assign [.Name x pos'] e pos) (tSt G Z W (sOwn i fa)) :=
  imp_ps (ps_set hN hi hx he hs hf) fun E σ H ⟨B, H0, O, ρ, s, r, s', sr, hf, q⟩ => by
    unfold sOwn at hf
    obtain ⟨d, s1, h1, hf⟩ := bnd_some hf
    cases hf
    refine ⟨B, O, ρ, s, d, _, sr.eo, sr.r, h1, fun p vs H' hp f1 h2 h3 R1 => ?_⟩
    obtain ⟨sr2, ch2⟩ := sr.own (i := i) (by simpa using hw) hp f1 h2 h3 R1
    exact q _ _ H' sr2 ch2
theorem es_ownLc {i : Nat} {y : Str} {py : Pos} {iter : Expr} {ifs : List Expr} {scope : Scope} {own : List (Str × Nat)} {spos : Pos} {fi : Ea S} {t : Tg} {us : List Nat} {q : Et S} {tt : TT} (hc : X.calm = true) (hN : X.N.Nodup) (hy : X.N[i]? = some y) (hyl : X.env.scope.names.lookup y = some .local)
    (hsw : swapsWith (.ListComp e [⟨tg, iter, ifs, 0⟩] scope pos) (some (.Name y py)) spos.line X.env = pure true) (hi : PI X tg iter (tIt G Z W fi)) (ok : BlkOk X.N X.env.scope scope own)
    (hg : ∀ (s : Shared) (H : Hp) (C : Addr) (cl : List (Str × Addr)) (fp : List Addr), PG (X.blk s H scope (compEnvC scope cl C X.env) fp) tg (tTg G Z W us t)) (ht : ∀ (s : Shared) (H : Hp) (C : Addr) (cl : List (Str × Addr)) (fp : List Addr), PTs (X.blk s H scope (compEnvC scope cl C X.env) fp) ifs tt)
    (hq : ∀ σ H Q, tEt G Z W q σ H Q → tt σ H Q)
    (he : ∀ (s : Shared) (H : Hp) (C : Addr) (cl : List (Str × Addr)) (fp : List Addr), PE (X.blk s H scope (compEnvC scope cl C X.env) fp) e (tEx G Z W f)) (hw : W.contains i = true := by rfl) (hu : ∀ i ∈ us, i ∈ own.map (·.2) := by decide) (hs : ∀ x, foldedSetIterable iter X.env x = pure x := by intro _; rfl) :
    PS X (.Assign [.Name y py] (.ListComp e [⟨tg, iter, ifs, 0⟩] scope pos) spos) (tSt G Z W (sOwn i (lcF fi t q f (own.map (·.2))))) :=
  imp_ps (ps_setLc hc hN hy hyl hsw hi ok hg ht he hs) fun E σ H ⟨B, H0, O, ρ, s, r, s', sr, hf, k⟩ => by
    unfold sOwn at hf
    obtain ⟨d, s1, h1, hf⟩ := bnd_some hf
    cases hf
    refine lc_new hu hq sr.eo sr.r h1 fun p vs H' hp f1 h2 h3 R1 => ?_
    obtain ⟨sr2, ch2⟩ := sr.own (i := i) (by simpa using hw) hp f1 h2 h3 R1
    exact k _ _ H' sr2 ch2
/-- the own list of slot i becomes another one -/
theorem Sr.mut {B O : Bar} {H0 H : Hp} {σ : L2.St} {ρ : Rho} {s : S} {i : Nat} {d : D} (sr : Sr G Z W B H0 O H σ ρ s) (hi : i ∈ W) (hd : ρ[i]? = some (some d)) : ∃ P ds vs, d = .list ds ∧ σ[i]? = some (some (.ref P)) ∧ H P = some (.lst vs) ∧ Reps G (fun a => B a ∨ O a) H ds vs ∧ O P ∧
    ∀ es us, Reps G (fun a => B a ∨ O a) H es us → Sr G Z W B H0 O (upd H P (.lst us)) σ (ρ.set i (some (.list es))) s ∧ Ch Z O O H (upd H P (.lst us)) := by
  obtain ⟨om, o1, o2⟩ := sr.eo.er.ow
  obtain ⟨ds, vs, a1, a2, a3, a4, a5⟩ := o2 i d hi hd
  refine ⟨om i, ds, vs, a1, a2, a4, a5, a3, fun es us hr => ?_⟩
  have k : ∀ a o, H a = some o → ¬ (B a ∨ O a) → upd H (om i) (.lst us) a = some o ∧ ¬ (B a ∨ O a) := fun a o e n => ⟨by rw [upd_ne fun z => n (.inr (by rw [z]; exact a3))]; exact e, n⟩
  have nM : ∀ a, Z.M a → a ≠ om i := fun a z y => sr.eo.ob _ a3 (sr.mb _ (by rw [← y]; exact z))
  have hl : i < ρ.length := by
    rcases Nat.lt_or_ge i ρ.length with h | h
    · exact h
    · rw [List.getElem?_eq_none h] at hd; cases hd
  refine ⟨⟨⟨⟨by simp [sr.eo.er.len], fun j d' hj hd' => ?_, om, ?_, ?_⟩, fun a z => ?_, fun a z => ?_, sr.mb, sr.eo.ob⟩, ?_, sr.b0, sr.o0, Z.loc H _ s sr.r fun a z => upd_ne (nM a z)⟩, ⟨Lc.Fr.mut (.inr a3), fun _ z => z, fun _ z => .inl z⟩⟩
  · have ne : i ≠ j := fun z => hj (z ▸ hi)
    rw [List.getElem?_set_ne ne] at hd'
    obtain ⟨v, h3, h4⟩ := sr.eo.er.pl j d' hj hd'
    exact ⟨v, h3, h4.mv k⟩
  · intro j m e1 e2 hj hm h1 h2 hh
    have g : ∀ j e, (ρ.set i (some (.list es)))[j]? = some (some e) → ∃ e', ρ[j]? = some (some e') := fun j e h => by
      by_cases hij : i = j
      · subst hij; exact ⟨d, hd⟩
      · rw [List.getElem?_set_ne hij] at h; exact ⟨e, h⟩
    obtain ⟨e1', h1⟩ := g j e1 h1
    obtain ⟨e2', h2⟩ := g m e2 h2
    exact o1 j m e1' e2' hj hm h1 h2 hh
  · intro j e hj h
    by_cases hij : i = j
    · subst hij
      rw [List.getElem?_set_self hl] at h
      cases h
      exact ⟨es, us, rfl, a2, a3, upd_same, hr.mv k⟩
    · rw [List.getElem?_set_ne hij] at h
      obtain ⟨ds', vs', b1, b2, b3, b4, b5⟩ := o2 j e hj h
      have ne : om j ≠ om i := fun z => hij (o1 j i e d hj hi h hd z).symm
      exact ⟨ds', vs', b1, b2, b3, by rw [upd_ne ne]; exact b4, b5.mv k⟩
  · by_cases hq : a = om i
    · subst hq; rw [upd_same]; simp
    · rw [upd_ne hq]; exact sr.eo.bd a z
  · by_cases hq : a = om i
    · subst hq; exact ⟨us, upd_same⟩
    · obtain ⟨ws, hw⟩ := sr.eo.ol a z
      exact ⟨ws, by rw [upd_ne hq]; exact hw⟩
  · exact Lc.Fr.own sr.fr (sr.o0 _ a3)
def sApp (i : Nat) (f : Ev S) : Sv S := fun ρ s => match ρ[i]? with
  | some (some (.list ds)) => bnd (f ρ s) fun d s => if ds.length < sizeLine then some (.nx (ρ.set i (some (.list (ds ++ [d])))), s) else none
  | _ => none
theorem es_app {i : Nat} {apos cpos : Pos} {px : Pos} (hN : X.N[i]? = some x) (hv : Vis X.env.scope x) (he : PE X e (tEx G Z W f)) (h : PS X (.Expr (.Call (.Attribute (.Name x px) "append" apos) [e] [] cpos) pos) (tDrop (tBM X.K "list" rAppend (tVar i) (tCons (tEx G Z W f) tNil)))) (hw : W.contains i = true := by rfl) :
    PS X (.Expr (.Call (.Attribute (.Name x px) "append" apos) [e] [] cpos) pos) (tSt G Z W (sApp i f)) :=
  imp_ps h fun E σ H ⟨B, H0, O, ρ, s, r, s', sr, hf, q⟩ => by
    unfold sApp at hf
    split at hf
    · rename_i ds hd
      obtain ⟨d, s1, h1, hf⟩ := bnd_some hf
      split at hf
      · rename_i hl
        cases hf
        have hi : i ∈ W := by simpa using hw
        obtain ⟨P, ds', vs, hds, a2, a4, a5, a3, mu⟩ := sr.mut hi hd
        refine ⟨.ref P, a2, .inl ⟨rfl, vs, .inl (.inl a4)⟩, B, O, ρ, s, d, _, sr.eo, sr.r, h1, fun v H1 f1 r1 R1 => ?_⟩
        have sr1 := sr.step f1 R1
        obtain ⟨P1, ds1, vs1, hds1, b2, b4, b5, b3, mu1⟩ := sr1.mut hi hd
        rw [a2] at b2
        cases b2
        cases hds1
        refine ⟨P, vs1, v, rfl, rfl, b4, by rw [b5.len]; exact hl, ?_⟩
        obtain ⟨sr2, ch2⟩ := mu1 (ds ++ [d]) (vs1 ++ [v]) (b5.append (Reps.cons r1 Reps.nil))
        exact q O σ _ sr2 ((Ch.of f1).trans ch2)
      · cases hf
    · cases hf
def sExt (i : Nat) (f : Ev S) : Sv S := fun ρ s => match ρ[i]? with
  | some (some (.list ds)) => bnd (f ρ s) fun d s => match d with
    | .list es => if ds.length + es.length ≤ sizeLine then some (.nx (ρ.set i (some (.list (ds ++ es)))), s) else none
    | _ => none
  | _ => none
/-! ### a def -/
def startR (n : Nat) (ds : List D) : Rho := ds.map some ++ List.replicate (n - ds.length) none
/-- what a def computes: its body over n slots -/
def fnD (n : Nat) (F : Sv S) : Fn S := fun ds s => match F (startR n ds) s with
  | some (.rt d, s') => some (d, s')
  | some (.nx _, s') => some (.none, s')
  | _ => none
theorem eo_start {B : Bar} {H : Hp} {N : List Str} {vs : List V} {ds : List D} {n : Nat} (hn : N.length = n) (bd : ∀ a, B a → H a ≠ none) (mb : ∀ a, Z.M a → B a) (hr : Reps G B H ds vs) (hl : ds.length ≤ n) (hW : ∀ i ∈ W, ds.length ≤ i) : Eo G Z W B (fun _ => False) H (L2.start N vs) (startR n ds) where
  er := by
    have len := hr.len
    refine ⟨by unfold L2.start startR; simp [len, hn], fun i d hi hd => ?_, fun _ => 0, ?_, ?_⟩
    · unfold startR at hd
      by_cases h : i < ds.length
      · rw [List.getElem?_append_left (by simpa using h), List.getElem?_map] at hd
        cases hd' : ds[i]? with
        | none => rw [hd'] at hd; cases hd
        | some d' =>
          rw [hd'] at hd
          cases hd
          obtain ⟨v, h1, h2⟩ := hr.get hd'
          refine ⟨v, ?_, h2.sub fun a z _ => z.elim id False.elim⟩
          unfold L2.start
          rw [List.getElem?_append_left (by simpa [len] using h), List.getElem?_map, h1]
          rfl
      · rw [List.getElem?_append_right (by simpa using h), List.getElem?_replicate] at hd
        split at hd <;> cases hd
    · intro i j d e hi hj hd
      exfalso
      have := hW i hi
      unfold startR at hd
      rw [List.getElem?_append_right (by simpa using this), List.getElem?_replicate] at hd
      split at hd <;> cases hd
    · intro i d hi hd
      exfalso
      have := hW i hi
      unfold startR at hd
      rw [List.getElem?_append_right (by simpa using this), List.getElem?_replicate] at hd
      split at hd <;> cases hd
  bd := bd
  ol := fun _ z => z.elim
  mb := mb
  ob := fun _ z => z.elim
variable {P : Program} {w : World} {K : PySem.W.Frag} {mg : Str → Option Value} {base : Heap}
/-- THE RULE: a def whose body reads as F computes fnD F -/
theorem fn_ok {nm qual : Str} {st : Stmt} {fad : Addr} {fd : FuncData} {N ps : List Str} {k n m : Nat} (U : Fun K nm qual st fad fd) (sc : FnScope N ps (defScope st)) (hn : N.length = n) (hm : ps.length = m) (hmn : m ≤ n) (hW : ∀ i ∈ W, m ≤ i)
    (hb : ∀ (cdv : Value) (A : Around) (outer : List Env) (s : Shared) (H : Hp) (E : XK), Room k (A.deeper (envOfC qual (defScope st) s.heap.objs.size fad cdv)) → PSs (cxOf CX0 P w K mg base N qual (defScope st) fad cdv A outer s H E).nox (defBody st) (tSt G Z W F)) :
    FnOk P w K mg base CX0 (k + 1) fad fd ps (spD G Z m (fnD n F)) := by
  refine U.ok sc (fun vs H Q E h => ?_) (fun cdv A outer s H vs Q E hr h => ⟨_, hb cdv A outer s H E hr, ?_⟩)
  · obtain ⟨B, ds, s, d, s', h1, _, _, h2, _⟩ := h
    rw [h2.len, h1, hm]
  · obtain ⟨B, ds, s0, d, s', h1, bd, mb, h2, R0, hF, q⟩ := h
    have eo := eo_start (W := W) (Z := Z) (N := N) hn bd mb h2 (by omega) (by rw [h1]; exact hW)
    unfold fnD at hF
    have sr : Sr G Z W B H (fun _ => False) H (L2.start N vs) (startR n ds) s0 := ⟨eo, Lc.Fr.refl H, bd, fun _ z => z.elim, R0⟩
    split at hF
    · rename_i d' s1 e1
      cases hF
      exact ⟨B, H, fun _ => False, startR n ds, s0, .rt d, _, sr, e1, q⟩
    · rename_i ρ' s1 e1
      cases hF
      exact ⟨B, H, fun _ => False, startR n ds, s0, .nx ρ', _, sr, e1, fun O' σ' H' sr' _ => q .non H' sr'.fr (by simp only [Rep]) sr'.r⟩
    · cases hF
end
end Dl
set_option Elab.async false
set_option linter.all false
set_option maxRecDepth 100000
set_option maxHeartbeats 4000000
namespace Lc
open PySem PySem.Spec PyProof.Rows L2
/-! ### x == [], x != [], t == (), t != (), whatever the items are -/
section
variable {X : Cx}
theorem size_ne {xs : List V} {its : List Value} (r : Vals xs its) (h : xs ≠ []) : (its.toArray.size != (#[] : Array Value).size) = true := by
  have e := r.length
  have : xs.length ≠ 0 := fun z => h (List.length_eq_zero_iff.mp z)
  simp
  intro z
  rw [z] at e
  simp at e
  exact h e
def rEqNil (K : PySem.W.Frag) (neg : Bool) : R2 := fun x y H Q => ∃ a b xs, x = .ref a ∧ y = .ref b ∧ SqL K H a xs ∧ SqL K H b [] ∧ Q (.bl (xs.isEmpty != neg)) H
def rEqNilT (K : PySem.W.Frag) (neg : Bool) : R2 := fun x y H Q => ∃ a b xs, x = .ref a ∧ y = .ref b ∧ SqT K H a xs ∧ SqT K H b [] ∧ Q (.bl (xs.isEmpty != neg)) H
theorem op_eqNil (hu : X.A.units < cLine) : OpR X (compareOp .Eq) (rEqNil X.K false) := by
  intro pins s σ H x y v u Q I rx ry h
  obtain ⟨a, b, xs, rfl, rfl, ha, hb, q⟩ := h
  cases rx
  cases ry
  obtain ⟨its, r1, p1, _⟩ := I.list ha
  obtain ⟨its2, r2, p2, _⟩ := I.list hb
  cases r2
  by_cases hx : xs = []
  · subst hx
    cases r1
    exact SeqAt.eq_listAt (e := fun _ => true) p1.isList p2.isList rfl hu (fun j h1 _ => absurd h1 (by simp)) ⟨.bl true, H, I, rfl, q⟩
  · refine SeqAt.eq_list_lengthsAt p1.isList p2.isList (size_ne r1 hx) hu ⟨.bl false, H, I, rfl, ?_⟩
    cases xs with
    | nil => exact absurd rfl hx
    | cons _ _ => exact q
theorem op_neNil (hu : X.A.units < cLine) : OpR X (compareOp .NotEq) (rEqNil X.K true) := by
  intro pins s σ H x y v u Q I rx ry h
  obtain ⟨a, b, xs, rfl, rfl, ha, hb, q⟩ := h
  cases rx
  cases ry
  obtain ⟨its, r1, p1, _⟩ := I.list ha
  obtain ⟨its2, r2, p2, _⟩ := I.list hb
  cases r2
  by_cases hx : xs = []
  · subst hx
    cases r1
    exact SeqAt.RcNeAt.lists (e := fun _ => true) p1.isList p2.isList rfl hu (fun j h1 _ => absurd h1 (by simp)) _ _ _ _ ⟨.bl false, H, I, rfl, q⟩
  · refine SeqAt.RcNeAt.lists_lengths p1.isList p2.isList (size_ne r1 hx) hu _ _ _ _ ⟨.bl true, H, I, rfl, ?_⟩
    cases xs with
    | nil => exact absurd rfl hx
    | cons _ _ => exact q
theorem tup_empty {xs : List V} {its : List Value} (r : Vals xs its) : ((List.range (min its.toArray.size (#[] : Array Value).size)).all (fun _ => true) && its.toArray.size == (#[] : Array Value).size) = xs.isEmpty := by
  have e := r.length
  cases xs with
  | nil =>
    cases r
    rfl
  | cons a l =>
    cases r
    simp
theorem op_eqNilT (hu : X.A.units < cLine) : OpR X (compareOp .Eq) (rEqNilT X.K false) := by
  intro pins s σ H x y v u Q I rx ry h
  obtain ⟨a, b, xs, rfl, rfl, ha, hb, q⟩ := h
  cases rx
  cases ry
  obtain ⟨its, r1, p1, _⟩ := I.tuple ha
  obtain ⟨its2, r2, p2, _⟩ := I.tuple hb
  cases r2
  refine SeqAt.eq_tupleAt (e := fun _ => true) p1 p2 hu (fun j _ h2 => absurd h2 (by simp)) ?_
  rw [tup_empty r1]
  refine ⟨.bl xs.isEmpty, H, I, rfl, ?_⟩
  cases xs <;> exact q
theorem op_neNilT (hu : X.A.units < cLine) : OpR X (compareOp .NotEq) (rEqNilT X.K true) := by
  intro pins s σ H x y v u Q I rx ry h
  obtain ⟨a, b, xs, rfl, rfl, ha, hb, q⟩ := h
  cases rx
  cases ry
  obtain ⟨its, r1, p1, _⟩ := I.tuple ha
  obtain ⟨its2, r2, p2, _⟩ := I.tuple hb
  cases r2
  refine SeqAt.RcNeAt.tuples (e := fun _ => true) p1 p2 hu (fun j _ h2 => absurd h2 (by simp)) _ _ _ _ ?_
  rw [tup_empty r1]
  refine ⟨.bl (!xs.isEmpty), H, I, rfl, ?_⟩
  cases xs <;> exact q
end
end Lc
set_option Elab.async false
set_option linter.all false
set_option maxRecDepth 100000
set_option maxHeartbeats 4000000
namespace Dl
open PySem PySem.Spec PyProof.Rows L2
/-! ### operators on data -/
def orR (r1 r2 : R2) : R2 := fun x y H Q => r1 x y H Q ∨ r2 x y H Q
theorem or_op {X : Cx} {f : Value → Value → Sem Value} {r1 r2 : R2} (h1 : OpR X f r1) (h2 : OpR X f r2) : OpR X f (orR r1 r2) := fun pins s σ H x y v u Q I rx ry h => h.elim (h1 pins s σ H x y v u Q I rx ry) (h2 pins s σ H x y v u Q I rx ry)
def orC (r1 r2 : List V → Hp → VK → Prop) : List V → Hp → VK → Prop := fun x H Q => r1 x H Q ∨ r2 x H Q
theorem or_ca {X : Cx} {f : Value} {r1 r2 : List V → Hp → VK → Prop} (h1 : CallR X f r1) (h2 : CallR X f r2) : CallR X f (orC r1 r2) := fun pins s σ H x v Q I rx h => h.elim (h1 pins s σ H x v Q I rx) (h2 pins s σ H x v Q I rx)
theorem or_ix {X : Cx} {r1 r2 : R2} (h1 : IxR X r1) (h2 : IxR X r2) : IxR X (orR r1 r2) := h1.or h2
def pAdd : D → D → Option D
  | .int i, .int j => some (.int (i + j))
  | .str a, .str b => if a.length + b.length ≤ sizeLine then some (.str (a ++ b)) else none
  | .list a, .list b => if a.length + b.length ≤ sizeLine then some (.list (a ++ b)) else none
  | .tuple a, .tuple b => if a.length + b.length ≤ sizeLine then some (.tuple (a ++ b)) else none
  | _, _ => none
abbrev rAddD (K : PySem.W.Frag) : R2 := orR (rI0 fun i j => .int (i + j)) (orR (fun x y H Q => ∃ i j, x = .str i ∧ y = .str j ∧ i.length + j.length ≤ sizeLine ∧ Q (.str (i ++ j)) H) (orR rCat (rCatA K)))
theorem od_add {X : Cx} : OpR X (binaryOp .Add) (rAddD X.K) := or_op op_add (or_op op_add_str (or_op op_cat op_catA))
theorem nb_of {B : Bar} {H : Hp} {p : Addr} (bd : ∀ a, B a → H a ≠ none) (hp : H p = none) : ¬ B p := fun z => bd p z hp
section
variable {G : Kx} {B : Bar} {H : Hp}
/-- a new list, a new tuple -/
theorem rep_lst {p : Addr} {vs : List V} {ds : List D} (bd : ∀ a, B a → H a ≠ none) (hp : H p = none) (h : Reps G B H ds vs) : Rep G B (upd H p (.lst vs)) (.list ds) (.ref p) := by
  simp only [Rep]
  exact ⟨p, vs, rfl, upd_same, nb_of bd hp, h.same (Lc.same_new hp)⟩
theorem rep_tup {p : Addr} {vs : List V} {ds : List D} (bd : ∀ a, B a → H a ≠ none) (hp : H p = none) (h : Reps G B H ds vs) : Rep G B (upd H p (.tup vs)) (.tuple ds) (.ref p) := by
  simp only [Rep]
  exact ⟨p, vs, rfl, .inl ⟨upd_same, nb_of bd hp⟩, h.same (Lc.same_new hp)⟩
theorem reps_nil_iff {vs : List V} (h : Reps G B H [] vs) : vs = [] := by simpa only [Reps] using h
theorem reps_ne {ds : List D} {vs : List V} (h : Reps G B H ds vs) : (vs = [] ↔ ds = []) := by
  have := h.len
  cases ds <;> cases vs <;> simp_all
end
theorem os_add {G : Kx} : OpS G (rAddD G.K) pAdd := by
  intro B H x y dx dy d Q bd hx hy hp q
  unfold pAdd at hp
  split at hp
  · cases hp
    simp only [Rep] at hx hy
    subst hx hy
    exact .inl ⟨_, _, rfl, rfl, q _ H (Same.refl H) (by simp only [Rep])⟩
  · split at hp
    · cases hp
      simp only [Rep] at hx hy
      subst hx hy
      exact .inr (.inl ⟨_, _, rfl, rfl, by assumption, q _ H (Same.refl H) (by simp only [Rep])⟩)
    · cases hp
  · split at hp
    · cases hp
      obtain ⟨a, us, rfl, h1, _, h2⟩ := hx.sqL
      obtain ⟨b, vs, rfl, h3, _, h4⟩ := hy.sqL
      exact .inr (.inr (.inl ⟨a, b, us, vs, rfl, rfl, h1, h3, by rw [h2.len, h4.len]; assumption, fun p hp => q _ _ (Lc.same_new hp) (rep_lst bd hp (h2.append h4))⟩))
    · cases hp
  · split at hp
    · cases hp
      rename_i as bs hsz
      obtain ⟨a, us, rfl, h1, h2⟩ := hx.sqT
      obtain ⟨b, vs, rfl, h3, h4⟩ := hy.sqT
      refine .inr (.inr (.inr ⟨a, b, us, vs, rfl, rfl, h1, h3, by rw [h2.len, h4.len]; assumption, fun e => ?_, fun _ e => ?_, fun _ _ p hp => q _ _ (Lc.same_new hp) (rep_tup bd hp (h2.append h4))⟩))
      · have : as = [] := (reps_ne h2).mp e
        subst this
        exact q _ H (Same.refl H) hy
      · have : bs = [] := (reps_ne h4).mp e
        subst this
        rw [List.append_nil] at q
        exact q _ H (Same.refl H) hx
    · cases hp
  · cases hp
/-- two dInts in -/
def pI (C : Int → Int → Bool) (g : Int → Int → D) : D → D → Option D
  | .int i, .int j => if C i j = true then some (g i j) else none
  | _, _ => none
theorem os_I {G : Kx} {C : Int → Int → Prop} {c : Int → Int → Bool} {g : Int → Int → V} {g' : Int → Int → D} (hc : ∀ i j, c i j = true → C i j) (hg : ∀ B H i j, Rep G B H (g' i j) (g i j)) : OpS G (rI C g) (pI c g') := by
  intro B H x y dx dy d Q bd hx hy hp q
  unfold pI at hp
  split at hp
  · split at hp
    · cases hp
      simp only [Rep] at hx hy
      subst hx hy
      exact ⟨_, _, rfl, rfl, hc _ _ (by assumption), q _ H (Same.refl H) (hg B H _ _)⟩
    · cases hp
  · cases hp
def pI0 (g : Int → Int → D) : D → D → Option D
  | .int i, .int j => some (g i j)
  | _, _ => none
theorem os_I0 {G : Kx} {g : Int → Int → V} {g' : Int → Int → D} (hg : ∀ B H i j, Rep G B H (g' i j) (g i j)) : OpS G (rI0 g) (pI0 g') := by
  intro B H x y dx dy d Q bd hx hy hp q
  unfold pI0 at hp
  split at hp
  · cases hp
    simp only [Rep] at hx hy
    subst hx hy
    exact ⟨_, _, rfl, rfl, q _ H (Same.refl H) (hg B H _ _)⟩
  · cases hp
def pSub : D → D → Option D := pI0 fun i j => .int (i - j)
theorem os_sub {G : Kx} : OpS G (rI0 fun i j => .int (i - j)) pSub := os_I0 fun B H i j => by simp only [Rep]
def pMul : D → D → Option D := pI (fun i j => decide (i.natAbs.log2 + j.natAbs.log2 < 1000000)) fun i j => .int (i * j)
theorem os_mul {G : Kx} : OpS G (rI CMulW fun i j => .int (i * j)) pMul := os_I (fun i j h => show i.natAbs.log2 + j.natAbs.log2 < 1000000 from of_decide_eq_true h) fun B H i j => by simp only [Rep]
def pMod : D → D → Option D := pI (fun _ j => decide (0 < j)) fun i j => .int (i % j)
theorem os_mod {G : Kx} : OpS G (rI (fun _ j => 0 < j) fun i j => .int (i % j)) pMod := os_I (fun i j h => of_decide_eq_true h) fun B H i j => by simp only [Rep]
def pFdiv : D → D → Option D := pI (fun i j => decide (0 < j ∧ j.natAbs.log2 < 9000)) fun i j => .int (i / j)
theorem os_fdiv {G : Kx} : OpS G (rI CDivW fun i j => .int (i / j)) pFdiv := os_I (fun i j h => show 0 < j ∧ j.natAbs.log2 < 9000 from of_decide_eq_true h) fun B H i j => by simp only [Rep]
def pPow : D → D → Option D := pI (fun i j => decide (0 ≤ j ∧ j ≤ 1000000 ∧ i.natAbs < 2 ^ 64)) fun i j => .int (i ^ j.toNat)
theorem os_pow {G : Kx} : OpS G (rI CPow fun i j => .int (i ^ j.toNat)) pPow := os_I (fun i j h => show 0 ≤ j ∧ j ≤ 1000000 ∧ i.natAbs < 2 ^ 64 from of_decide_eq_true h) fun B H i j => by simp only [Rep]
def pBand : D → D → Option D := pI0 fun i j => .int (Builtin.bitAnd i j)
theorem os_band {G : Kx} : OpS G (rI0 fun i j => .int (Builtin.bitAnd i j)) pBand := os_I0 fun B H i j => by simp only [Rep]
def pShr : D → D → Option D := pI (fun _ j => decide (0 ≤ j)) fun i j => .int (i / 2 ^ j.toNat)
theorem os_shr {G : Kx} : OpS G (rI (fun _ j => 0 ≤ j) fun i j => .int (i / 2 ^ j.toNat)) pShr := os_I (fun i j h => of_decide_eq_true h) fun B H i j => by simp only [Rep]
/-! ### comparisons -/
def pEq : D → D → Option D
  | .int i, .int j => some (.bool (decide (i = j)))
  | .str i, .str j => some (.bool (decide (i = j)))
  | .bool i, .bool j => some (.bool (decide (i = j)))
  | .list a, .list [] => some (.bool a.isEmpty)
  | .tuple a, .tuple [] => some (.bool a.isEmpty)
  | x, y => if SeqAt.shaped x = true ∧ SeqAt.shaped y = true then some (.bool (PyData.eqv x y)) else none
def pNe (x y : D) : Option D := match pEq x y with
  | some (.bool b) => some (.bool (!b))
  | _ => none
abbrev rEqA (K : PySem.W.Frag) : R2 := orR rEq (orR (Lc.rEqNil K false) (orR (Lc.rEqNilT K false) (rEqD K)))
abbrev rNeA (K : PySem.W.Frag) : R2 := orR rNe (orR (Lc.rEqNil K true) (orR (Lc.rEqNilT K true) (rNeD K)))
theorem od_eq {X : Cx} (hu : X.A.units + 64 < cLine) : OpR X (compareOp .Eq) (rEqA X.K) := or_op op_eq (or_op (Lc.op_eqNil (by omega)) (or_op (Lc.op_eqNilT (by omega)) (op_eqD hu)))
theorem od_ne {X : Cx} (hu : X.A.units + 64 < cLine) : OpR X (compareOp .NotEq) (rNeA X.K) := or_op op_ne (or_op (Lc.op_neNil (by omega)) (or_op (Lc.op_neNilT (by omega)) (op_neD hu)))
theorem isEmpty_reps {G : Kx} {B : Bar} {H : Hp} {ds : List D} {vs : List V} (h : Reps G B H ds vs) : vs.isEmpty = ds.isEmpty := by
  have := h.len
  cases ds <;> cases vs <;> simp_all
theorem eq_core {G : Kx} {B : Bar} {H : Hp} {x y : V} {dx dy : D} {b : Bool} (hx : Rep G B H dx x) (hy : Rep G B H dy y) (hp : pEq dx dy = some (.bool b)) :
    (scal x y = true ∧ decide (x = y) = b) ∨ (∃ p q xs, x = .ref p ∧ y = .ref q ∧ SqL G.K H p xs ∧ SqL G.K H q [] ∧ xs.isEmpty = b) ∨ (∃ p q xs, x = .ref p ∧ y = .ref q ∧ SqT G.K H p xs ∧ SqT G.K H q [] ∧ xs.isEmpty = b) ∨
      (∃ d e, Dp G.K H x d ∧ Dp G.K H y e ∧ SeqAt.shaped d = true ∧ SeqAt.shaped e = true ∧ PyData.eqv d e = b) := by
  unfold pEq at hp
  split at hp
  · cases hp
    simp only [Rep] at hx hy
    subst hx hy
    exact .inl ⟨rfl, by simp only [V.int.injEq]⟩
  · cases hp
    simp only [Rep] at hx hy
    subst hx hy
    exact .inl ⟨rfl, by simp only [V.str.injEq]⟩
  · cases hp
    simp only [Rep] at hx hy
    subst hx hy
    exact .inl ⟨rfl, by simp only [V.bl.injEq]⟩
  · cases hp
    obtain ⟨p, xs, rfl, _, h1, h2⟩ := hx.sqL
    obtain ⟨q, ys, rfl, _, h3, h4⟩ := hy.sqL
    rw [reps_nil_iff h4] at h3
    exact .inr (.inl ⟨p, q, xs, rfl, rfl, h1, h3, isEmpty_reps h2⟩)
  · cases hp
    obtain ⟨p, xs, rfl, h1, h2⟩ := hx.sqT
    obtain ⟨q, ys, rfl, h3, h4⟩ := hy.sqT
    rw [reps_nil_iff h4] at h3
    exact .inr (.inr (.inl ⟨p, q, xs, rfl, rfl, h1, h3, isEmpty_reps h2⟩))
  · split at hp
    · rename_i h
      cases hp
      exact .inr (.inr (.inr ⟨_, _, hx.dp _ _ (SeqAt.canLay_of_shaped h.1), hy.dp _ _ (SeqAt.canLay_of_shaped h.2), h.1, h.2, rfl⟩))
    · cases hp
theorem pEq_bool {x y z : D} (h : pEq x y = some z) : ∃ k, z = .bool k := by
  unfold pEq at h
  split at h
  · cases h; exact ⟨_, rfl⟩
  · cases h; exact ⟨_, rfl⟩
  · cases h; exact ⟨_, rfl⟩
  · cases h; exact ⟨_, rfl⟩
  · cases h; exact ⟨_, rfl⟩
  · split at h
    · cases h; exact ⟨_, rfl⟩
    · cases h
theorem pNe_bool {x y z : D} (h : pNe x y = some z) : ∃ k, z = .bool k := by
  unfold pNe at h
  split at h
  · cases h; exact ⟨_, rfl⟩
  · cases h
theorem os_eq {G : Kx} : OpS G (rEqA G.K) pEq := by
  intro B H x y dx dy d Q bd hx hy hp q
  obtain ⟨b, rfl⟩ := pEq_bool hp
  have q := q (.bl b) H (Same.refl H) (by simp only [Rep])
  rcases eq_core hx hy hp with ⟨h1, rfl⟩ | ⟨p, r, xs, h1, h2, h3, h4, rfl⟩ | ⟨p, r, xs, h1, h2, h3, h4, rfl⟩ | ⟨d, e, h1, h2, h3, h4, rfl⟩
  · exact .inl ⟨h1, q⟩
  · exact .inr (.inl ⟨p, r, xs, h1, h2, h3, h4, by simpa using q⟩)
  · exact .inr (.inr (.inl ⟨p, r, xs, h1, h2, h3, h4, by simpa using q⟩))
  · exact .inr (.inr (.inr ⟨d, e, h1, h2, h3, h4, q⟩))
theorem os_ne {G : Kx} : OpS G (rNeA G.K) pNe := by
  intro B H x y dx dy d Q bd hx hy hp q
  unfold pNe at hp
  split at hp
  · rename_i b hb
    cases hp
    have q := q (.bl (!b)) H (Same.refl H) (by simp only [Rep])
    rcases eq_core hx hy hb with ⟨h1, rfl⟩ | ⟨p, r, xs, h1, h2, h3, h4, rfl⟩ | ⟨p, r, xs, h1, h2, h3, h4, rfl⟩ | ⟨d, e, h1, h2, h3, h4, rfl⟩
    · exact .inl ⟨h1, q⟩
    · exact .inr (.inl ⟨p, r, xs, h1, h2, h3, h4, by simpa using q⟩)
    · exact .inr (.inr (.inl ⟨p, r, xs, h1, h2, h3, h4, by simpa using q⟩))
    · exact .inr (.inr (.inr ⟨d, e, h1, h2, h3, h4, q⟩))
  · cases hp
def dInts : List D → Option (List Int)
  | [] => some []
  | .int i :: ds => (dInts ds).map (i :: ·)
  | _ => none
theorem ints_some : ∀ {ds : List D} {ns : List Int}, dInts ds = some ns → ds = ns.map .int
  | [], ns, h => by simp [dInts] at h; subst h; rfl
  | .int i :: ds, ns, h => by
    simp only [dInts, Option.map_eq_some_iff] at h
    obtain ⟨ms, h1, rfl⟩ := h
    rw [ints_some h1]
    rfl
  | .none :: _, _, h => by simp [dInts] at h
  | .bool _ :: _, _, h => by simp [dInts] at h
  | .str _ :: _, _, h => by simp [dInts] at h
  | .list _ :: _, _, h => by simp [dInts] at h
  | .tuple _ :: _, _, h => by simp [dInts] at h
  | .dict _ :: _, _, h => by simp [dInts] at h
def dStrs : List D → Option (List Str)
  | [] => some []
  | .str i :: ds => (dStrs ds).map (i :: ·)
  | _ => none
theorem strs_some : ∀ {ds : List D} {ns : List Str}, dStrs ds = some ns → ds = ns.map .str
  | [], ns, h => by simp [dStrs] at h; subst h; rfl
  | .str i :: ds, ns, h => by
    simp only [dStrs, Option.map_eq_some_iff] at h
    obtain ⟨ms, h1, rfl⟩ := h
    rw [strs_some h1]
    rfl
  | .none :: _, _, h => by simp [dStrs] at h
  | .bool _ :: _, _, h => by simp [dStrs] at h
  | .int _ :: _, _, h => by simp [dStrs] at h
  | .list _ :: _, _, h => by simp [dStrs] at h
  | .tuple _ :: _, _, h => by simp [dStrs] at h
  | .dict _ :: _, _, h => by simp [dStrs] at h
@[simp] theorem ints_map (ns : List Int) : dInts (ns.map .int) = some ns := by
  induction ns with
  | nil => rfl
  | cons n ns ih => simp [dInts, ih]
@[simp] theorem strs_map (ns : List Str) : dStrs (ns.map .str) = some ns := by
  induction ns with
  | nil => rfl
  | cons n ns ih => simp [dStrs, ih]
def pLt : D → D → Option D
  | .int i, .int j => some (.bool (decide (i < j)))
  | .str i, .str j => some (.bool (decide (i.cps.toList < j.cps.toList)))
  | .tuple a, .tuple b => match dInts a, dInts b with
    | some ns, some ms => some (.bool (HT.lexLt ns ms))
    | _, _ => none
  | _, _ => none
abbrev rLtA (K : PySem.W.Frag) : R2 := orR (rI0 fun i j => .bl (decide (i < j))) (orR (fun x y H Q => ∃ i j, x = .str i ∧ y = .str j ∧ Q (.bl (decide (i.cps.toList < j.cps.toList))) H) (rLtT K))
theorem od_lt {X : Cx} (hu : X.A.units + 64 < cLine) : OpR X (compareOp .Lt) (rLtA X.K) := or_op op_lt (or_op op_lt_str (op_ltT (by omega)))
theorem pLt_bool {x y z : D} (h : pLt x y = some z) : ∃ k, z = .bool k := by
  unfold pLt at h
  split at h
  · cases h; exact ⟨_, rfl⟩
  · cases h; exact ⟨_, rfl⟩
  · split at h
    · cases h; exact ⟨_, rfl⟩
    · cases h
  · cases h
theorem os_lt {G : Kx} : OpS G (rLtA G.K) pLt := by
  intro B H x y dx dy d Q bd hx hy hp q
  unfold pLt at hp
  split at hp
  · cases hp
    simp only [Rep] at hx hy
    subst hx hy
    exact .inl ⟨_, _, rfl, rfl, q _ H (Same.refl H) (by simp only [Rep])⟩
  · cases hp
    simp only [Rep] at hx hy
    subst hx hy
    exact .inr (.inl ⟨_, _, rfl, rfl, q _ H (Same.refl H) (by simp only [Rep])⟩)
  · split at hp
    · rename_i ns ms h1 h2
      cases hp
      obtain ⟨a, us, rfl, h3, h4⟩ := hx.sqT
      obtain ⟨b, vs, rfl, h5, h6⟩ := hy.sqT
      rw [ints_some h1] at h4
      rw [ints_some h2] at h6
      rw [h4.ints] at h3
      rw [h6.ints] at h5
      exact .inr (.inr ⟨a, b, ns, ms, rfl, rfl, h3, h5, q _ H (Same.refl H) (by simp only [Rep])⟩)
    · cases hp
  · cases hp
def pIB (g : Int → Int → Bool) : D → D → Option D
  | .int i, .int j => some (.bool (g i j))
  | _, _ => none
theorem pIB_bool {g : Int → Int → Bool} {x y z : D} (h : pIB g x y = some z) : ∃ k, z = .bool k := by
  unfold pIB at h
  split at h
  · cases h; exact ⟨_, rfl⟩
  · cases h
theorem os_IB {G : Kx} {g : Int → Int → Bool} : OpS G (rI0 fun i j => .bl (g i j)) (pIB g) := by
  intro B H x y dx dy d Q bd hx hy hp q
  unfold pIB at hp
  split at hp
  · cases hp
    simp only [Rep] at hx hy
    subst hx hy
    exact ⟨_, _, rfl, rfl, q _ H (Same.refl H) (by simp only [Rep])⟩
  · cases hp
def pLe : D → D → Option D := pIB fun i j => decide (i ≤ j)
def pGt : D → D → Option D := pIB fun i j => decide (j < i)
def pGe : D → D → Option D := pIB fun i j => decide (j ≤ i)
theorem os_le {G : Kx} : OpS G (rI0 fun i j => .bl (decide (i ≤ j))) pLe := os_IB
theorem os_gt {G : Kx} : OpS G (rI0 fun i j => .bl (decide (j < i))) pGt := os_IB
theorem os_ge {G : Kx} : OpS G (rI0 fun i j => .bl (decide (j ≤ i))) pGe := os_IB
/-- x is None -/
def nonD : D → Bool
  | .none => true
  | _ => false
def pIs (x y : D) : Option D := match y with
  | .none => some (.bool (nonD x))
  | _ => none
def pIsNot (x y : D) : Option D := match y with
  | .none => some (.bool (!nonD x))
  | _ => none
theorem rep_non {G : Kx} {B : Bar} {H : Hp} {d : D} {v : V} (h : Rep G B H d v) : decide (v = .non) = nonD d := by
  cases d <;> simp only [Rep] at h
  · subst h; rfl
  · subst h; rfl
  · subst h; rfl
  · subst h; rfl
  · obtain ⟨a, vs, rfl, _⟩ := h; rfl
  · obtain ⟨a, vs, rfl, _⟩ := h; rfl
  · obtain ⟨a, rfl, _⟩ := h; rfl
theorem os_is {G : Kx} : OpS G (fun x y H Q => y = .non ∧ Q (.bl (decide (x = .non))) H) pIs := by
  intro B H x y dx dy d Q bd hx hy hp q
  unfold pIs at hp
  split at hp
  · cases hp
    simp only [Rep] at hy
    exact ⟨hy, q _ H (Same.refl H) (by simp only [Rep]; rw [rep_non hx])⟩
  · cases hp
theorem os_isNot {G : Kx} : OpS G (fun x y H Q => y = .non ∧ Q (.bl (!decide (x = .non))) H) pIsNot := by
  intro B H x y dx dy d Q bd hx hy hp q
  unfold pIsNot at hp
  split at hp
  · cases hp
    simp only [Rep] at hy
    refine ⟨hy, q _ H (Same.refl H) ?_⟩
    simp only [Rep]
    rw [rep_non hx]
  · cases hp
theorem pIs_bool {x y z : D} (h : pIs x y = some z) : ∃ k, z = .bool k := by
  unfold pIs at h
  split at h
  · cases h; exact ⟨_, rfl⟩
  · cases h
theorem pIsNot_bool {x y z : D} (h : pIsNot x y = some z) : ∃ k, z = .bool k := by
  unfold pIsNot at h
  split at h
  · cases h; exact ⟨_, rfl⟩
  · cases h
end Dl
set_option Elab.async false
set_option linter.all false
set_option maxRecDepth 100000
set_option maxHeartbeats 4000000
namespace Dl
open PySem PySem.Spec PyProof.Rows L2
/-! ### in -/
def scalD : D → Bool
  | .none => true
  | .bool _ => true
  | .int _ => true
  | .str _ => true
  | _ => false
/-- == of plain things -/
def eqS : D → D → Bool
  | .none, .none => true
  | .bool a, .bool b => a == b
  | .bool a, .int b => (if a then 1 else 0) == b
  | .int a, .bool b => a == (if b then 1 else 0)
  | .int a, .int b => a == b
  | .str a, .str b => a == b
  | _, _ => false
theorem flat_of {G : Kx} {B : Bar} {H : Hp} {d : D} {v : V} (h : Rep G B H d v) (hs : scalD d = true) : flatV v = true := by
  cases d <;> simp only [Rep] at h <;> first
    | (subst h; rfl)
    | (simp [scalD] at hs)
theorem eqS_of {G : Kx} {B : Bar} {H : Hp} {d e : D} {v u : V} (h : Rep G B H d v) (g : Rep G B H e u) (hs : scalD d = true) (hs' : scalD e = true) : eqV v u = eqS d e := by
  cases d <;> simp only [Rep] at h <;> first
    | (subst h
       cases e <;> simp only [Rep] at g <;> first
         | (subst g; rfl)
         | (simp [scalD] at hs'))
    | (simp [scalD] at hs)
theorem any_of {G : Kx} {B : Bar} {H : Hp} {d : D} {v : V} (h : Rep G B H d v) (hs : scalD d = true) : ∀ {ds : List D} {vs : List V}, Reps G B H ds vs → ds.all scalD = true → vs.all flatV = true ∧ inV v vs = ds.any fun e => eqS e d
  | [], vs, hr, ha => by
    simp only [Reps] at hr
    subst hr
    exact ⟨rfl, rfl⟩
  | e :: ds, vs, hr, ha => by
    simp only [Reps] at hr
    obtain ⟨u, r, rfl, h1, h2⟩ := hr
    rw [List.all_cons, Bool.and_eq_true] at ha
    obtain ⟨g1, g2⟩ := any_of h hs h2 ha.2
    refine ⟨by rw [List.all_cons, flat_of h1 ha.1, g1]; rfl, ?_⟩
    unfold inV at g2 ⊢
    rw [List.any_cons, List.any_cons, g2, eqS_of h1 h ha.1 hs]
def sign1 (x : Str) : Option Nat := match x.cps.toList with
  | [c] => some c
  | _ => none
theorem sign1_some {x : Str} {c : Nat} (h : sign1 x = some c) : x = ⟨#[c]⟩ := by
  unfold sign1 at h
  split at h
  · rename_i c' e
    cases h
    obtain ⟨a⟩ := x
    have : a = #[c] := by
      apply Array.toList_inj.mp
      exact e
    rw [this]
  · cases h
def memD (x : D) (ds : List D) : Option Bool :=
  if scalD x = true ∧ ds.all scalD = true then some (ds.any fun e => eqS e x) else none
def deepIn (x : D) (ds : List D) : Option Bool :=
  if SeqAt.shaped x = true ∧ SeqAt.shaped (.list ds) = true then some (ds.any fun z => PyData.eqv z x) else none
def inD (x y : D) : Option Bool := match y with
  | .str z => match x with
    | .str c => (sign1 c).map fun c => decide (c ∈ z.cps.toList)
    | _ => none
  | .tuple ds => memD x ds
  | .list ds => match memD x ds with
    | some b => some b
    | none => deepIn x ds
  | _ => none
def pIn (x y : D) : Option D := (inD x y).map .bool
def pNotIn (x y : D) : Option D := (inD x y).map fun b => .bool (!b)
abbrev rInA (K : PySem.W.Frag) : R2 := orR (rIn K false) (orR (fun x y H Q => ∃ (c : Nat) (z : Str), x = .str ⟨#[c]⟩ ∧ y = .str z ∧ Q (.bl (decide (c ∈ z.cps.toList))) H) (rInD K))
abbrev rNotInA (K : PySem.W.Frag) : R2 := orR (rIn K true) (orR (fun x y H Q => ∃ (c : Nat) (z : Str), x = .str ⟨#[c]⟩ ∧ y = .str z ∧ Q (.bl (!decide (c ∈ z.cps.toList))) H) (rNotInD K))
theorem od_in {X : Cx} (hu : X.A.units + 65 < cLine) : OpR X (compareOp .In) (rInA X.K) := or_op op_in_seq (or_op op_in_sign (op_inD hu))
theorem od_notIn {X : Cx} (hu : X.A.units + 65 < cLine) : OpR X (compareOp .NotIn) (rNotInA X.K) := or_op op_notIn_seq (or_op op_notIn_sign (op_notInD hu))
theorem pIn_bool {x y z : D} (h : pIn x y = some z) : ∃ k, z = .bool k := by
  unfold pIn at h
  rw [Option.map_eq_some_iff] at h
  obtain ⟨k, _, rfl⟩ := h
  exact ⟨k, rfl⟩
theorem pNotIn_bool {x y z : D} (h : pNotIn x y = some z) : ∃ k, z = .bool k := by
  unfold pNotIn at h
  rw [Option.map_eq_some_iff] at h
  obtain ⟨k, _, rfl⟩ := h
  exact ⟨!k, rfl⟩
theorem in_core {G : Kx} {B : Bar} {H : Hp} {x y : V} {dx dy : D} {b : Bool} (hx : Rep G B H dx x) (hy : Rep G B H dy y) (hp : inD dx dy = some b) :
    (∃ p xs, y = .ref p ∧ (SqL G.K H p xs ∨ SqT G.K H p xs) ∧ flatV x = true ∧ xs.all flatV = true ∧ inV x xs = b) ∨ (∃ (c : Nat) (z : Str), x = .str ⟨#[c]⟩ ∧ y = .str z ∧ decide (c ∈ z.cps.toList) = b) ∨
      (∃ d ds, Dp G.K H x d ∧ Dp G.K H y (.list ds) ∧ SeqAt.shaped d = true ∧ SeqAt.shaped (.list ds) = true ∧ (ds.any fun z => PyData.eqv z d) = b) := by
  unfold inD at hp
  split at hp
  · split at hp
    · rw [Option.map_eq_some_iff] at hp
      obtain ⟨c, hc, rfl⟩ := hp
      simp only [Rep] at hx hy
      subst hx hy
      exact .inr (.inl ⟨c, _, by rw [sign1_some hc], rfl, rfl⟩)
    · cases hp
  · obtain ⟨a, vs, rfl, h1, h2⟩ := hy.sqT
    unfold memD at hp
    split at hp
    · rename_i hc
      cases hp
      obtain ⟨g1, g2⟩ := any_of hx hc.1 h2 hc.2
      exact .inl ⟨a, vs, rfl, .inr h1, flat_of hx hc.1, g1, g2⟩
    · cases hp
  · rename_i ds
    split at hp
    · rename_i b' hm
      cases hp
      obtain ⟨a, vs, rfl, _, h1, h2⟩ := hy.sqL
      unfold memD at hm
      split at hm
      · rename_i hc
        cases hm
        obtain ⟨g1, g2⟩ := any_of hx hc.1 h2 hc.2
        exact .inl ⟨a, vs, rfl, .inl h1, flat_of hx hc.1, g1, g2⟩
      · cases hm
    · unfold deepIn at hp
      split at hp
      · rename_i hc
        cases hp
        exact .inr (.inr ⟨dx, ds, hx.dp _ _ (SeqAt.canLay_of_shaped hc.1), hy.dp _ _ (SeqAt.canLay_of_shaped hc.2), hc.1, hc.2, rfl⟩)
      · cases hp
  · cases hp
theorem os_in {G : Kx} : OpS G (rInA G.K) pIn := by
  intro B H x y dx dy d Q bd hx hy hp q
  unfold pIn at hp
  rw [Option.map_eq_some_iff] at hp
  obtain ⟨b, hb, rfl⟩ := hp
  have q := q (.bl b) H (Same.refl H) (by simp only [Rep])
  rcases in_core hx hy hb with ⟨p, xs, h1, h2, h3, h4, rfl⟩ | ⟨c, z, h1, h2, rfl⟩ | ⟨d, ds, h1, h2, h3, h4, rfl⟩
  · exact .inl ⟨p, xs, h1, h2, h3, h4, q⟩
  · exact .inr (.inl ⟨c, z, h1, h2, q⟩)
  · exact .inr (.inr ⟨d, ds, h1, h2, h3, h4, q⟩)
theorem os_notIn {G : Kx} : OpS G (rNotInA G.K) pNotIn := by
  intro B H x y dx dy d Q bd hx hy hp q
  unfold pNotIn at hp
  rw [Option.map_eq_some_iff] at hp
  obtain ⟨b, hb, rfl⟩ := hp
  have q := q (.bl (!b)) H (Same.refl H) (by simp only [Rep])
  rcases in_core hx hy hb with ⟨p, xs, h1, h2, h3, h4, rfl⟩ | ⟨c, z, h1, h2, rfl⟩ | ⟨d, ds, h1, h2, h3, h4, rfl⟩
  · exact .inl ⟨p, xs, h1, h2, h3, h4, q⟩
  · exact .inr (.inl ⟨c, z, h1, h2, q⟩)
  · exact .inr (.inr ⟨d, ds, h1, h2, h3, h4, q⟩)
/-! ### subscripts, slices -/
def pIx : D → D → Option D
  | .list ds, .int i => atI ds i
  | .tuple ds, .int i => atI ds i
  | .str z, .int i => if z.length ≤ sizeLine then (atI z.cps.toList i).map fun c => .str ⟨#[c]⟩ else none
  | _, _ => none
theorem Reps.atI {G : Kx} {B : Bar} {H : Hp} {ds : List D} {vs : List V} {i : Int} {d : D} (h : Reps G B H ds vs) (e : L2.atI ds i = some d) : ∃ v, L2.atI vs i = some v ∧ Rep G B H d v := by
  unfold L2.atI at e ⊢
  rw [h.len]
  rw [Option.bind_eq_some_iff] at e
  obtain ⟨j, h1, h2⟩ := e
  obtain ⟨v, h3, h4⟩ := h.get h2
  exact ⟨v, by rw [h1]; exact h3, h4⟩
theorem os_ix {G : Kx} : OpS G (rIx G.K) pIx := by
  intro B H x y dx dy d Q bd hx hy hp q
  unfold pIx at hp
  split at hp
  · simp only [Rep] at hy
    obtain ⟨a, vs, rfl, _, h1, h2⟩ := hx.sqL
    obtain ⟨v, h3, h4⟩ := h2.atI hp
    exact .inl ⟨a, vs, _, v, rfl, hy, h1, h3, q _ H (Same.refl H) h4⟩
  · simp only [Rep] at hy
    obtain ⟨a, vs, rfl, h1, h2⟩ := hx.sqT
    obtain ⟨v, h3, h4⟩ := h2.atI hp
    exact .inr (.inl ⟨a, vs, _, v, rfl, hy, h1, h3, q _ H (Same.refl H) h4⟩)
  · split at hp
    · rw [Option.map_eq_some_iff] at hp
      obtain ⟨c, hc, rfl⟩ := hp
      simp only [Rep] at hx hy
      exact .inr (.inr ⟨_, _, c, hx, hy, by assumption, hc, q _ H (Same.refl H) (by simp only [Rep])⟩)
    · cases hp
  · cases hp
def cutD (ds : List D) (lo hi : Option Int) : List D := (ds.drop (HT.sIx ds.length 0 lo)).take (HT.sIx ds.length ds.length hi - HT.sIx ds.length 0 lo)
theorem Reps.cut {G : Kx} {B : Bar} {H : Hp} {ds : List D} {vs : List V} (h : Reps G B H ds vs) (lo hi : Option Int) : Reps G B H (cutD ds lo hi) (cutV vs lo hi) := by
  unfold cutD cutV
  rw [h.len]
  exact (h.drop _).take _
def pSl (x : D) (lo hi : Option Int) : Option D := match x with
  | .list ds => some (.list (cutD ds lo hi))
  | .tuple ds => some (.tuple (cutD ds lo hi))
  | .str z => if z.length ≤ sizeLine then some (.str (cutS z lo hi)) else none
  | _ => none
abbrev rSlD (K : PySem.W.Frag) : V → Option Int → Option Int → Hp → VK → Prop := fun x lo hi H Q => rSlL K x lo hi H Q ∨ rSlA K x lo hi H Q ∨ rSlS x lo hi H Q
theorem or_sl {X : Cx} {r1 r2 : V → Option Int → Option Int → Hp → VK → Prop} (h1 : SlR X r1) (h2 : SlR X r2) : SlR X (fun x lo hi H Q => r1 x lo hi H Q ∨ r2 x lo hi H Q) :=
  fun pins s σ H x v vl vu lo hi sl Q I rx i p1 p2 h => h.elim (h1 pins s σ H x v vl vu lo hi sl Q I rx i p1 p2) (h2 pins s σ H x v vl vu lo hi sl Q I rx i p1 p2)
theorem od_sl {X : Cx} : SlR X (rSlD X.K) := or_sl sl_list (or_sl sl_tupA sl_str)
theorem cutD_whole {ds : List D} {lo hi : Option Int} (h : HT.sIx ds.length 0 lo = 0 ∧ HT.sIx ds.length ds.length hi = ds.length) : cutD ds lo hi = ds := by
  unfold cutD
  rw [h.1, h.2, List.drop_zero, Nat.sub_zero, List.take_length]
def SlS (G : Kx) (r : V → Option Int → Option Int → Hp → VK → Prop) (p : D → Option Int → Option Int → Option D) : Prop := ∀ (B : Bar) (H : Hp) (x : V) (lo hi : Option Int) (dx d : D) (Q : VK), (∀ a, B a → H a ≠ none) → Rep G B H dx x → p dx lo hi = some d →
  (∀ v H', Same H H' → Rep G B H' d v → Q v H') → r x lo hi H Q
theorem os_sl {G : Kx} : SlS G (rSlD G.K) pSl := by
  intro B H x lo hi dx d Q bd hx hp q
  unfold pSl at hp
  split at hp
  · cases hp
    obtain ⟨a, vs, rfl, _, h1, h2⟩ := hx.sqL
    exact .inl ⟨a, vs, rfl, h1, fun p hp => q _ _ (Lc.same_new hp) (rep_lst bd hp (h2.cut lo hi))⟩
  · cases hp
    rename_i ds
    obtain ⟨a, vs, rfl, h1, h2⟩ := hx.sqT
    refine .inr (.inl ⟨a, vs, rfl, h1, fun e => ?_, fun _ p hp => q _ _ (Lc.same_new hp) (rep_tup bd hp (h2.cut lo hi))⟩)
    rw [h2.len] at e
    rw [cutD_whole e] at q
    exact q _ H (Same.refl H) hx
  · split at hp
    · cases hp
      simp only [Rep] at hx
      exact .inr (.inr ⟨_, hx, by assumption, q _ H (Same.refl H) (by simp only [Rep])⟩)
    · cases hp
  · cases hp
/-- a slice's end: left out, or an int -/
abbrev Eo' (S : Type) := Rho → S → Option (Option Int × S)
def oNo {S : Type} : Eo' S := fun _ s => some (none, s)
def asI : D → Option Int
  | .int i => some i
  | _ => none
def oOf {S : Type} (f : Ev S) : Eo' S := fun ρ s => bnd (f ρ s) fun d s => put ((asI d).map some) s
def tEp {S : Type} (G : Kx) (Z : Zk S) (W : List Nat) (f : Eo' S) : TO := fun σ H Q =>
  ∃ (B O : Bar) (ρ : Rho) (s : S) (d : Option Int) (s' : S), Eo G Z W B O H σ ρ ∧ Z.R H s ∧ f ρ s = some (d, s') ∧
    ∀ H', Lc.Fr Z.M H H' → Z.R H' s' → Q d H'
def cSl {S : Type} (p : D → Option Int → Option Int → Option D) (f : Ev S) (l h : Eo' S) : Ev S := fun ρ s => bnd (f ρ s) fun x s => bnd (l ρ s) fun lo s => bnd (h ρ s) fun hi s => put (p x lo hi) s
section
variable {S : Type} {X : Cx} {G : Kx} {Z : Zk S} {W : List Nat} {f g : Ev S} {fa : Ea S} {a b c e tg : Expr} {es : List Expr} {pos p p2 : Pos} {x : Str} {lo hi : Option Expr}
theorem imp_po {e : Option Expr} {t t' : TO} (h : PO X e t) (m : ∀ σ H Q, t' σ H Q → t σ H Q) : PO X e t' := ⟨fun pins s σ H Q I q => h.run pins s σ H Q I (m σ H Q q)⟩
theorem eo_none : PO X none (tEp G Z W oNo) := imp_po po_none fun σ H Q ⟨B, O, ρ, s, d, s', eo, hR, hf, q⟩ => by
  cases hf
  exact q H (Lc.Fr.refl H) hR
theorem eo_some (he : PE X e (tEx G Z W f)) : PO X (some e) (tEp G Z W (oOf f)) := imp_po (po_some he) fun σ H Q ⟨B, O, ρ, s, d, s', eo, hR, hf, q⟩ => by
  unfold oOf at hf
  obtain ⟨y, s1, h1, hf⟩ := bnd_some hf
  obtain ⟨h3, rfl⟩ := put_some hf
  refine ⟨B, O, ρ, s, y, _, eo, hR, h1, fun v H1 f1 r1 R1 => ?_⟩
  unfold asI at h3
  split at h3
  · cases h3
    simp only [Rep] at r1
    exact ⟨_, r1, q H1 f1 R1⟩
  · cases h3
theorem ex_slice {l h : Eo' S} {r : V → Option Int → Option Int → Hp → VK → Prop} {q : D → Option Int → Option Int → Option D} (hr : SlR X r) (hs : SlS G r q) (he : PE X e (tEx G Z W f)) (hl : PO X lo (tEp G Z W l)) (hh : PO X hi (tEp G Z W h)) : PE X (.Subscript e (.Slice lo hi none p2) pos) (tEx G Z W (cSl q f l h)) :=
  imp_pe (pe_slice hr he hl hh) fun σ H Q ⟨B, O, ρ, s, d, s', eo, hR, hf, k⟩ => by
    unfold cSl at hf
    obtain ⟨y, s1, h1, hf⟩ := bnd_some hf
    obtain ⟨i, s2, h2, hf⟩ := bnd_some hf
    obtain ⟨j, s3, h3, hf⟩ := bnd_some hf
    obtain ⟨h4, rfl⟩ := put_some hf
    refine ⟨B, O, ρ, s, y, s1, eo, hR, h1, fun v H1 f1 r1 R1 => ⟨B, O, ρ, s1, i, s2, eo.fr f1, R1, h2, fun H2 f2 R2 => ⟨B, O, ρ, s2, j, _, (eo.fr f1).fr f2, R2, h3, fun H3 f3 R3 => ?_⟩⟩⟩
    have e3 := ((eo.fr f1).fr f2).fr f3
    refine hs _ H3 v i j y d Q (fun a z => z.elim (e3.bd a) (e3.od a)) (r1.fr (f2.trans f3) fun a z => .inl (eo.mb a z)) h4 fun w H4 sm r4 => ?_
    exact k w H4 (((f1.trans f2).trans f3).trans (Lc.Fr.of sm)) r4 (Z.same R3 sm)
/-! ### new lists -/
/-- a call that makes a new list -/
def CaN (G : Kx) (r : List V → Hp → VK → Prop) (p : List D → Option (List D)) : Prop := ∀ (B : Bar) (H : Hp) (xs : List V) (ds es : List D) (Q : VK), (∀ a, B a → H a ≠ none) → Reps G B H ds xs → p ds = some es →
  (∀ q vs, H q = none → Reps G B H es vs → Q (.ref q) (upd H q (.lst vs))) → r xs H Q
theorem ca_of {r : List V → Hp → VK → Prop} {p : List D → Option (List D)} (h : CaN G r p) : CaS G r (fun ds => (p ds).map .list) := fun B H xs ds d Q bd hr hp q => by
  rw [Option.map_eq_some_iff] at hp
  obtain ⟨es, h1, rfl⟩ := hp
  exact h B H xs ds es Q bd hr h1 fun l vs hl hv => q _ _ (Lc.same_new hl) (rep_lst bd hl hv)
def aN (p : List D → Option (List D)) (f : Ea S) : Ea S := fun ρ s => bnd (f ρ s) fun xs s => put (p xs) s
theorem nl_of {p : Addr} {B O : Bar} {H : Hp} {es : List D} {vs : List V} (hp : H p = none) (h : Reps G (fun a => B a ∨ O a) H es vs) (o : HO) : Reps G (fun a => (B a ∨ a = p) ∨ O a) (upd H p o) es vs :=
  h.mv fun a u e n => ⟨by rw [upd_ne (ne_of_none e hp)]; exact e, fun z => n (z.elim (fun z => z.elim .inl fun z => absurd z (ne_of_none e hp)) .inr)⟩
theorem tcb_nl {r : List V → Hp → VK → Prop} {p : List D → Option (List D)} (hs : CaN G r p) {σ : L2.St} {H : Hp} {Q : VK} (h : tNl G Z W (aN p fa) σ H Q) : tCB r (tEa G Z W fa) σ H Q := by
  obtain ⟨B, O, ρ, s, d, s', eo, hR, hf, q⟩ := h
  unfold aN at hf
  obtain ⟨x, s1, h1, hf⟩ := bnd_some hf
  obtain ⟨h3, rfl⟩ := put_some hf
  refine ⟨B, O, ρ, s, x, _, eo, hR, h1, fun v H1 f1 r1 R1 => ?_⟩
  have e2 := eo.fr f1
  refine hs _ H1 v x d Q (fun a z => z.elim (e2.bd a) (e2.od a)) r1 h3 fun l vs hl hv => ?_
  exact q l vs _ (f1.free hl) (f1.trans (Lc.Fr.new hl)) upd_same (nl_of hl hv _) (Z.same R1 (Lc.same_new hl))
theorem nl_callB {id : String} {r : List V → Hp → VK → Prop} {q : List D → Option (List D)} (hc : CallR X (.builtin id) r) (hS : CaN G r q) (hg : Gl X x) (hm : X.mg x = none) (hv : bootBuiltins x = some (.builtin id)) (ha : PA X (e :: es) (tEa G Z W fa)) (hn : x ≠ "__name__" := by decide) (hdb : (x == ("__debug__" : Str)) = false := by decide)
    (he : starEach (e :: es) X.env = (false, eval e X.env) :: starEach es X.env := by rfl) (hpl : (backTo pos (starEach es X.env)).any (·.1) = false := by rfl) : PE X (.Call (.Name x p) (e :: es) [] pos) (tNl G Z W (aN q fa)) :=
  imp_pe (pe_callB hc hg hm hv ha hn hdb he hpl) fun σ H Q h => tcb_nl hS h
theorem nl_callTy {T : String} {r : List V → Hp → VK → Prop} {q : List D → Option (List D)} (hc : CallR X (.type T) r) (hS : CaN G r q) (hg : Gl X x) (hm : X.mg x = none) (hv : bootBuiltins x = some (.type T)) (ha : PA X (e :: es) (tEa G Z W fa)) (hn : x ≠ "__name__" := by decide) (hdb : (x == ("__debug__" : Str)) = false := by decide)
    (he : starEach (e :: es) X.env = (false, eval e X.env) :: starEach es X.env := by rfl) (hpl : (backTo pos (starEach es X.env)).any (·.1) = false := by rfl) : PE X (.Call (.Name x p) (e :: es) [] pos) (tNl G Z W (aN q fa)) :=
  imp_pe (pe_callTy hc hg hm hv ha hn hdb he hpl) fun σ H Q h => tcb_nl hS h
def lenOk (ds : List D) : Option (List D) := if ds.length ≤ sizeLine then some ds else none
theorem nl_lst (h : PA X es (tEa G Z W fa)) : PE X (.List es pos) (tNl G Z W (aN lenOk fa)) :=
  imp_pe (pe_lst h) fun σ H Q ⟨B, O, ρ, s, d, s', eo, hR, hf, q⟩ => by
    unfold aN at hf
    obtain ⟨x, s1, h1, hf⟩ := bnd_some hf
    obtain ⟨h3, rfl⟩ := put_some hf
    unfold lenOk at h3
    split at h3
    · cases h3
      refine ⟨B, O, ρ, s, d, _, eo, hR, h1, fun v H1 f1 r1 R1 => ⟨by rw [r1.len]; assumption, fun l hl => ?_⟩⟩
      exact q l v _ (f1.free hl) (f1.trans (Lc.Fr.new hl)) upd_same (nl_of hl r1 _) (Z.same R1 (Lc.same_new hl))
    · cases h3
def aCat (f g : Ev S) : Ea S := fun ρ s => bnd (f ρ s) fun x s => bnd (g ρ s) fun y s => match x, y with
  | .list a, .list b => if a.length + b.length ≤ sizeLine then some (a ++ b, s) else none
  | _, _ => none
theorem nl_cat (ha : PE X a (tEx G Z W f)) (hb : PE X b (tEx G Z W g)) : PE X (.BinOp a .Add b pos) (tNl G Z W (aCat f g)) :=
  imp_pe (pe_op op_cat ha hb) fun σ H Q ⟨B, O, ρ, s, d, s', eo, hR, hf, q⟩ => by
    unfold aCat at hf
    obtain ⟨x, s1, h1, hf⟩ := bnd_some hf
    obtain ⟨y, s2, h2, hf⟩ := bnd_some hf
    split at hf
    · split at hf
      · cases hf
        refine ⟨B, O, ρ, s, _, s1, eo, hR, h1, fun v H1 f1 r1 R1 => ⟨B, O, ρ, s1, _, _, eo.fr f1, R1, h2, fun u H2 f2 r2 R2 => ?_⟩⟩
        obtain ⟨a1, us, rfl, h3, _, h4⟩ := (r1.fr f2 fun a z => Or.inl (eo.mb a z)).sqL
        obtain ⟨b1, vs, rfl, h5, _, h6⟩ := r2.sqL
        refine ⟨a1, b1, us, vs, rfl, rfl, h3, h5, by rw [h4.len, h6.len]; assumption, fun l hl => ?_⟩
        exact q l _ _ ((f1.trans f2).free hl) ((f1.trans f2).trans (Lc.Fr.new hl)) upd_same (nl_of hl (h4.append h6) _) (Z.same R2 (Lc.same_new hl))
      · cases hf
    · cases hf
/-! ### what is built in -/
def pLen : List D → Option D
  | [.list ds] => some (.int ds.length)
  | [.tuple ds] => some (.int ds.length)
  | [.str z] => if z.length ≤ sizeLine then some (.int z.length) else none
  | _ => none
theorem od_len : CallR X (.builtin "len") (orC (Lc.rLenQ X.K) (fun xs H Q => ∃ z, xs = [.str z] ∧ z.length ≤ sizeLine ∧ Q (.int z.length) H)) := or_ca call_len_seq call_len_str
theorem os_len : CaS G (orC (Lc.rLenQ G.K) (fun xs H Q => ∃ z, xs = [.str z] ∧ z.length ≤ sizeLine ∧ Q (.int z.length) H)) pLen := by
  intro B H xs ds d Q bd hr hp q
  unfold pLen at hp
  split at hp
  · cases hp
    simp only [Reps] at hr
    obtain ⟨v, r, rfl, h1, rfl⟩ := hr
    obtain ⟨a, vs, rfl, _, h2, h3⟩ := h1.sqL
    exact .inl ⟨a, vs, rfl, .inl h2, q _ H (Same.refl H) (by simp only [Rep]; rw [h3.len])⟩
  · cases hp
    simp only [Reps] at hr
    obtain ⟨v, r, rfl, h1, rfl⟩ := hr
    obtain ⟨a, vs, rfl, h2, h3⟩ := h1.sqT
    exact .inl ⟨a, vs, rfl, .inr h2, q _ H (Same.refl H) (by simp only [Rep]; rw [h3.len])⟩
  · split at hp
    · cases hp
      simp only [Reps, Rep] at hr
      obtain ⟨v, r, rfl, rfl, rfl⟩ := hr
      exact .inr ⟨_, rfl, by assumption, q _ H (Same.refl H) (by simp only [Rep])⟩
    · cases hp
  · cases hp
def pList : List D → Option (List D)
  | [.list ds] => some ds
  | [.tuple ds] => some ds
  | _ => none
def rListQ (K : PySem.W.Frag) : List V → Hp → VK → Prop := fun xs H Q => ∃ p ys, xs = [.ref p] ∧ (SqL K H p ys ∨ SqT K H p ys) ∧ ∀ l, H l = none → Q (.ref l) (upd H l (.lst ys))
theorem od_list : CallR X (.type "list") (rListQ X.K) := call_list_of
theorem on_list : CaN G (rListQ G.K) pList := by
  intro B H xs ds es Q bd hr hp q
  unfold pList at hp
  split at hp
  · cases hp
    simp only [Reps] at hr
    obtain ⟨v, r, rfl, h1, rfl⟩ := hr
    obtain ⟨a, vs, rfl, _, h2, h3⟩ := h1.sqL
    exact ⟨a, vs, rfl, .inl h2, fun l hl => q l vs hl h3⟩
  · cases hp
    simp only [Reps] at hr
    obtain ⟨v, r, rfl, h1, rfl⟩ := hr
    obtain ⟨a, vs, rfl, h2, h3⟩ := h1.sqT
    exact ⟨a, vs, rfl, .inr h2, fun l hl => q l vs hl h3⟩
  · cases hp
def pTuple : List D → Option D
  | [.list ds] => some (.tuple ds)
  | [.tuple ds] => some (.tuple ds)
  | _ => none
def rTupQ (K : PySem.W.Frag) : List V → Hp → VK → Prop := fun xs H Q => ∃ p ys, xs = [.ref p] ∧ ((SqL K H p ys ∧ ∀ l, H l = none → Q (.ref l) (upd H l (.tup ys))) ∨ (SqT K H p ys ∧ Q (.ref p) H))
theorem od_tuple : CallR X (.type "tuple") (rTupQ X.K) := call_tuple_of
theorem os_tuple : CaS G (rTupQ G.K) pTuple := by
  intro B H xs ds d Q bd hr hp q
  unfold pTuple at hp
  split at hp
  · cases hp
    simp only [Reps] at hr
    obtain ⟨v, r, rfl, h1, rfl⟩ := hr
    obtain ⟨a, vs, rfl, _, h2, h3⟩ := h1.sqL
    exact ⟨a, vs, rfl, .inl ⟨h2, fun l hl => q _ _ (Lc.same_new hl) (rep_tup bd hl h3)⟩⟩
  · cases hp
    simp only [Reps] at hr
    obtain ⟨v, r, rfl, h1, rfl⟩ := hr
    obtain ⟨a, vs, rfl, h2, h3⟩ := h1.sqT
    exact ⟨a, vs, rfl, .inr ⟨h2, q _ H (Same.refl H) h1⟩⟩
  · cases hp
def pInt : List D → Option D
  | [.int i] => some (.int i)
  | [.bool k] => some (.int (if k then 1 else 0))
  | _ => none
theorem os_int : CaS G (fun xs H Q => (∃ i, xs = [.int i] ∧ Q (.int i) H) ∨ ∃ k, xs = [.bl k] ∧ Q (.int (if k then 1 else 0)) H) pInt := by
  intro B H xs ds d Q bd hr hp q
  unfold pInt at hp
  split at hp
  · cases hp
    simp only [Reps, Rep] at hr
    obtain ⟨v, r, rfl, rfl, rfl⟩ := hr
    exact .inl ⟨_, rfl, q _ H (Same.refl H) (by simp only [Rep])⟩
  · cases hp
    simp only [Reps, Rep] at hr
    obtain ⟨v, r, rfl, rfl, rfl⟩ := hr
    exact .inr ⟨_, rfl, q _ H (Same.refl H) (by simp only [Rep])⟩
  · cases hp
def pStr : List D → Option D
  | [.int i] => if i.natAbs.log2 < 1920 then some (.str (toString i)) else none
  | _ => none
theorem os_str : CaS G (fun xs H Q => ∃ i : Int, xs = [.int i] ∧ i.natAbs.log2 < 1920 ∧ Q (.str (toString i)) H) pStr := by
  intro B H xs ds d Q bd hr hp q
  unfold pStr at hp
  split at hp
  · split at hp
    · cases hp
      simp only [Reps, Rep] at hr
      obtain ⟨v, r, rfl, rfl, rfl⟩ := hr
      exact ⟨_, rfl, by assumption, q _ H (Same.refl H) (by simp only [Rep])⟩
    · cases hp
  · cases hp
def pSum : List D → Option D
  | [.list ds] => (dInts ds).map fun ns => .int ns.sum
  | _ => none
theorem os_sum : CaS G (rSum G.K) pSum := by
  intro B H xs ds d Q bd hr hp q
  unfold pSum at hp
  split at hp
  · rw [Option.map_eq_some_iff] at hp
    obtain ⟨ns, h0, rfl⟩ := hp
    simp only [Reps] at hr
    obtain ⟨v, r, rfl, h1, rfl⟩ := hr
    obtain ⟨a, vs, rfl, _, h2, h3⟩ := h1.sqL
    rw [ints_some h0] at h3
    rw [h3.ints] at h2
    exact ⟨a, ns, rfl, h2, q _ H (Same.refl H) (by simp only [Rep])⟩
  · cases hp
def dBools : List D → Option (List Bool)
  | [] => some []
  | .bool i :: ds => (dBools ds).map (i :: ·)
  | _ => none
theorem dBools_some : ∀ {ds : List D} {ns : List Bool}, dBools ds = some ns → ds = ns.map .bool
  | [], ns, h => by simp [dBools] at h; subst h; rfl
  | .bool i :: ds, ns, h => by
    simp only [dBools, Option.map_eq_some_iff] at h
    obtain ⟨ms, h1, rfl⟩ := h
    rw [dBools_some h1]
    rfl
  | .none :: _, _, h => by simp [dBools] at h
  | .int _ :: _, _, h => by simp [dBools] at h
  | .str _ :: _, _, h => by simp [dBools] at h
  | .list _ :: _, _, h => by simp [dBools] at h
  | .tuple _ :: _, _, h => by simp [dBools] at h
  | .dict _ :: _, _, h => by simp [dBools] at h
@[simp] theorem dBools_map (ns : List Bool) : dBools (ns.map .bool) = some ns := by
  induction ns with
  | nil => rfl
  | cons n ns ih => simp [dBools, ih]
def pAll : List D → Option D
  | [.list ds] => (dBools ds).map fun ns => .bool (ns.all id)
  | _ => none
def pAny : List D → Option D
  | [.list ds] => (dBools ds).map fun ns => .bool (ns.any id)
  | _ => none
theorem os_all : CaS G (rAll G.K) pAll := by
  intro B H xs ds d Q bd hr hp q
  unfold pAll at hp
  split at hp
  · rw [Option.map_eq_some_iff] at hp
    obtain ⟨ns, h0, rfl⟩ := hp
    simp only [Reps] at hr
    obtain ⟨v, r, rfl, h1, rfl⟩ := hr
    obtain ⟨a, vs, rfl, _, h2, h3⟩ := h1.sqL
    rw [dBools_some h0] at h3
    rw [h3.bools] at h2
    exact ⟨a, ns, rfl, h2, q _ H (Same.refl H) (by simp only [Rep])⟩
  · cases hp
theorem os_any : CaS G (rAny G.K) pAny := by
  intro B H xs ds d Q bd hr hp q
  unfold pAny at hp
  split at hp
  · rw [Option.map_eq_some_iff] at hp
    obtain ⟨ns, h0, rfl⟩ := hp
    simp only [Reps] at hr
    obtain ⟨v, r, rfl, h1, rfl⟩ := hr
    obtain ⟨a, vs, rfl, _, h2, h3⟩ := h1.sqL
    rw [dBools_some h0] at h3
    rw [h3.bools] at h2
    exact ⟨a, ns, rfl, h2, q _ H (Same.refl H) (by simp only [Rep])⟩
  · cases hp
/-! isinstance of a class that is built in -/
def tyN : D → Option String
  | .none => some "NoneType"
  | .bool _ => some "bool"
  | .int _ => some "int"
  | .str _ => some "str"
  | .list _ => some "list"
  | .tuple _ => some "tuple"
  | .dict [] => some "dict"
  | .dict _ => none
def pIsi (T : String) (d : D) : Option D := (tyN d).bind fun t => (L2.kitB t T).map .bool
theorem tyX_of {B : Bar} {H : Hp} {d : D} {v : V} {t : String} (h : Rep G B H d v) (e : tyN d = some t) : TyX G.K H v (.type t) := by
  cases d with
  | none => simp only [Rep] at h; subst h; cases e; exact .base .non
  | bool b => simp only [Rep] at h; subst h; cases e; exact .base (.bl b)
  | int i => simp only [Rep] at h; subst h; cases e; exact .base (.int i)
  | str i => simp only [Rep] at h; subst h; cases e; exact .base (.str i)
  | list ds =>
    obtain ⟨a, vs, rfl, h1, _⟩ := h.sqL
    cases e
    exact .base (.lst h1)
  | tuple ds =>
    simp only [Rep] at h
    obtain ⟨a, vs, rfl, h1, _⟩ := h
    cases e
    rcases h1 with ⟨h1, _⟩ | ⟨o, its, n, h1, h2, _⟩
    · exact .base (.tup h1)
    · exact .kTuple h1 h2
  | dict kvs =>
    cases kvs with
    | nil =>
      cases e
      simp only [Rep] at h
      obtain ⟨a, rfl, ⟨n, z, _⟩ | ⟨_, h1, _⟩⟩ := h
      · cases z
      · exact .base (.dK h1)
    | cons x xs => cases e
theorem ex_isi {Ts : String} (hg : Gl X "isinstance") (hm : X.mg "isinstance" = none) (ha : PE X a (tEx G Z W f)) (hb : PE X b (tC (.ty Ts)))
    (hK : X.K = G.K := by rfl) (he : starEach [a, b] X.env = (false, eval a X.env) :: starEach [b] X.env := by rfl) (he2 : starEach [b] X.env = (false, eval b X.env) :: starEach [] X.env := by rfl) (hpl : (backTo pos (starEach [b] X.env)).any (·.1) = false := by rfl) (hv : bootBuiltins "isinstance" = some (.builtin "isinstance") := by decide +kernel) :
    PE X (.Call (.Name "isinstance" p) [a, b] [] pos) (tEx G Z W (cU (pIsi Ts) f)) :=
  imp_pe (pe_callB call_isi hg hm hv (pa_cons ha (pa_cons hb pa_nil he2) he) (by decide) (by decide) he hpl) fun σ H Q ⟨B, O, ρ, s, d, s', eo, hR, hf, q⟩ => by
    unfold cU at hf
    obtain ⟨y, s1, h1, hf⟩ := bnd_some hf
    obtain ⟨h3, rfl⟩ := put_some hf
    unfold pIsi at h3
    rw [Option.bind_eq_some_iff] at h3
    obtain ⟨t, h4, h5⟩ := h3
    rw [Option.map_eq_some_iff] at h5
    obtain ⟨k, h6, rfl⟩ := h5
    refine ⟨B, O, ρ, s, y, _, eo, hR, h1, fun v H1 f1 r1 R1 => ?_⟩
    refine ⟨v, .ty Ts, .type t, .type Ts, k, rfl, .ty Ts, by rw [hK]; exact tyX_of r1 h4, kit_ty h6, q _ H1 f1 (by simp only [Rep]) R1⟩
/-! methods of texts -/
def pJoin : D → D → Option D
  | .str a, .list ds => match dStrs ds with
    | some ys => if (ys.map (·.length)).sum + ys.length * a.length ≤ 16777216 then some (.str (Txt.join a ys)) else none
    | none => none
  | .str a, .tuple ds => match dStrs ds with
    | some ys => if (ys.map (·.length)).sum + ys.length * a.length ≤ 16777216 then some (.str (Txt.join a ys)) else none
    | none => none
  | _, _ => none
theorem ex_join {o : Expr} {apos : Pos} (ho : PE X o (tEx G Z W f)) (he : PE X e (tEx G Z W g)) (hK : X.K = G.K := by rfl) (hs : starEach [e] X.env = [(false, eval e X.env)] := by rfl) (hbase : attributeBase o "join" X.env (eval o X.env) = eval o X.env := by rfl) (hline : (apos.endLine == pos.line) = true := by rfl) :
    PE X (.Call (.Attribute o "join" apos) [e] [] pos) (tEx G Z W (cB pJoin f g)) :=
  imp_pe (pe_join ho he hs hbase hline) fun σ H Q ⟨B, O, ρ, s, d, s', eo, hR, hf, q⟩ => by
    unfold cB at hf
    obtain ⟨x, s1, h1, hf⟩ := bnd_some hf
    obtain ⟨y, s2, h2, hf⟩ := bnd_some hf
    obtain ⟨h3, rfl⟩ := put_some hf
    refine ⟨B, O, ρ, s, x, s1, eo, hR, h1, fun v H1 f1 r1 R1 => ?_⟩
    unfold pJoin at h3
    split at h3
    · split at h3
      · split at h3
        · rename_i hy hl
          cases h3
          simp only [Rep] at r1
          refine ⟨⟨_, r1⟩, B, O, ρ, s1, _, _, eo.fr f1, R1, h2, fun u H2 f2 r2 R2 => ?_⟩
          obtain ⟨b1, vs, rfl, _, h5, h6⟩ := r2.sqL
          rw [strs_some hy] at h6
          rw [h6.strs] at h5
          exact ⟨_, b1, _, r1, rfl, .inl (by rw [hK]; exact h5), hl, q _ H2 (f1.trans f2) (by simp only [Rep]) R2⟩
        · cases h3
      · cases h3
    · split at h3
      · split at h3
        · rename_i hy hl
          cases h3
          simp only [Rep] at r1
          refine ⟨⟨_, r1⟩, B, O, ρ, s1, _, _, eo.fr f1, R1, h2, fun u H2 f2 r2 R2 => ?_⟩
          obtain ⟨b1, vs, rfl, h5, h6⟩ := r2.sqT
          rw [strs_some hy] at h6
          rw [h6.strs] at h5
          exact ⟨_, b1, _, r1, rfl, .inr (by rw [hK]; exact h5), hl, q _ H2 (f1.trans f2) (by simp only [Rep]) R2⟩
        · cases h3
      · cases h3
    · cases h3
def aSplit (f g : Ev S) : Ea S := fun ρ s => bnd (f ρ s) fun x s => bnd (g ρ s) fun y s => match x, y with
  | .str a, .str b => if (b.length == 0) = false ∧ a.length + 2 ≤ sizeLine then some ((Txt.split a b).map .str, s) else none
  | _, _ => none
theorem nl_split {o : Expr} {apos : Pos} (ho : PE X o (tEx G Z W f)) (he : PE X e (tEx G Z W g)) (hs : starEach [e] X.env = [(false, eval e X.env)] := by rfl) (hbase : attributeBase o "split" X.env (eval o X.env) = eval o X.env := by rfl) (hline : (apos.endLine == pos.line) = true := by rfl) :
    PE X (.Call (.Attribute o "split" apos) [e] [] pos) (tNl G Z W (aSplit f g)) :=
  imp_pe (pe_split ho he hs hbase hline) fun σ H Q ⟨B, O, ρ, s, d, s', eo, hR, hf, q⟩ => by
    unfold aSplit at hf
    obtain ⟨x, s1, h1, hf⟩ := bnd_some hf
    obtain ⟨y, s2, h2, hf⟩ := bnd_some hf
    split at hf
    · split at hf
      · rename_i hc
        cases hf
        refine ⟨B, O, ρ, s, _, s1, eo, hR, h1, fun v H1 f1 r1 R1 => ?_⟩
        simp only [Rep] at r1
        refine ⟨⟨_, r1⟩, B, O, ρ, s1, _, _, eo.fr f1, R1, h2, fun u H2 f2 r2 R2 => ?_⟩
        simp only [Rep] at r2
        subst r2
        refine ⟨_, _, r1, rfl, hc.1, hc.2, fun l hl => ?_⟩
        exact q l _ _ ((f1.trans f2).free hl) ((f1.trans f2).trans (Lc.Fr.new hl)) upd_same reps_strs (Z.same R2 (Lc.same_new hl))
      · cases hf
    · cases hf
def pUpper : D → Option D
  | .str a => if a.length ≤ 5592405 then some (.str (Txt.upper a)) else none
  | _ => none
theorem ex_upper {o : Expr} {apos : Pos} (ho : PE X o (tEx G Z W f)) (hbase : attributeBase o "upper" X.env (eval o X.env) = eval o X.env := by rfl) (hline : (apos.endLine == pos.line) = true := by rfl) :
    PE X (.Call (.Attribute o "upper" apos) [] [] pos) (tEx G Z W (cU pUpper f)) :=
  imp_pe (pe_upper ho hbase hline) fun σ H Q ⟨B, O, ρ, s, d, s', eo, hR, hf, q⟩ => by
    unfold cU at hf
    obtain ⟨x, s1, h1, hf⟩ := bnd_some hf
    obtain ⟨h3, rfl⟩ := put_some hf
    refine ⟨B, O, ρ, s, x, _, eo, hR, h1, fun v H1 f1 r1 R1 => ?_⟩
    unfold pUpper at h3
    split at h3
    · split at h3
      · cases h3
        simp only [Rep] at r1
        exact ⟨⟨_, r1⟩, _, r1, rfl, by assumption, q _ H1 f1 (by simp only [Rep]) R1⟩
      · cases h3
    · cases h3
end
end Dl
set_option Elab.async false
set_option linter.all false
set_option maxRecDepth 100000
set_option maxHeartbeats 4000000
/-! enumerate(t), t a tuple -/
namespace Lc
open PySem PySem.Spec PyProof.Rows L2
open AutoSeq1 (wpAny_loadPart')
theorem meets_enumT (l : Addr) (xs : Array Value) (n : Nat) (dct : Option Addr) (sl : Array (Option Value)) :
    Meets (Builtin.«enumerate.__new__» ⟨[.type "enumerate", .ref l], []⟩) (fun _ R s => s.heap.get? l = some { cls := .type "tuple", dict := dct, data := .seq xs n, slots := sl } ∧
      R (.ok (.ret (.ref (s.heap.push { cls := .type "tuple_iterator", data := .fields #[.ref l, .int 0 0] }).objs.size)))
        { s with heap := (s.heap.push { cls := .type "tuple_iterator", data := .fields #[.ref l, .int 0 0] }).push { cls := .type "enumerate", data := .fields #[.none, .bool false, .ref s.heap.objs.size, rawInt 0, .none, .none] } }) :=
  .of_wp fun prog w A R s h => by
    obtain ⟨hp, gs, dr, tk, os⟩ := s
    obtain ⟨hl, h⟩ := h
    have hsub := sub_enumerate
    have hT : Heap.IsTuple (Shared.heap ⟨hp, gs, dr, tk, os⟩) l xs := ⟨_, hl, rfl, n, rfl⟩
    (wp_walk using wpAny_loadPart' hl); (refine wpAny_stack_any fun sk => wpAny_pure ?_)
    split
    · rename_i c _ _ _ _ _
      cases (c == Value.type "enumerate") <;> (wp_walk using wpAny_loadPart' hl, wpAny_pyIter_tuple hT; exact ⟨_, rfl, h⟩)
    · wp_walk using wpAny_loadPart' hl, wpAny_pyIter_tuple hT
      exact ⟨_, rfl, h⟩
section
variable {prog : Program} {w : World} {A : Around} {E : Value → Shared → Prop} {s : Shared}
theorem call_enumT {l : Addr} {xs : Array Value} {Q : Value → Shared → Prop} (hT : s.heap.IsTuple l xs)
    (h : ∀ h', IsEnum h' (s.heap.objs.size + 1) s.heap.objs.size 0 .none → h'.IsTupleIter s.heap.objs.size l 0 → h'.objs.size = s.heap.objs.size + 2 → (∀ b o, s.heap.get? b = some o → h'.get? b = some o) → Q (.ref (s.heap.objs.size + 1)) { s with heap := h' }) :
    wpAny (model prog w) A (call (.type "enumerate") [.ref l]) Q E s := by
  obtain ⟨⟨c, dct, dt, sl⟩, hl, hc, n, hd⟩ := hT
  obtain rfl : c = .type "tuple" := hc
  obtain rfl : dt = .seq xs n := hd
  refine callType_new F.called_enumerate (by decide) (F.typeCall_enumerate_1 _) (F.newCall_enumerate_1 _) (fun ob => F.args_object_init_2 ob _) F.entry_enumerate_new (meets_enumT l xs n dct sl) ⟨hl, ?_⟩
  have hz : (s.heap.push { cls := .type "tuple_iterator", data := .fields #[.ref l, .int 0 0] }).objs.size = s.heap.objs.size + 1 := Heap.size_push ..
  show _ ∧ _
  rw [hz]
  have he : IsEnum ((s.heap.push { cls := .type "tuple_iterator", data := .fields #[.ref l, .int 0 0] }).push { cls := .type "enumerate", data := .fields #[.none, .bool false, .ref s.heap.objs.size, rawInt 0, .none, .none] }) (s.heap.objs.size + 1) s.heap.objs.size 0 .none := by
    have := Heap.get?_push_size (s.heap.push { cls := .type "tuple_iterator", data := .fields #[.ref l, .int 0 0] }) (o := { cls := .type "enumerate", data := .fields #[.none, .bool false, .ref s.heap.objs.size, rawInt 0, .none, .none] }) rfl
    rw [hz] at this
    exact this
  exact ⟨⟨_, he, rfl⟩, h _ he ⟨_, Heap.get?_push_of_some _ (Heap.get?_push_size _ rfl), rfl, rfl⟩ (by rw [Heap.size_push, hz]) fun b o e => Heap.get?_push_of_some _ (Heap.get?_push_of_some _ e)⟩
/-- the next pair, whatever is walked within -/
theorem enum_item {e it : Addr} {i : Nat} {x old : Value} {J : Heap → Prop} {Q : Value → Shared → Prop} (he : IsEnum s.heap e it i old) (hne : e ≠ it)
    (hn : ∀ R : Value → Shared → Prop, (∀ k, J k → Heap.SameBut it s.heap k → R x { s with heap := k }) → wpAny (model prog w) A (Builtin.SmallTypes.nextOf (.ref it)) R E s)
    (hJ : ∀ k k' : Heap, J k → (∀ b o, b ≠ e → k.get? b = some o → k'.get? b = some o) → J k')
    (hQ : ∀ k, IsEnumOut k e it ((i : Int) + 1) x s.heap.objs.size → J k → k.get? s.heap.objs.size = some { cls := .type "tuple", data := .seq #[.int i s.toks, x] } → k.objs.size = s.heap.objs.size + 1 → (∀ b o, b ≠ e → b ≠ it → s.heap.get? b = some o → k.get? b = some o) → Q (.ref s.heap.objs.size) { s with heap := k, toks := s.toks + 1 }) :
    wpAny (model prog w) A (Builtin.«enumerate.__next__» ⟨[.ref e], []⟩) (fun fin s' => ∃ v, fin = .done (.ret v) ∧ Q v s') E s := by
  obtain ⟨hp, gs, dr, tk, os⟩ := s
  show wpAny _ _ (field (.ref e) 2 >>= _) _ _ ⟨hp, gs, dr, tk, os⟩
  refine wpAny_bind (wpAny_field he rfl (x := Value.ref it) rfl (wpAny_bind (hn _ fun k1 j1 b1 => ?_)))
  have b1 : Heap.SameBut it hp k1 := b1
  have e1 : IsEnum k1 e it i old := (b1.2 e hne).trans he
  show wpAny _ _ (field (.ref e) 3 >>= _) _ _ ⟨k1, gs, dr, tk, os⟩
  refine wpAny_bind (wpAny_field e1 rfl (x := rawInt i) rfl ?_)
  show wpAny _ _ (field (.ref e) 4 >>= _) _ _ ⟨k1, gs, dr, tk, os⟩
  refine wpAny_bind (wpAny_field e1 rfl (x := Value.none) rfl ?_)
  show wpAny _ _ (mkInt i >>= _) _ _ ⟨k1, gs, dr, tk, os⟩
  refine wpAny_bind (m := mkInt i) (wpAny_mkInt ?_)
  show wpAny _ _ (setField (.ref e) 3 (rawInt ((i : Int) + 1)) >>= _) _ _ ⟨k1, gs, dr, tk + 1, os⟩
  refine wpAny_bind (wpAny_setField_rec e1 (by simp) fun k2 e2 b2 => ?_)
  have b2 : Heap.SameBut e k1 k2 := b2
  have e2 : IsEnum k2 e it ((i : Int) + 1) old := e2
  show wpAny _ _ (setField (.ref e) 4 .none >>= _) _ _ ⟨k2, gs, dr, tk + 1, os⟩
  refine wpAny_bind (wpAny_setField_rec e2 (by simp) fun k3 e3 b3 => ?_)
  have b3 : Heap.SameBut e k2 k3 := b3
  have e3 : IsEnum k3 e it ((i : Int) + 1) old := e3
  show wpAny _ _ (newTuple [.int i tk, x] >>= _) _ _ ⟨k3, gs, dr, tk + 1, os⟩
  refine wpAny_bind (m := newTuple [.int i tk, x]) (wpAny_newTuple ?_)
  have j3 : J k3 := hJ k1 k3 j1 fun b o nb q => b3.extBut b o nb (b2.extBut b o nb q)
  have sz3 : k3.objs.size = hp.objs.size := by rw [b3.1, b2.1, b1.1]
  have le : e < hp.objs.size := Heap.lt_size he
  have kp3 : ∀ b o, b ≠ e → b ≠ it → hp.get? b = some o → k3.get? b = some o := fun b o n1 n2 q => b3.extBut b o n1 (b2.extBut b o n1 (b1.extBut b o n2 q))
  obtain ⟨k4, hk4⟩ : ∃ k4, k4 = k3.push { cls := .type "tuple", data := .seq #[.int i tk, x] } := ⟨_, rfl⟩
  have e4 : IsEnum k4 e it ((i : Int) + 1) old := by rw [hk4]; exact Heap.get?_push_of_some _ e3
  have j4 : J k4 := hJ k3 k4 j3 fun b o _ q => by rw [hk4]; exact Heap.get?_push_of_some _ q
  have t4 : k4.get? hp.objs.size = some { cls := .type "tuple", data := .seq #[.int i tk, x] } := by rw [hk4, ← sz3]; exact Heap.get?_push_size _ rfl
  have z4 : k4.objs.size = hp.objs.size + 1 := by rw [hk4, Heap.size_push, sz3]
  have kp4 : ∀ b o, b ≠ e → b ≠ it → hp.get? b = some o → k4.get? b = some o := fun b o n1 n2 q => by rw [hk4]; exact Heap.get?_push_of_some _ (kp3 b o n1 n2 q)
  show wpAny _ _ (Builtin.SmallTypes.ownedTupleIsFree (.ref e) >>= _) _ _ ⟨k3.push { cls := .type "tuple", data := .seq #[.int i tk, x] }, gs, dr, tk + 1, os⟩
  rw [sz3, ← hk4]
  refine wpAny_bind ?_
  unfold Builtin.SmallTypes.ownedTupleIsFree
  refine wpAny_bind (wpAny_field e4 rfl (x := Value.none) rfl (wpAny_pure ?_))
  simp only [if_true]
  refine wpAny_bind (wpAny_rule (wpAny_bind (wpAny_field e4 rfl (x := old) rfl (wpAny_bind (wpAny_setField_rec e4 (by simp) fun k5 e5 b5 => ?_)))))
  have b5 : Heap.SameBut e k4 k5 := b5
  have e5 : IsEnum k5 e it ((i : Int) + 1) x := e5
  show wpAny _ _ (Builtin.SmallTypes.ownedTupleHandOut (.ref e) (.ref hp.objs.size) >>= _) _ _ ⟨k5, gs, dr, tk + 1, os⟩
  refine wpAny_bind ?_
  unfold Builtin.SmallTypes.ownedTupleHandOut
  refine wpAny_bind (wpAny_setField_rec e5 (by simp) fun k6 e6 b6 => ?_)
  have b6 : Heap.SameBut e k5 k6 := b6
  have e6 : IsEnumOut k6 e it ((i : Int) + 1) x hp.objs.size := e6
  refine wpAny_setField_rec e6 (by simp) fun k7 e7 b7 => ?_
  have b7 : Heap.SameBut e k6 k7 := b7
  have e7 : IsEnumOut k7 e it ((i : Int) + 1) x hp.objs.size := e7
  have al : ∀ b o, b ≠ e → k4.get? b = some o → k7.get? b = some o := fun b o nb q => b7.extBut b o nb (b6.extBut b o nb (b5.extBut b o nb q))
  exact wpAny_bind (wpAny_letGo (wpAny_pure ⟨_, rfl, hQ k7 e7 (hJ k4 k7 j4 al) (al _ _ (Nat.ne_of_gt le) t4) (by rw [b7.1, b6.1, b5.1, z4]) fun b o n1 n2 q => al b o n1 (kp4 b o n1 n2 q)⟩))
theorem nextEnumT_item {e it t : Addr} {i : Nat} {xs : Array Value} {x old : Value} {Q : Option Value → Shared → Prop} (he : IsEnum s.heap e it i old) (hit : s.heap.IsTupleIter it t i) (ht : s.heap.IsTuple t xs) (hx : xs[i]? = some x) (hne : e ≠ it)
    (hQ : ∀ k, IsEnumOut k e it ((i : Int) + 1) x s.heap.objs.size → k.IsTupleIter it t (i + 1) → k.get? s.heap.objs.size = some { cls := .type "tuple", data := .seq #[.int i s.toks, x] } → k.objs.size = s.heap.objs.size + 1 → (∀ b o, b ≠ e → b ≠ it → s.heap.get? b = some o → k.get? b = some o) → Q (some (.ref s.heap.objs.size)) { s with heap := k, toks := s.toks + 1 }) :
    wpAny (model prog w) A (pyNext (.ref e)) Q E s := by
  have hT : s.TypeIs (.ref e) "enumerate" := ⟨_, he, rfl⟩
  unfold pyNext
  refine wpAny_bind (wpAny_attempt (wpAny_callSpecial?_slot (name := Str.ofString "__next__") hT F.slot_enumerate_next (wpAny_call_entry F.slot_enumerate_next hT F.entry_enumerate_next (enum_item (J := fun k => k.IsTupleIter it t (i + 1)) he hne (fun R hR => RZ.nextOf_tuple_item hit ht hx hR) (fun k k' j al => ?_) fun k a b c d m => wpAny_pure (hQ k a b c d m)) (F.args_enumerate_next_1 _))))
  obtain ⟨o, ho, r⟩ := j
  exact ⟨o, al it o (Ne.symm hne) ho, r⟩
theorem nextEnumT_end {e it t : Addr} {i : Nat} {xs : Array Value} {old : Value} {Q : Option Value → Shared → Prop} (hh : A.handled = none) (he : IsEnum s.heap e it i old) (hit : s.heap.IsTupleIter it t i) (ht : s.heap.IsTuple t xs) (hx : xs[i]? = none)
    (hQ : ∀ k, Heap.ExtBut it s.heap k → Q none { s with heap := k }) : wpAny (model prog w) A (pyNext (.ref e)) Q E s := by
  have hT : s.TypeIs (.ref e) "enumerate" := ⟨_, he, rfl⟩
  unfold pyNext
  refine wpAny_bind (wpAny_attempt (wpAny_callSpecial?_slot (name := Str.ofString "__next__") hT F.slot_enumerate_next (wpAny_call_entry F.slot_enumerate_next hT F.entry_enumerate_next ?_ (F.args_enumerate_next_1 _))))
  show wpAny _ _ (field (.ref e) 2 >>= _) _ _ _
  refine wpAny_bind (wpAny_field he rfl (x := Value.ref it) rfl (wpAny_bind (RZ.nextOf_tuple_end hh hit ht hx fun k z ek ez => ?_)))
  obtain ⟨o, ho, hc⟩ := ez
  exact wpAny_bind (wpAny_isInstance (T := "StopIteration") (b := true) ⟨o, ho, hc⟩ isSubtype_stop (wpAny_pure (hQ _ ek)))
end
/-! ### the rule -/
/-- the tuple at a as it stands at each turn, each item in a new pair -/
def ItT (K : PySem.W.Frag) (a : Addr) : It :=
  ⟨fun i H => ∃ (xs : List V) (x : V), SqT K H a xs ∧ xs[i]? = some x, fun i H v H' => ∃ p x, v = .ref p ∧ H p = none ∧ H' = upd H p (.tup [.int (i : Nat), x]) ∧ ∀ xs, SqT K H a xs → xs[i]? = some x, fun i H => ∃ xs : List V, SqT K H a xs ∧ xs.length ≤ i⟩
theorem turn_enumT {P : Program} {w : World} {K : PySem.W.Frag} {es : List Expr} {kk : Nat} {tp : Pos} (a e it : Addr) :
    Turn P w K (.Tuple es kk tp) (ItT K a) [e, it] e (fun i h => (∃ old, IsEnum h e it ((i : Nat) : Int) old) ∧ h.IsTupleIter it a i ∧ e ≠ it) where
  mem := by simp
  obj := fun i h st b hb => by
    obtain ⟨⟨old, he⟩, ⟨o, ho, hc, hd⟩, _⟩ := st
    rcases (show b = e ∨ b = it by simpa using hb) with rfl | rfl
    · exact ⟨_, he, fun v z => nomatch z⟩
    · exact ⟨o, ho, fun v z => by rw [hd] at z; cases z⟩
  keep := fun i h h' st k => let ⟨⟨old, he⟩, hi, hne⟩ := st; ⟨⟨old, k e (by simp) _ he⟩, hi.at fun o z => k it (by simp) o z, hne⟩
  item := by
    intro X hP hw hK hc i pins s σ H E I hf st hg
    subst hP hw hK
    obtain ⟨⟨old, he⟩, hit, hne⟩ := st
    obtain ⟨xs, x, hq, hx⟩ := hg
    obtain ⟨its, rv, p, hz⟩ := I.tuple hq
    obtain ⟨u, hu, ru⟩ := rv.get hx
    have le : e < s.heap.objs.size := Heap.lt_size he
    have li : it < s.heap.objs.size := by obtain ⟨_, z, _⟩ := hit; exact Heap.lt_size z
    refine nextEnumT_item he hit p (x := u) (by simpa using hu) hne fun k ho hit' hT hsz hk => ?_
    refine ⟨_, rfl, wpAny_letOwnedTupleGo_enum (s := { s with heap := k, toks := s.toks + 1 }) ho fun k2 he' sb => ?_⟩
    have hT2 : k2.get? s.heap.objs.size = some { cls := .type "tuple", data := .seq #[.int i s.toks, u] } := (sb.2 _ (Nat.ne_of_gt le)).trans hT
    have I1 : Inv X pins σ (upd H s.heap.objs.size (.tup [.int (i : Nat), x])) { s with heap := k2, toks := s.toks + 1 } :=
      I.turnedNew (ch := [e, it]) (fun b ob hb z => (sb.2 b (fun y => hb (by simp [y]))).trans (hk b ob (fun y => hb (by simp [y])) (fun y => hb (by simp [y])) z)) hf (Nat.le_refl _) ⟨by show 2 ≤ sizeLine; decide, [.int i s.toks, u], .cons ⟨_, rfl⟩ (.cons ru .nil), ⟨_, hT2, rfl, _, rfl⟩⟩
    refine ⟨.ref s.heap.objs.size, _, I1, rfl, ⟨_, x, rfl, I.hok.fresh (Nat.le_refl _), rfl, fun ys hy => ?_⟩, ⟨⟨u, ?_⟩, hit'.at fun o z => (sb.2 it (Ne.symm hne)).trans z, hne⟩, fun b hb => ?_⟩
    · have e9 : ys = xs := I.tuple_inj hy hq
      rw [e9]
      exact hx
    · rw [show ((i + 1 : Nat) : Int) = (i : Int) + 1 by omega]
      exact he'
    · have lb : b < s.heap.objs.size := by
        rcases (show b = e ∨ b = it by simpa using hb) with rfl | rfl
        · exact le
        · exact li
      rw [upd_ne (Nat.ne_of_lt lb)]
      exact (hf b hb).1
  done := by
    intro X hP hw hK hc i pins s σ H E I hf st hg
    subst hP hw hK
    obtain ⟨⟨old, he⟩, hit, hne⟩ := st
    obtain ⟨xs, hq, hx⟩ := hg
    obtain ⟨its, rv, p, hz⟩ := I.tuple hq
    obtain ⟨f0, f1, f2, f3, f4, f5⟩ := hf it (by simp)
    have hl := rv.length
    exact nextEnumT_end (I.ok.hd hc) he hit p (by simp; omega) fun k eb => ⟨rfl, I.turned (t' := s.toks) (fun b o hb z => eb b o hb z) f0 f1 f3 f4 f5⟩
  self := fun A i s Q E st h => let ⟨⟨_, he⟩, _⟩ := st; wpAny_pyIter_enum he h
def iEnumT (K : PySem.W.Frag) (ta : TA) : TI := fun σ H R => ta σ H fun vs H1 => ∃ a xs, vs = [.ref a] ∧ SqT K H1 a xs ∧ R (ItT K a) H1
theorem pi_enumT {X : Cx} {e : Expr} {ta : TA} {p pos tp : Pos} {es : List Expr} {kk : Nat} (hg : Gl X "enumerate") (hm : X.mg "enumerate" = none) (ha : PA X [e] ta) (hs : starEach [e] X.env = [(false, eval e X.env)] := by rfl) :
    PI X (.Tuple es kk tp) (.Call (.Name "enumerate" p) [e] [] pos) (iEnumT X.K ta) := by
  refine ⟨fun pins s σ H R I h => Call_ (ld_blt I hg hm boot_enumerate (PyProof.Rows.callWith_type1 (thn (ha.run pos pins s σ H _ I h) fun us s1 ⟨vs, H1, I1, r1, q1⟩ => ?_) hs rfl))⟩
  obtain ⟨a, xs, ex, hq, q⟩ := q1
  subst ex
  cases r1 with
  | cons r rr =>
    cases rr
    cases r
    obtain ⟨its, rv, p', hz⟩ := I1.tuple hq
    refine call_enumT p' fun k he hit hsz hk => wpAny_pyIter_enum he ⟨s1.heap.objs.size + 1, [s1.heap.objs.size + 1, s1.heap.objs.size], _, _, H1, rfl, I1.kept (t' := s1.toks) hk, turn_enumT a (s1.heap.objs.size + 1) s1.heap.objs.size, ⟨⟨.none, he⟩, hit, Nat.succ_ne_self _⟩, fun b hb => ?_, q⟩
    have hle : s1.heap.objs.size ≤ b := by
      rcases (show b = s1.heap.objs.size + 1 ∨ b = s1.heap.objs.size by simpa using hb) with z | z
      · rw [z]; exact Nat.le_add_right _ _
      · rw [z]; exact Nat.le_refl _
    exact I1.fpOk hle (I1.hok.fresh hle)
theorem walk_enumT {K : PySem.W.Frag} {a : Addr} {xs : List V} : Walk (ItT K a) xs.length (fun H => SqT K H a xs) (YPair (fun i => some (.int (i : Nat))) (fun i => xs[i]?)) := by
  refine ⟨fun i _ hi q => ⟨xs, xs[i], q, by simp [hi]⟩, fun _ q => ⟨xs, q, Nat.le_refl _⟩, fun i H v H' _ q y => ?_⟩
  obtain ⟨p, x, h1, h2, h3, h4⟩ := y
  exact ⟨p, .int (i : Nat), x, h1, h2, h3, rfl, h4 xs q⟩
end Lc
set_option Elab.async false
set_option linter.all false
set_option maxRecDepth 100000
set_option maxHeartbeats 4000000
/-! list(s), s a text: its signs -/
namespace Lc
open PySem PySem.Spec PyProof.Rows L2
theorem vals_signs {z : Str} {acc : Array Value} (h : ItemsOf (SignAt z) acc z.cps.size) : Vals (z.cps.toList.map fun d => V.str ⟨#[d]⟩) acc.toList := by
  obtain ⟨hs, hi⟩ := h
  have go : ∀ (l : List Nat) (us : List Value), us.length = l.length → (∀ (i : Nat) (u : Value), us[i]? = some u → ∃ d t, l[i]? = some d ∧ u = .str ⟨#[d]⟩ t) → Vals (l.map fun d => V.str ⟨#[d]⟩) us := by
    intro l
    induction l with
    | nil =>
      intro us hl _
      have : us = [] := List.length_eq_zero_iff.mp hl
      rw [this]
      exact .nil
    | cons d r ih =>
      intro us hl hu
      cases us with
      | nil => simp at hl
      | cons u q =>
        obtain ⟨d', t, e1, e2⟩ := hu 0 u rfl
        cases e1
        refine .cons ⟨t, e2⟩ (ih q (by simpa using hl) fun i v hv => hu (i + 1) v hv)
  refine go _ _ (by simpa using hs) fun i u hu => ?_
  have hu2 : acc[i]? = some u := by rw [← Array.getElem?_toList]; exact hu
  obtain ⟨d, t, e1, e2⟩ := hi i u hu2
  exact ⟨d, t, by rw [Array.getElem?_toList]; exact e1, e2⟩
theorem call_listS {X : Cx} (hc : X.calm = true) : CallR X (.type "list") (fun xs H Q => ∃ z : Str, xs = [.str z] ∧ z.length ≤ sizeLine ∧ ∀ l, H l = none → Q (.ref l) (upd H l (.lst (z.cps.toList.map fun d => V.str ⟨#[d]⟩)))) := by
  intro pins s σ H xs us Q I r h
  obtain ⟨z, rfl, hz, q⟩ := h
  obtain ⟨u, rfl, t, rfl⟩ := vals1 r
  refine call_list_str (I.ok.hd hc) z t (fun k tk acc n hk hS hi => ?_) hz
  refine ⟨.ref s.heap.objs.size, upd H s.heap.objs.size (.lst (z.cps.toList.map fun d => V.str ⟨#[d]⟩)), I.laid (t' := tk) hk (Nat.le_refl _) ⟨?_, acc.toList, n, vals_signs hi, ?_⟩, rfl, q _ (I.hok.fresh (Nat.le_refl _))⟩
  · rw [List.length_map, Array.length_toList]
    exact hz
  · rw [Array.toArray_toList]
    exact hS
end Lc
set_option Elab.async false
set_option linter.all false
set_option maxRecDepth 100000
set_option maxHeartbeats 4000000
namespace Dl
open PySem PySem.Spec PyProof.Rows L2
section
variable {S : Type} {X : Cx} {G : Kx} {Z : Zk S} {W : List Nat} {f g : Ev S} {fa : Ea S} {F F' : Sv S} {a b c e tg : Expr} {es : List Expr} {st : Stmt} {rest : List Stmt} {pos p : Pos} {x : Str}
/-! ### own lists read -/
theorem et_weak {q : Et S} (h : PT X e (tEt G Z [] q)) : PT X e (tEt G Z W q) := imp_pt h fun σ H Q ⟨B, O, ρ, s, d, s', eo, hR, hf, k⟩ => ⟨B, fun _ => False, ρ, s, d, s', eo.weak, hR, hf, k⟩
def aFl (f : Ea S) : Ea S := fun ρ s => bnd (f ρ s) fun ds s => if flatDs ds = true then some (ds, s) else none
theorem nlw {σ : L2.St} {H : Hp} {Q : VK} (h : tNl G Z W (aFl fa) σ H Q) : tNl G Z [] fa σ H Q := by
  obtain ⟨B, O, ρ, s, d, s', eo, hR, hf, k⟩ := h
  unfold aFl at hf
  obtain ⟨ds, s1, h1, hf⟩ := bnd_some hf
  split at hf
  · rename_i hfl
    cases hf
    refine ⟨B, fun _ => False, ρ, s, d, _, eo.weak, hR, h1, fun p vs H' hp f1 h2 h3 R1 => k p vs H' hp f1 h2 ?_ R1⟩
    have e2 := eo.fr f1
    exact Reps.flat (B := fun a => B a ∨ a = p) e2.ol d vs hfl (h3.sub fun a z _ => .inl z)
  · cases hf
theorem nl_weak (h : PE X e (tNl G Z [] fa)) : PE X e (tNl G Z W (aFl fa)) := imp_pe h fun σ H Q q => nlw q
theorem ea_weak1 (h : PE X e (tEx G Z [] f)) : PE X e (tEx G Z W (cFl f)) := ex_weak h
/-! a name set to a new list, however it is made -/
theorem es_setNl {i : Nat} {t : TE} (h : PS X st (tAsg t (gName i))) (hn : ∀ σ H Q, tNl G Z W fa σ H Q → t σ H Q) (hw : W.contains i = false := by rfl) : PS X st (tSt G Z W (sSet i (cNl fa))) :=
  imp_ps h fun E σ H ⟨B, H0, O, ρ, s, r, s', sr, hf, k⟩ => by
    unfold sSet cNl at hf
    obtain ⟨d, s1, h1, hf⟩ := bnd_some hf
    obtain ⟨y, s2, h2, h1⟩ := bnd_some h1
    cases h1
    cases hf
    refine hn σ H _ ⟨B, O, ρ, s, y, _, sr.eo, sr.r, h2, fun p vs H' hp f1 h2 h3 R1 => ?_⟩
    have sr1 := sr.step f1 R1
    refine k O _ H' ⟨sr1.eo.set (by simpa using hw) ?_, sr1.fr, sr1.b0, sr1.o0, R1⟩ (Ch.of f1)
    simp only [Rep]
    exact ⟨p, vs, rfl, h2, sr.eo.new hp, h3.sub fun a z _ => z.elim (fun z => .inl (.inl z)) .inr⟩
theorem es_ownNl {i : Nat} {t : TE} (h : PS X st (tAsg t (gName i))) (hn : ∀ σ H Q, tNl G Z W fa σ H Q → t σ H Q) (hw : W.contains i = true := by rfl) : PS X st (tSt G Z W (sOwn i fa)) :=
  imp_ps h fun E σ H ⟨B, H0, O, ρ, s, r, s', sr, hf, k⟩ => by
    unfold sOwn at hf
    obtain ⟨d, s1, h1, hf⟩ := bnd_some hf
    cases hf
    refine hn σ H _ ⟨B, O, ρ, s, d, _, sr.eo, sr.r, h1, fun p vs H' hp f1 h2 h3 R1 => ?_⟩
    obtain ⟨sr2, ch2⟩ := sr.own (i := i) (by simpa using hw) hp f1 h2 h3 R1
    exact k _ _ H' sr2 ch2
/-! x op= e -/
def sAug (i : Nat) (p : D → D → Option D) (f : Ev S) : Sv S := fun ρ s => match ρ[i]? with
  | some (some x) => bnd (f ρ s) fun y s => match p x y with
    | some z => some (.nx (ρ.set i (some z)), s)
    | none => none
  | _ => none
theorem es_aug {i : Nat} {t : TIp} {q : D → D → Option D} (h : PS X st (tAug i (tEx G Z W f) t)) (ht : OpS G t q) (hw : W.contains i = false := by rfl) : PS X st (tSt G Z W (sAug i q f)) :=
  imp_ps h fun E σ H ⟨B, H0, O, ρ, s, r, s', sr, hf, k⟩ => by
    unfold sAug at hf
    split at hf
    · rename_i d hd
      obtain ⟨y, s1, h1, hf⟩ := bnd_some hf
      split at hf
      · rename_i z hz
        cases hf
        obtain ⟨v, h2, h3⟩ := sr.eo.er.pl i d (by simpa using hw) hd
        refine ⟨v, h2, B, O, ρ, s, y, _, sr.eo, sr.r, h1, fun u H1 f1 r1 R1 => ?_⟩
        have sr1 := sr.step f1 R1
        refine ht _ H1 v u d y z _ (fun a z => z.elim (sr1.eo.bd a) (sr1.eo.od a)) (h3.fr f1 fun a z => .inl (sr.mb a z)) r1 hz fun w H2 sm r2 => ?_
        have sr2 := sr1.step (Lc.Fr.of sm) (Z.same R1 sm)
        exact k O _ H2 ⟨sr2.eo.set (by simpa using hw) r2, sr2.fr, sr2.b0, sr2.o0, sr2.r⟩ (Ch.of (f1.trans (Lc.Fr.of sm)))
      · cases hf
    · cases hf
theorem os_ip {g : Int → Int → Int} : OpS G (ipI g) (pI0 fun i j => .int (g i j)) := by
  intro B H x y dx dy d Q bd hx hy hp q
  unfold pI0 at hp
  split at hp
  · cases hp
    simp only [Rep] at hx hy
    subst hx hy
    exact ⟨_, _, rfl, rfl, q _ H (Same.refl H) (by simp only [Rep])⟩
  · cases hp
/-! told.extend(..) -/
theorem es_ext {i : Nat} (h : PS X st (tDrop (tBM X.K "list" rExtend (tVar i) (tCons (tEx G Z W f) tNil)))) (hw : W.contains i = true := by rfl) : PS X st (tSt G Z W (sExt i f)) :=
  imp_ps h fun E σ H ⟨B, H0, O, ρ, s, r, s', sr, hf, q⟩ => by
    unfold sExt at hf
    split at hf
    · rename_i ds hd
      obtain ⟨d, s1, h1, hf⟩ := bnd_some hf
      split at hf
      · rename_i es
        split at hf
        · rename_i hl
          cases hf
          have hi : i ∈ W := by simpa using hw
          obtain ⟨P, ds', vs, hds, a2, a4, a5, a3, mu⟩ := sr.mut hi hd
          refine ⟨.ref P, a2, .inl ⟨rfl, vs, .inl (.inl a4)⟩, B, O, ρ, s, _, _, sr.eo, sr.r, h1, fun v H1 f1 r1 R1 => ?_⟩
          have sr1 := sr.step f1 R1
          obtain ⟨P1, ds1, vs1, hds1, b2, b4, b5, b3, mu1⟩ := sr1.mut hi hd
          rw [a2] at b2
          cases b2
          cases hds1
          obtain ⟨b, us, rfl, h3, _, h4⟩ := r1.sqL
          refine ⟨P, b, vs1, us, rfl, rfl, b4, h3, by rw [b5.len, h4.len]; exact hl, ?_⟩
          obtain ⟨sr2, ch2⟩ := mu1 (ds ++ es) (vs1 ++ us) (b5.append h4)
          exact q O σ _ sr2 ((Ch.of f1).trans ch2)
        · cases hf
      · cases hf
    · cases hf
theorem es_app2 {i : Nat} (h : PS X st (tDrop (tBM X.K "list" rAppend (tVar i) (tCons (tEx G Z W f) tNil)))) (hw : W.contains i = true := by rfl) : PS X st (tSt G Z W (sApp i f)) :=
  imp_ps h fun E σ H ⟨B, H0, O, ρ, s, r, s', sr, hf, q⟩ => by
    unfold sApp at hf
    split at hf
    · rename_i ds hd
      obtain ⟨d, s1, h1, hf⟩ := bnd_some hf
      split at hf
      · rename_i hl
        cases hf
        have hi : i ∈ W := by simpa using hw
        obtain ⟨P, ds', vs, hds, a2, a4, a5, a3, mu⟩ := sr.mut hi hd
        refine ⟨.ref P, a2, .inl ⟨rfl, vs, .inl (.inl a4)⟩, B, O, ρ, s, d, _, sr.eo, sr.r, h1, fun v H1 f1 r1 R1 => ?_⟩
        have sr1 := sr.step f1 R1
        obtain ⟨P1, ds1, vs1, hds1, b2, b4, b5, b3, mu1⟩ := sr1.mut hi hd
        rw [a2] at b2
        cases b2
        cases hds1
        refine ⟨P, vs1, v, rfl, rfl, b4, by rw [b5.len]; exact hl, ?_⟩
        obtain ⟨sr2, ch2⟩ := mu1 (ds ++ [d]) (vs1 ++ [v]) (b5.append (Reps.cons r1 Reps.nil))
        exact q O σ _ sr2 ((Ch.of f1).trans ch2)
      · cases hf
    · cases hf
/-! ### pairs: enumerate, zip -/
def pairD (x y : D) : D := .tuple [x, y]
def enumD (ds : List D) : List D := (List.range ds.length).zipWith (fun (i : Nat) d => pairD (.int i) d) ds
theorem enumD_len (ds : List D) : (enumD ds).length = ds.length := by simp [enumD]
theorem enumD_get {ds : List D} {i : Nat} {d : D} (h : (enumD ds)[i]? = some d) : ∃ e, ds[i]? = some e ∧ d = pairD (.int (i : Nat)) e := by
  unfold enumD at h
  rw [List.getElem?_zipWith] at h
  by_cases hi : i < ds.length
  · rw [List.getElem?_range hi, List.getElem?_eq_getElem hi] at h
    exact ⟨ds[i], List.getElem?_eq_getElem hi, by simpa using h.symm⟩
  · rw [List.getElem?_eq_none (by simpa using hi)] at h
    simp at h
theorem pair_rep {B : Bar} {H : Hp} {T : Addr} {v u : V} {x y : D} (bd : ∀ a, B a → H a ≠ none) (hT : H T = none) (hx : Rep G B H x v) (hy : Rep G B H y u) : Rep G B (upd H T (.tup [v, u])) (pairD x y) (.ref T) :=
  rep_tup bd hT (Reps.cons hx (Reps.cons hy Reps.nil))
def seqD : D → Option (List D)
  | .list ds => some ds
  | .tuple ds => some ds
  | _ => none
def pEnumT : List D → Option (List D)
  | [.tuple ds] => some (enumD ds)
  | _ => none
def pEnumL : List D → Option (List D)
  | [.list ds] => some (enumD ds)
  | _ => none
theorem ei_enumT {elts : List Expr} {kk : Nat} {tpos : Pos} (h : PI X (.Tuple elts kk tpos) (.Call (.Name "enumerate" p) [e] [] pos) (Lc.iEnumT X.K (tEa G Z W fa))) (hK : X.K = G.K := by rfl) : PI X (.Tuple elts kk tpos) (.Call (.Name "enumerate" p) [e] [] pos) (tIt G Z W (iOfA pEnumT fa)) :=
  imp_pi h fun σ H Q ⟨B, O, ρ, s, d, s', eo, hR, hf, q⟩ => by
    unfold iOfA at hf
    obtain ⟨y, s1, h1, hf⟩ := bnd_some hf
    obtain ⟨h3, rfl⟩ := put_some hf
    refine ⟨B, O, ρ, s, y, _, eo, hR, h1, fun v H1 f1 r1 R1 => ?_⟩
    unfold pEnumT at h3
    split at h3
    · cases h3
      simp only [Reps] at r1
      obtain ⟨v, r, rfl, h4, rfl⟩ := r1
      obtain ⟨a0, vs0, e0, hT, _⟩ := h4.sqT
      simp only [Rep] at h4
      obtain ⟨a, vs, e1, h5, h6⟩ := h4
      rw [e1] at e0
      injection e0 with e0
      subst e0
      subst e1
      rw [hK]
      refine ⟨a, vs0, rfl, hT, q _ H1 f1 ?_ R1⟩
      refine ⟨fun H => SqT G.K H a vs, _, by rw [enumD_len, ← h6.len]; exact Lc.walk_enumT, fun B2 H2 st dm => ⟨?_, fun i d x H3 hd y => ?_⟩⟩
      · rcases h5 with ⟨h5, n⟩ | h5
        · exact .inl (.inl (st _ _ h5 n).1)
        · exact .inr h5
      · obtain ⟨T, x1, x2, rfl, hT1, rfl, e1, e2⟩ := y
        obtain ⟨e, he, rfl⟩ := enumD_get hd
        obtain ⟨v, h7, h8⟩ := (h6.mv (B' := B2) (H' := H2) st).get he
        cases (show some v = some x2 from h7.symm.trans e2)
        cases (show some (V.int (i : Nat)) = some x1 from e1)
        exact ⟨Lc.same_new hT1, pair_rep dm hT1 (by simp only [Rep]) h8⟩
    · cases h3
theorem ei_enumL {elts : List Expr} {kk : Nat} {tpos : Pos} (h : PI X (.Tuple elts kk tpos) (.Call (.Name "enumerate" p) [e] [] pos) (iEnum X.K (tEa G Z W fa))) : PI X (.Tuple elts kk tpos) (.Call (.Name "enumerate" p) [e] [] pos) (tIt G Z W (iOfA pEnumL fa)) :=
  imp_pi h fun σ H Q ⟨B, O, ρ, s, d, s', eo, hR, hf, q⟩ => by
    unfold iOfA at hf
    obtain ⟨y, s1, h1, hf⟩ := bnd_some hf
    obtain ⟨h3, rfl⟩ := put_some hf
    refine ⟨B, O, ρ, s, y, _, eo, hR, h1, fun v H1 f1 r1 R1 => ?_⟩
    unfold pEnumL at h3
    split at h3
    · cases h3
      simp only [Reps] at r1
      obtain ⟨v, r, rfl, h4, rfl⟩ := r1
      simp only [Rep] at h4
      obtain ⟨a, vs, rfl, h5, n, h6⟩ := h4
      refine ⟨a, vs, rfl, .inl (.inl h5), q _ H1 f1 ?_ R1⟩
      refine ⟨fun H => SqL X.K H a vs, _, by rw [enumD_len, ← h6.len]; exact walk_enum, fun B2 H2 st dm => ⟨.inl (.inl (st _ _ h5 n).1), fun i d x H3 hd y => ?_⟩⟩
      obtain ⟨T, x1, x2, rfl, hT1, rfl, e1, e2⟩ := y
      obtain ⟨e, he, rfl⟩ := enumD_get hd
      obtain ⟨v, h7, h8⟩ := (h6.mv (B' := B2) (H' := H2) st).get he
      cases (show some v = some x2 from h7.symm.trans e2)
      cases (show some (V.int (i : Nat)) = some x1 from e1)
      exact ⟨Lc.same_new hT1, pair_rep dm hT1 (by simp only [Rep]) h8⟩
    · cases h3
/-! ### max, min of a list of ints; sorted -/
def maxI : List Int → Option Int
  | [] => none
  | n :: ns => some (ns.foldl max n)
theorem foldl_max (ns : List Int) : ∀ n : Int, (ns.foldl max n ∈ n :: ns) ∧ ∀ y ∈ n :: ns, y ≤ ns.foldl max n := by
  induction ns with
  | nil => intro n; simp
  | cons m ns ih =>
    intro n
    obtain ⟨h1, h2⟩ := ih (max n m)
    rw [List.foldl_cons]
    refine ⟨?_, fun y hy => ?_⟩
    · rcases List.mem_cons.mp h1 with h | h
      · rw [h]
        rw [Int.max_def]
        split <;> simp
      · simp [h]
    · have hm := h2 (max n m) (by simp)
      rcases List.mem_cons.mp hy with h | h
      · subst h; have : y ≤ max y m := Int.le_max_left _ _; omega
      · rcases List.mem_cons.mp h with h | h
        · subst h; have : y ≤ max n y := Int.le_max_right _ _; omega
        · exact h2 y (by simp [h])
def pMax : List D → Option D
  | [.list ds] => (dInts ds).bind fun ns => (maxI ns).map .int
  | _ => none
theorem os_max : CaS G (rMax G.K) pMax := by
  intro B H xs ds d Q bd hr hp q
  unfold pMax at hp
  split at hp
  · rw [Option.bind_eq_some_iff] at hp
    obtain ⟨ns, h0, hp⟩ := hp
    rw [Option.map_eq_some_iff] at hp
    obtain ⟨m, hm, rfl⟩ := hp
    simp only [Reps] at hr
    obtain ⟨v, r, rfl, h1, rfl⟩ := hr
    obtain ⟨a, vs, rfl, _, h2, h3⟩ := h1.sqL
    rw [ints_some h0] at h3
    rw [h3.ints] at h2
    cases ns with
    | nil => cases hm
    | cons n ns =>
      cases hm
      obtain ⟨g1, g2⟩ := foldl_max ns n
      refine ⟨a, n :: ns, rfl, h2, by simp, fun m hm hy => ?_⟩
      have : m = ns.foldl max n := Int.le_antisymm (g2 m hm) (hy _ g1)
      subst this
      exact q _ H (Same.refl H) (by simp only [Rep])
  · cases hp
/-- texts in order -/
def leS (a b : Str) : Bool := !decide (b.cps.toList < a.cps.toList)
def sortS (xs : List Str) : List Str := xs.mergeSort leS
end
end Dl
set_option Elab.async false
set_option linter.all false
set_option maxRecDepth 100000
set_option maxHeartbeats 4000000
namespace Dl
open PySem PySem.Spec PyProof.Rows L2
theorem Room_units65 {A : Around} {k : Nat} (hr : Room k A) : A.units + 65 < cLine := by have := hr.un; omega
section
variable {S : Type} {X : Cx} {G : Kx} {Z : Zk S} {W : List Nat} {f g h : Ev S} {fa : Ea S} {F F' : Sv S} {a b c e tg : Expr} {es : List Expr} {st : Stmt} {rest : List Stmt} {pos p : Pos} {x : Str}
theorem es_retN : PS X (.Return none pos) (tSt G Z W (sRet (cK .none))) := imp_ps ps_retN fun E σ H ⟨B, H0, O, ρ, s, r, s', sr, hf, q⟩ => by
  cases hf
  exact q .non H sr.fr (by simp only [Rep]) sr.r
theorem es_asgT {t : Tg} {vs : List Nat} (h : PS X st (tAsg (tEx G Z W f) (tTg G Z W vs t))) : PS X st (tSt G Z W (sAsg f t)) :=
  imp_ps h fun E σ H ⟨B, H0, O, ρ, s, r, s', sr, hf, q⟩ => by
    unfold sAsg at hf
    obtain ⟨d, s1, h1, hf⟩ := bnd_some hf
    split at hf
    · cases hf
    · rename_i ρ1 e1
      cases hf
      refine ⟨B, O, ρ, s, d, _, sr.eo, sr.r, h1, fun v H1 f1 r1 R1 => ?_⟩
      have sr1 := sr.step f1 R1
      exact ⟨B, O, ρ, d, ρ1, sr1.eo, r1, e1, fun σ2 eo2 _ => q O _ H1 ⟨eo2, sr1.fr, sr1.b0, sr1.o0, R1⟩ (Ch.of f1)⟩
theorem nl_lcT {fi : Ea S} {t : Tg} {us vs : List Nat} {q : Et S} {tt : TT} {σ : L2.St} {H : Hp} {Q : VK} (hu : ∀ i ∈ us, i ∈ vs) (hq : ∀ σ H Q, tEt G Z W q σ H Q → tt σ H Q) (h : tNl G Z W (lcF fi t q f vs) σ H Q) : tLc (tIt G Z W fi) (tTg G Z W us t) tt (tEx G Z W f) vs σ H Q := by
  obtain ⟨B, O, ρ, s, d, s', eo, hR, hf, k⟩ := h
  exact lc_new hu hq eo hR hf k
def pNeg : D → Option D
  | .int i => some (.int (-i))
  | _ => none
theorem us_neg : UnS G (rU fun i => .int (-i)) pNeg := by
  intro B H x dx d Q bd hx hp q
  unfold pNeg at hp
  split at hp
  · cases hp
    simp only [Rep] at hx
    subst hx
    exact ⟨_, rfl, q _ H (Same.refl H) (by simp only [Rep])⟩
  · cases hp
theorem et_chain {op op' : CmpOp} {q q' : D → D → Option D} (ha : PE X (.Compare a [op, op'] [b, c] pos) (tEx G Z W (cCh q q' f g h))) (hK : X.K = G.K := by rfl) (he : ∀ whole, isTrue (.Compare a [op, op'] [b, c] pos) X.env whole = (do let v ← whole; standAt (Expr.Compare a [op, op'] [b, c] pos).pos; holding [v] (truthy v)) := by intro _; rfl) : PT X (.Compare a [op, op'] [b, c] pos) (tEt G Z W (qT (cCh q q' f g h))) := et_val ha he hK
/-! list of a text -/
def pListS : List D → Option (List D)
  | [.str z] => some (z.cps.toList.map fun c => .str ⟨#[c]⟩)
  | _ => none
/-! sorted of texts -/
theorem ltCps_lt (a b : List Nat) : ltCps a b = decide (a < b) := by
  induction a generalizing b with
  | nil => cases b <;> simp [ltCps]
  | cons x a ih =>
    cases b with
    | nil => simp [ltCps]
    | cons y b =>
      simp only [ltCps, ih]
      by_cases h1 : x < y
      · simp [h1, List.cons_lt_cons_iff]
      · by_cases h2 : x = y
        · subst h2; simp [List.cons_lt_cons_iff]
        · simp [h1, h2, List.cons_lt_cons_iff]
theorem leS_tr {a b c : Str} (h : leS a b = true) (g : leS b c = true) : leS a c = true := by
  simp only [leS, Bool.not_eq_true', decide_eq_false_iff_not, List.not_lt] at *
  exact List.le_trans h g
theorem leS_tot (a b : Str) : (leS a b || leS b a) = true := by
  simp only [leS, Bool.or_eq_true, Bool.not_eq_true', decide_eq_false_iff_not, List.not_lt]
  exact List.le_total _ _
theorem leS_anti {a b : Str} (h : leS a b = true) (g : leS b a = true) : a = b := by
  simp only [leS, Bool.not_eq_true', decide_eq_false_iff_not, List.not_lt] at *
  have := List.le_antisymm h g
  obtain ⟨a⟩ := a
  obtain ⟨b⟩ := b
  have e : a = b := Array.toList_inj.mp this
  rw [e]
theorem rising_pw : ∀ {p : Str} {r : List Str}, risingS p r = true → (p :: r).Pairwise (fun a b => leS a b = true)
  | p, [], _ => by simp
  | p, x :: r, h => by
    unfold risingS at h
    rw [Bool.and_eq_true] at h
    have ih := rising_pw h.2
    have hpx : leS p x = true := by
      unfold leS
      rw [← ltCps_lt]
      exact h.1
    refine List.pairwise_cons.mpr ⟨fun y hy => ?_, ih⟩
    rcases List.mem_cons.mp hy with rfl | hy
    · exact hpx
    · exact leS_tr hpx ((List.pairwise_cons.mp ih).1 y hy)
theorem sorted_pw {xs : List Str} (h : sortedS xs = true) : xs.Pairwise (fun a b => leS a b = true) := by
  cases xs with
  | nil => simp
  | cons x r => exact rising_pw h
theorem pw_unique {le : Str → Str → Bool} (anti : ∀ a b, le a b = true → le b a = true → a = b) : ∀ {xs ys : List Str}, xs.Perm ys → xs.Pairwise (fun a b => le a b = true) → ys.Pairwise (fun a b => le a b = true) → xs = ys
  | [], ys, h, _, _ => (List.nil_perm.mp h).symm
  | x :: xs, [], h, _, _ => absurd h.length_eq (by simp)
  | x :: xs, y :: ys, h, h1, h2 => by
    have h1' := List.pairwise_cons.mp h1
    have h2' := List.pairwise_cons.mp h2
    have e : x = y := by
      have hx : x ∈ y :: ys := h.mem_iff.mp List.mem_cons_self
      have hy : y ∈ x :: xs := h.mem_iff.mpr List.mem_cons_self
      rcases List.mem_cons.mp hx with hx | hx
      · exact hx
      · rcases List.mem_cons.mp hy with hy | hy
        · exact hy.symm
        · exact anti x y (h1'.1 y hy) (h2'.1 x hx)
    subst e
    rw [pw_unique anti ((List.perm_cons x).mp h) h1'.2 h2'.2]
theorem sortS_eq {xs ys : List Str} (h : ys.Perm xs) (hs : sortedS ys = true) : ys = sortS xs := by
  refine pw_unique (le := leS) (fun a b => leS_anti) (h.trans (List.mergeSort_perm xs leS).symm) (sorted_pw hs) ?_
  exact List.pairwise_mergeSort (le := leS) (fun a b c h g => leS_tr h g) (fun a b => leS_tot a b) xs
theorem sortS_perm (xs : List Str) : (sortS xs).Perm xs := List.mergeSort_perm xs leS
theorem sortS_pw (xs : List Str) : (sortS xs).Pairwise (fun a b => leS a b = true) := List.pairwise_mergeSort (le := leS) (fun a b c h g => leS_tr h g) (fun a b => leS_tot a b) xs
def pSorted : List D → Option (List D)
  | [.list ds] => match dStrs ds with
    | some xs => if xs.length < 64 then some ((sortS xs).map .str) else none
    | none => none
  | _ => none
theorem on_sorted : CaN G (rSortedS G.K) pSorted := by
  intro B H xs ds es Q bd hr hp q
  unfold pSorted at hp
  split at hp
  · split at hp
    · rename_i xs' hx
      split at hp
      · rename_i hl
        cases hp
        simp only [Reps] at hr
        obtain ⟨v, r, rfl, h1, rfl⟩ := hr
        obtain ⟨a, vs, rfl, _, h2, h3⟩ := h1.sqL
        rw [strs_some hx] at h3
        rw [h3.strs] at h2
        refine ⟨a, xs', rfl, h2, hl, fun ys p hp hs hn => ?_⟩
        have := sortS_eq hp hs
        subst this
        exact q p _ hn reps_strs
      · cases hp
    · cases hp
  · cases hp
def pListS1 : List D → Option (List D)
  | [.str z] => if z.length ≤ sizeLine then some (z.cps.toList.map fun c => .str ⟨#[c]⟩) else none
  | _ => none
theorem on_listS : CaN G (fun xs H Q => ∃ z : Str, xs = [.str z] ∧ z.length ≤ sizeLine ∧ ∀ l, H l = none → Q (.ref l) (upd H l (.lst (z.cps.toList.map fun d => V.str ⟨#[d]⟩)))) pListS1 := by
  intro B H xs ds es Q bd hr hp q
  unfold pListS1 at hp
  split at hp
  · split at hp
    · cases hp
      simp only [Reps, Rep] at hr
      obtain ⟨v, r, rfl, rfl, rfl⟩ := hr
      refine ⟨_, rfl, by assumption, fun l hl => q l _ hl ?_⟩
      rename_i z _ 
      have : (z.cps.toList.map fun c => (PyData.str ⟨#[c]⟩ : D)) = (z.cps.toList.map fun c => (⟨#[c]⟩ : Str)).map PyData.str := by simp
      rw [this]
      have : (z.cps.toList.map fun c => (V.str ⟨#[c]⟩ : V)) = (z.cps.toList.map fun c => (⟨#[c]⟩ : Str)).map V.str := by simp
      rw [this]
      exact reps_strs
    · cases hp
  · cases hp
end
end Dl
set_option Elab.async false
set_option linter.all false
set_option maxRecDepth 100000
set_option maxHeartbeats 4000000
/-! all(x in y for x in e): e a text, y a captured name that holds a text -/
namespace Lc
open PySem PySem.Spec PyProof.Rows L2 GxR
/-- a test of the sign d by the text z, which the cell of y holds -/
def EltC (P : Program) (w : World) (sc : Scope) (x y : Str) (e : Expr) (pb : Str → Nat → Bool) : Prop :=
  ∀ (en : Env) (B : Around) (Ex : Value → Shared → Prop) (d : Nat) (t tz : Tok) (z : Str) (q : Addr) (r : Shared) (m : Str → Option Value),
    en.scope = sc → en.cells.lookup y = some q → r.heap.IsCell q (some (.str z tz)) → r.heap.Ns en.locals m → m x = some (.str ⟨#[d]⟩ t) →
      wpAny (model P w) B (eval e en) (fun b r' => b = .bool (pb z d) ∧ Keeps r r') Ex r
theorem eltC_in {P : Program} {w : World} {sc : Scope} {x y : Str} {p1 p2 p3 : Pos} (hk : sc.kind = .function) (hx : sc.names.lookup x = some .local) (hy : sc.names.lookup y = some .free)
    (dx : (x == ("__debug__" : Str)) = false := by decide) (dy : (y == ("__debug__" : Str)) = false := by decide) (cy : (y == ("__classdict__" : Str)) = false := by decide) :
    EltC P w sc x y (.Compare (.Name x p1) [.In] [.Name y p2] p3) (fun z d => decide (d ∈ z.cps.toList)) := by
  intro en B Ex d t tz z q r m es ec hc hn hm
  refine wpAny_Compare1 (wpAny_Name (wpAny_loadName_local (by rw [es]; exact hk) (show en.scope.names.lookup x = some .local by rw [es]; exact hx) hn hm ?_) dx)
  refine wpAny_Name (wpAny_loadName_free (by rw [es]; exact hk) (show en.scope.names.lookup y = some .free by rw [es]; exact hy) ec hc ?_ cy) dy
  exact PyProof.Rows.in_str ⟨congrArg Value.bool (PySem.StrLaws.found_one z d), keeps_refl _⟩
section
variable {X : Cx} {pins : List (Addr × Obj)} {σ : L2.St} {H : Hp} {s : Shared}
/-- the cell of a captured name -/
theorem cell_of {i : Nat} {y z : Str} (I : Inv X pins σ H s) (hN : X.N[i]? = some y) (hs : σ[i]? = some (some (.str z))) (hv : Vis X.env.scope y) (hy : X.env.kindOf y = some .cell) :
    ∃ q tz, X.env.cells.lookup y = some q ∧ s.heap.IsCell q (some (.str z tz)) := by
  obtain ⟨m, _, hl⟩ := I.loc
  obtain ⟨u, ru, lk⟩ := hl i y _ hN hs hv
  obtain ⟨tz, rfl⟩ := ru
  rcases lk with ⟨lk, _⟩ | ⟨_, q, e1, e2⟩
  · rw [hy] at lk
    cases lk
  · exact ⟨q, tz, e1, e2⟩
theorem gen_strC {c P : Addr} {e it : Expr} {x y : Str} {px gp : Pos} {sc : Scope} {pb : Str → Nat → Bool} {te : TE} {k i : Nat} {Q' : Value → Shared → Prop} {R : Str → Str → Hp → Prop}
    (hr : Room k X.A) (TB : TabB X.base X.mg c P) (hcode : X.env.code = .ref c) (S : GenS X.env sc x) (hN : X.N[i]? = some y) (hV : Vis X.env.scope y) (hy : X.env.kindOf y = some .cell) (hm : (y, NameKind.free) ∈ sc.names)
    (hi : PE X it te) (hel : EltC X.prog X.w sc x y e pb) (hs : ∀ v, genFold it X.env v = pure v) (I : Inv X pins σ H s)
    (h : te σ H fun v H1 => ∃ a z : Str, v = .str a ∧ σ[i]? = some (some (.str z)) ∧ TabG H1 P ∧ R a z H1) (hQ : ∀ a z H1 g s5, R a z H1 → Ready X pins σ H1 P a (pb z) g s5 → Q' (.ref g) s5) :
    wpAny (model X.prog X.w) X.A (eval (.GeneratorExp e [⟨.Name x px, it, [], 0⟩] sc gp) X.env) Q' X.xe s := by
  refine wpAny_GeneratorExp_walksQ hr.hd S.co (closure_ok S.free) S.cell S.dot S.loc S.kind (by have := hr.dp; omega) (thn (hi.run pins s σ H _ I h) fun xv sa ⟨v, H1, Ia, rv, qv⟩ => ?_) hs
  obtain ⟨a, z, rfl, hz, ⟨tb, hP, ht⟩, qv⟩ := qv
  obtain ⟨q, tz, hq, hcq⟩ := cell_of Ia hN hz hV hy
  obtain ⟨t, rfl⟩ := _root_.id rv
  refine wpAny_pyIter_str fun o St W hst => ⟨Ia.nolimit.push o, ?_⟩
  have atP : sa.heap.get? P = some { cls := .none, data := .fields tb } := Ia.hok P _ hP
  have ltP : P < sa.heap.objs.size := Heap.lt_size atP
  have atP2 : (sa.heap.push o).get? P = some { cls := .none, data := .fields tb } := Heap.get?_push_of_some _ atP
  have cd : PySem.W.CodeHd (sa.heap.push o) c P := TB.code.keeps fun b u eb => Heap.get?_push_of_some _ (Ia.bk b u eb)
  have go : ∀ (cv : Value) (h3 : Heap) (tk : Nat) (tb' : Array Value), Heap.ExtBut P (sa.heap.push o) h3 → (sa.heap.push o).objs.size ≤ h3.objs.size → h3.get? P = some { cls := .none, data := .fields tb' } → (∃ more, tb' = tb ++ more) → TriplesOk tb'.toList →
      wpAny (model X.prog X.w) X.A (builtinsFor X.env.globals X.env.builtins) (fun bi sd => ∃ Ia fp wr n₀ Pf St₀ pz F, Value.ref sa.heap.objs.size = .ref Ia ∧ (∀ A' : Around, A'.handled = none → Walks X.prog X.w A' Ia fp wr n₀ Pf St₀) ∧ St₀ 0 sd.heap ∧
          (∀ b ∈ fp, b < sd.heap.objs.size) ∧ sd.heap.NoLimit ∧ cStatics ∉ wr ∧
          (∀ hf : Heap, (∀ b ob, sd.heap.get? b = some ob → hf.get? b = some ob) → QuietGen X.prog X.w (genEnv sc (cloFrom X.env.cells sc.names []) sd.heap.objs.size cv bi X.env) x [] e (List.range sd.heap.objs.size) wr Pf pz F hf) ∧
          (∀ g h₅ tk gs, gs.bare = true → sd.heap.objs.size < g → h₅.objs.size = g + 1 → (∀ b ob, sd.heap.get? b = some ob → h₅.get? b = some ob) →
            WalksS X.prog X.w X.A.in4 g (g :: sd.heap.objs.size :: List.range sd.heap.objs.size) (sd.heap.objs.size :: wr) (GenOnlyQ sd.gens.size) (passing pz n₀ 0).length (fun j u => ∃ i, (passing pz n₀ 0)[j]? = some i ∧ F i u)
              (GenAt X.prog X.w X.A.in4 g sd.gens.size sd.heap.objs.size (List.range sd.heap.objs.size) wr pz n₀ F) →
            GenAt X.prog X.w X.A.in4 g sd.gens.size sd.heap.objs.size (List.range sd.heap.objs.size) wr pz n₀ F 0 { sd with gens := sd.gens.push gs, toks := tk, heap := h₅ } → Q' (.ref g) { sd with gens := sd.gens.push gs, toks := tk, heap := h₅ })) X.xe { sa with heap := h3, toks := tk } := by
    intro cv h3 tk tb' hx hsz hP3 hmore ht3
    obtain ⟨bm, ob, e1, e2, e3, e4, e5, e6, e7, e8⟩ := TB.bm
    have nSP : cStatics ≠ P := fun z9 => by
      obtain ⟨_, ⟨o', es, ep, ho, hd, _⟩, _⟩ := Ia.nolimit
      rw [z9, atP] at ho
      cases ho
      cases hd
    have ltS : cStatics < sa.heap.objs.size := let ⟨_, hns, _⟩ := Ia.nolimit; hns.lt
    have szp : (sa.heap.push o).objs.size = sa.heap.objs.size + 1 := Heap.size_push ..
    have kp : ∀ b u, b ≠ P → sa.heap.get? b = some u → h3.get? b = some u := fun b u nb eb => hx b u nb (Heap.get?_push_of_some _ eb)
    have nqP : q ≠ P := fun z9 => by
      have := Ia.freeC y q hq
      rw [z9, hP] at this
      cases this
    refine wpAny_builtinsFor (m := X.mg) (by rw [Ia.ok.glob]; exact ((Ia.mod.glob.keeps Ia.bk).push o).extBut hx TB.gP) e1 e2 (kp _ _ e4 (Ia.bk _ _ e5)) e6 e7 e8 ?_
    refine ⟨_, [sa.heap.objs.size], [sa.heap.objs.size], a.cps.size, SignAt a, St, fun _ => true, fun i u => ∃ d, a.cps[i]? = some d ∧ u = .bool (pb z d), rfl, W, ?_, fun b hb => ?_, (Ia.nolimit.push o).extBut hx nSP, fun z9 => ?_, ?_, ?_⟩
    · refine (W X.A hr.hd).frame _ _ _ hst fun b hb u eb => hx b u (fun z9 => ?_) eb
      rcases List.mem_cons.mp hb with z8 | z8
      · exact Nat.ne_of_lt ltP (z9.symm.trans z8)
      · cases z8
    · rcases List.mem_cons.mp hb with z9 | z9
      · rw [z9]
        show sa.heap.objs.size < h3.objs.size
        omega
      · cases z9
    · rcases List.mem_cons.mp z9 with z8 | z8
      · exact Nat.ne_of_lt ltS z8
      · cases z8
    · intro hf hhf
      refine ⟨fun B Ex j v r m hB hv hn hmx hk => ?_, fun B Ex j v r m hB hv hp hn hmx hk => ?_⟩
      · simp only [List.forIn_nil]
        exact wpAny_pure ⟨rfl, keeps_refl _⟩
      · obtain ⟨d, u, hd, rfl⟩ := hv
        obtain ⟨oq, hoq, hdq⟩ := hcq
        have h3q := kp q oq nqP hoq
        have ltq : q < sa.heap.objs.size := Heap.lt_size hoq
        have hr2 : r.heap.IsCell q (some (.str z tz)) := ⟨oq, hk q (List.mem_range.mpr (Heap.lt_size h3q)) (fun z9 => by
          rcases List.mem_cons.mp z9 with z8 | z8
          · exact Nat.ne_of_lt ltq z8
          · cases z8) oq (hhf q oq h3q), hdq⟩
        exact wpAny_mono (hel _ B Ex d u tz z q r m rfl (NdefX.clo_has S.free hm hq) hr2 hn hmx) (fun b r' w9 => ⟨⟨d, hd, w9.1⟩, w9.2⟩) fun _ _ e9 => e9
    · intro g h5 tk5 gs hgb hag hsz5 hk5 W5 hat
      simp only [GxR.passing_true, List.length_range] at W5
      refine hQ a z H1 g _ qv ⟨_, _, _, _, _, W5.in4_1, hat, fun j u sj Qj Ej hu hQj => ?_, fun s' hmv => ?_⟩
      · obtain ⟨i9, hi9, d, hd, rfl⟩ := hu
        obtain ⟨hj, ej⟩ := List.getElem?_eq_some_iff.mp hi9
        rw [List.getElem_range] at ej
        subst ej
        have hd9 : a.cps.toList[j]? = some d := by rw [Array.getElem?_toList]; exact hd
        have hQ9 : Qj (trF (pb z) a.cps.toList j) sj := hQj
        rw [trF_some hd9] at hQ9
        exact wpAny_truthy_bool hQ9
      · obtain ⟨more, em⟩ := hmore
        have out : ∀ b u, sa.heap.get? b = some u → b ∉ h3.objs.size :: [sa.heap.objs.size] := fun b u eb hb => by
          have lb : b < sa.heap.objs.size := Heap.lt_size eb
          simp only [List.mem_cons, List.not_mem_nil, or_false] at hb
          rcases hb with rfl | rfl
          · have lb : h3.objs.size < sa.heap.objs.size := lb
            omega
          · exact Nat.lt_irrefl _ lb
        have J := inv_tab (more := more) (h' := s'.heap) (g' := s'.gens) (d' := s'.drawn) (t' := s'.toks) Ia hP (fun b u nb eb => hmv.heap b u (out b u eb) (hk5 b u (kp b u nb eb)))
          (by rw [← em]; exact hmv.heap P _ (out P _ atP) (hk5 P _ hP3)) (AllBare.movedS (Ia.bare.push hgb) hmv)
        rw [sh_eta sa s' hmv.os] at J
        exact ⟨_, ⟨⟨tb ++ more, upd_same, by rw [← em]; exact ht3⟩, fun b hb => upd_ne hb⟩, J⟩
  cases hf : codeAmong gp tb.toList with
  | none =>
    refine wpAny_genexprCodeX hcode (cd.code atP2 ht) (cd.tab atP2) hf fun c9 h9 tk hx hge hlt hco _ htab _ => ?_
    obtain ⟨o1, vs, f1, tf, fl, tg, inF, tx, tt, op, _, _, _, _, _, _, _, _, _, htr, _⟩ := hco
    exact go _ h9 tk _ hx (Nat.le_trans hge (Nat.le_of_lt hlt)) htab.2 ⟨_, rfl⟩ htr
  | some cv => exact wpAny_genexprCode_hit hcode (cd.code atP2 ht) hf (go cv (sa.heap.push o) sa.toks tb (Heap.ExtBut.refl _ _) (Nat.le_refl _) atP2 ⟨#[], by simp⟩ ht)
/-- what it asks: the walked text, the captured one, the table -/
def tAllC (P : Addr) (i : Nat) (pb : Str → Nat → Bool) (te : TE) : TE := fun σ H Q => te σ H fun v H1 => ∃ a z : Str, v = .str a ∧ σ[i]? = some (some (.str z)) ∧ TabG H1 P ∧ ∀ H2, Tabbed P H1 H2 → Q (.bl (a.cps.toList.all (pb z))) H2
theorem pe_allC {c P : Addr} {e it : Expr} {x y : Str} {px p pos gp : Pos} {sc : Scope} {pb : Str → Nat → Bool} {te : TE} {k i : Nat} (hr : Room k X.A) (hg : Gl X "all") (hm : X.mg "all" = none) (hb : bootBuiltins "all" = some (.builtin "all"))
    (TB : TabB X.base X.mg c P) (hcode : X.env.code = .ref c) (S : GenS X.env sc x) (hN : X.N[i]? = some y) (hV : Vis X.env.scope y) (hy : X.env.kindOf y = some .cell) (hm' : (y, NameKind.free) ∈ sc.names)
    (hi : PE X it te) (hel : EltC X.prog X.w sc x y e pb) (hs : ∀ v, genFold it X.env v = pure v)
    (he : starEach [.GeneratorExp e [⟨.Name x px, it, [], 0⟩] sc gp] X.env = (false, eval (.GeneratorExp e [⟨.Name x px, it, [], 0⟩] sc gp) X.env) :: starEach [] X.env := by rfl) :
    PE X (.Call (.Name "all" p) [.GeneratorExp e [⟨.Name x px, it, [], 0⟩] sc gp] [] pos) (tAllC P i pb te) := by
  refine ⟨fun pins s σ H Q I h => wpAny_Call_Name_kw (ld_blt I hg hm hb (PyProof.Rows.callWith_builtin1 ?_ he (by rfl)))⟩
  rw [he]
  show wpAny _ _ (spliced ((false, eval (.GeneratorExp e [⟨.Name x px, it, [], 0⟩] sc gp) X.env) :: backTo pos (starEach [] X.env))) _ _ s
  refine Calls.spliced_cons (gen_strC (R := fun a z H1 => ∀ H2, Tabbed P H1 H2 → Q (.bl (a.cps.toList.all (pb z))) H2) hr TB hcode S hN hV hy hm' hi hel hs I h fun a z H1 g s5 hR hG => Calls.spliced_nil ?_)
  obtain ⟨fp, wr, G, F, St, W, hst, htr, hI⟩ := hG
  refine call_all_walkS (W.self 0 _ _ _ hst ⟨g, fp, wr, G, _, F, St, _, rfl, W, hst, htr, fun s' hmv => ?_⟩)
  obtain ⟨H2, hT, J⟩ := hI s' hmv
  refine ⟨.bl _, H2, J, rfl, ?_⟩
  rw [all_signs a (pb z)]
  exact hR H2 hT
end
end Lc
set_option Elab.async false
set_option linter.all false
set_option maxRecDepth 100000
set_option maxHeartbeats 4000000
/-! all / any (elt for tg in it if ..), anything in elt -/
namespace Dl
open PySem PySem.Spec PyProof.Rows L2 GxR
theorem over_gx {A : Around} {elt tg iter : Expr} {ifs : List Expr} {scope : Scope} {pos : Pos} {it acc : Value} {env : Env} :
    A.over (.compLoop (.GeneratorExp elt [⟨tg, iter, ifs, 0⟩] scope pos) 0 it acc env) [] = A.deeper env := rfl
theorem over_gs {A : Around} {elt tg iter : Expr} {ifs : List Expr} {scope : Scope} {pos : Pos} {it acc : Value} {env : Env} :
    A.over (.compStart (.GeneratorExp elt [⟨tg, iter, ifs, 0⟩] scope pos) 0 it acc env) [] = A.deeper env := rfl
theorem inv_gens {X : Cx} {pins : List (Addr × Obj)} {σ : L2.St} {H : Hp} {s : Shared} {g' : Array GenState} (I : Inv X pins σ H s) (hb : AllBare g') : Inv X pins σ H { s with gens := g' } :=
  ⟨I.ok, I.os, hb, I.base, I.loc, I.cell, I.free, I.freeC, I.pin, I.hok, I.len⟩
theorem bare_set {gs : Array GenState} {g : Nat} {x : GenState} (h : AllBare gs) (hx : x.bare = true) : AllBare (gs.setIfInBounds g x) := fun y hy => by
  obtain ⟨i, hi, rfl⟩ := Array.mem_iff_getElem.mp hy
  have hi' : i < gs.size := by simpa using hi
  rw [Array.getElem_setIfInBounds hi']
  split
  · exact hx
  · exact h _ (Array.getElem_mem _)
abbrev gxE (X : Cx) (scope : Scope) (C : Addr) (cv : Value) : Env := genEnv scope (cloFrom X.env.cells scope.names []) C cv builtinsNs X.env
/-- the context of a generator expression's body -/
abbrev gxC (X : Cx) (s : Shared) (H : Hp) (scope : Scope) (C : Addr) (cv : Value) (fp : List Addr) (pn : List (Addr × Obj)) : Cx :=
  { X with A := X.A.in1.in1.deeper (gxE X scope C cv), s_0 := s, H_0 := H, env := gxE X scope C cv, outer := X.stack, stack := gxE X scope C cv :: X.stack, ex := fp, fn := fun _ => false, pn := pn, xe := fun _ _ => False }
section
variable {X : Cx} {pins : List (Addr × Obj)} {σ : L2.St} {H : Hp} {s : Shared}
/-- a name that the body takes from around has a cell there -/
theorem blk_free {scope : Scope} {own : List (Str × Nat)} (I : Inv X pins σ H s) (ok : BlkOk X.N X.env.scope scope own) (y : Str × NameKind) (hy : y ∈ scope.names) (e : y.2 = .free) : ∃ c, X.env.cells.lookup y.1 = some c :=
  I.ok.has y.1 ((ok.free y hy e).imp id id)
theorem gen_start {scope : Scope} {own : List (Str × Nat)} {fp : List Addr} {h' : Heap} {m : Str → Option Value} {gs : Array GenState} {tk : Nat} {a : Addr} {go : Obj} {cv : Value} (I : Inv X pins σ H s) (ok : BlkOk X.N X.env.scope scope own) (hcell : ∀ y ∈ scope.names, y.2 ≠ .cell) (hN : X.N.Nodup)
    (hfp : ∀ b ∈ fp, FpOk X pins H b ∧ b < s.heap.objs.size) (hn : h'.Ns s.heap.objs.size m) (kp : ∀ b o, s.heap.get? b = some o → h'.get? b = some o) (hb : AllBare gs) (ha : s.heap.objs.size < a) (hgo : h'.get? a = some go) (hgd : ∀ v, go.data ≠ .cell v) :
    Inv (gxC X s H scope s.heap.objs.size cv fp [(a, go)]) [] (wipe σ (own.map (·.2))) H { s with heap := h', gens := gs, toks := tk } := by
  have hfree := blk_free I ok
  have cm : ∀ {y c}, (cloFrom X.env.cells scope.names []).lookup y = some c → X.env.cells.lookup y = some c ∧ c < s.heap.objs.size := fun {y c} hm => by
    rcases cloFrom_mem (PySem.mem_of_lookup hm) with hm | ⟨h1, rfl⟩
    · cases hm
    · obtain ⟨c, hc⟩ := hfree _ h1 rfl
      rw [hc]
      obtain ⟨w, z⟩ := I.cell _ _ hc
      exact ⟨rfl, z.lt⟩
  have look : ∀ {y}, scope.names.lookup y = some .free → ∃ c, (cloFrom X.env.cells scope.names []).lookup y = some c ∧ X.env.cells.lookup y = some c := fun {y} hl => by
    obtain ⟨c', e'⟩ := mem_lookup (cloFrom_has (cells := X.env.cells) (acc := []) (PySem.mem_of_lookup hl))
    exact ⟨c', e', (cm e').1⟩
  have okB : (gxC X s H scope s.heap.objs.size cv fp [(a, go)]).Ok := by
    refine ⟨I.ok.mod, ok.kind, I.ok.glob, rfl, Nat.le_refl _, fun y z c e1 e2 => I.ok.inj y z c (cm e1).1 (cm e2).1, fun y hy => ?_, fun y c z e => (nomatch z), I.ok.hd, ?_, .inr ⟨rfl, rfl⟩, fun b hb => ⟨Nat.ne_of_lt (hfp b hb).2, fun y c e z => ?_⟩, I.bs, Nat.le_trans I.ok.bsz I.sz, fun b o e hb => ?_, fun b hb z => ?_, I.stack, I.stkFree⟩
    · rcases hy with hy | hy
      · exact absurd rfl (hcell _ (PySem.mem_of_lookup hy))
      · obtain ⟨c, h1, _⟩ := look hy
        exact ⟨c, h1⟩
    · show (X.A.frames).map _ = _
      rw [I.ok.frames]
      rfl
    · exact (hfp b hb).1.2.2.2.2.1 y c (cm e).1 z
    · rcases (hfp b hb).1.2.2.2.1 with z | z
      · exact I.ok.noex b o e z
      · have young := Nat.le_trans I.ok.bsz z
        have old := Heap.lt_size e
        exact Nat.not_lt.mpr young old
    · exact (List.mem_cons.mp (I.stkSub b z)).elim (hfp b hb).1.2.1 (hfp b hb).1.2.2.1
  refine ⟨okB, rfl, hb, Un.kept kp, ⟨_, hn, fun i y av e1 e2 e3 => ?_⟩, fun y c e => ?_, I.hok.fresh (Nat.le_refl _), fun y c e => I.freeC y c (cm e).1, fun p hp => ?_, I.hok.kept kp, by rw [wipe_length]; exact I.len⟩
  · obtain ⟨e2, hne⟩ := wipe_some e2
    have hfr : scope.names.lookup y = some .free := by
      have no : ∀ k, scope.names.lookup y = some k → ¬ (k = .local ∨ k = .cell) := fun k e hh => by
        refine (ok.own _ (PySem.mem_of_lookup e) hh).elim (fun mine => ?_) fun other => other (List.mem_of_getElem? e1)
        obtain ⟨p, hp, rfl⟩ := List.mem_map.mp mine
        exact hne (List.mem_map.mpr ⟨p, hp, nodup_ix hN (ok.ix p hp) e1⟩)
      have e3 : Vis scope y := e3
      rcases e3 with e3 | e3 | e3
      · exact absurd (.inl rfl) (no _ e3)
      · exact absurd (.inr rfl) (no _ e3)
      · exact e3
    obtain ⟨m, hn, hl⟩ := I.loc
    have hvis : Vis X.env.scope y := (ok.free _ (PySem.mem_of_lookup hfr) rfl).elim (fun k => .inr (.inl k)) (fun k => .inr (.inr k))
    obtain ⟨w, r, q⟩ := hl i y av e1 e2 hvis
    refine ⟨w, r, .inr ⟨.inr hfr, ?_⟩⟩
    obtain ⟨c, h1, h2⟩ := look hfr
    rcases q with ⟨k, _⟩ | ⟨_, c', e', z⟩
    · have away := ok.free _ (PySem.mem_of_lookup hfr) rfl
      rw [show X.env.scope.names.lookup y = some .local from k] at away
      exact away.elim (fun z => nomatch z) fun z => nomatch z
    · rw [h2] at e'; cases e'
      exact ⟨c, h1, z.keeps kp⟩
  · obtain ⟨w, z⟩ := I.cell y c (cm e).1
    exact ⟨w, z.keeps kp⟩
  · have hp : p ∈ [(a, go)] ++ ([] : List (Addr × Obj)) := hp
    rw [List.append_nil] at hp
    rw [List.mem_singleton.mp hp]
    refine ⟨hgo, I.hok.fresh (Nat.le_of_lt ha), Nat.ne_of_gt ha, fun z => ?_, hgd⟩
    rcases List.mem_cons.mp (I.stkSub a z) with z | z
    · exact absurd (Nat.lt_trans I.lt ha) (by rw [z]; exact Nat.lt_irrefl _)
    · exact I.nofs (Nat.le_of_lt ha) z
end
end Dl
set_option Elab.async false
set_option linter.all false
set_option maxRecDepth 100000
set_option maxHeartbeats 4000000
namespace Dl
open PySem PySem.Spec PyProof.Rows L2 GxR
def gxR (Y : Cx) (σw : L2.St) (st : Bool) (Q : VK) (g0 : Nat) : Nat → Shared → Shared → Prop := fun _ _ s₁ => ∃ H, Inv Y [] σw H s₁ ∧ Q (.bl (!st)) H ∧ g0 < s₁.gens.size
def gxY (Y : Cx) (st : Bool) (Q : VK) (g0 : Nat) : Protocol := fun _ _ v s kap => ∃ (k : Bool) (H : Hp) (pins : List (Addr × Obj)) (σ : L2.St), v = .bool k ∧ Inv Y pins σ H s ∧ g0 < s.gens.size ∧ (if k = st then Q (.bl st) H else ∀ gs, AllBare gs → g0 < gs.size → kap (.send .none) { s with gens := gs })
/-- a turn's reading -/
def gxT (J : It) (g : TG) (tt : TT) (te : TE) (σw : L2.St) (vs : List Nat) (st : Bool) (Q : VK) (W : Nat → Nat → Hp → Prop) : Prop := ∀ i m H, W i m H → (J.stop i H ∧ Q (.bl (!st)) H) ∨ (J.go i H ∧ ∃ Nx : Hp → Prop, (∀ H', Nx H' → ∃ m', m' < m ∧ W (i + 1) m' H') ∧
  ∀ x H', J.yld i H x H' → g x σw H' fun σ2 H2 => wipe σ2 vs = σw ∧ tt σ2 H2 fun b H3 => if b = true then te σ2 H3 fun y H4 => ∃ k : Bool, y = .bl k ∧ (if k = st then Q (.bl st) H4 else Nx H4) else Nx H3)
section
variable {Y : Cx} {elt tg iter : Expr} {ifs : List Expr} {scope : Scope} {pos : Pos} {it : Addr} {fp : List Addr} {tn : Nat → Heap → Prop} {J : It} {g : TG} {tt : TT} {te : TE} {σw : L2.St} {vs : List Nat} {st : Bool} {Q : VK} {W : Nat → Nat → Hp → Prop} {g0 : Nat} {A' : Around}
theorem seg_gx (hA : Y.A = A'.deeper Y.env) (hxe : ∀ e s, Y.xe e s → False) (hc : Y.calm = true) (hco : Y.env.scope.isCoroutine = false) (T : Turn Y.prog Y.w Y.K tg J fp it tn) (pg : PG Y tg g) (pt : PTs Y ifs tt) (pe : PE Y elt te)
    (stat : ∀ (σ' : L2.St) (H' : Hp) (s' : Shared), Inv Y [] σ' H' s' → (∀ b ∈ fp, H' b = none) → ∀ b ∈ fp, FpOk Y [] H' b) (turn : gxT J g tt te σw vs st Q W) :
    ∀ (m n i : Nat) (H : Hp) (s₀ s : Shared), m < n → Inv Y [] σw H s → tn i s.heap → (∀ b ∈ fp, H b = none) → W i m H → g0 < s.gens.size →
      Seg (model Y.prog Y.w) A' (fun n s₀ r s₁ => r = .ok .next ∧ gxR Y σw st Q g0 n s₀ s₁) (gxY Y st Q g0) n s₀ (.compLoop (.GeneratorExp elt [⟨tg, iter, ifs, 0⟩] scope pos) 0 (.ref it) .none Y.env)
        ((model Y.prog Y.w).den (.compLoop (.GeneratorExp elt [⟨tg, iter, ifs, 0⟩] scope pos) 0 (.ref it) .none Y.env)) [] s := by
  intro m
  induction m using Nat.strongRecOn with
  | _ m ih =>
    intro n i H s₀ s hmn I st' hn w hg
    show Seg _ A' _ _ _ s₀ _ ((compTurn (.GeneratorExp elt [⟨tg, iter, ifs, 0⟩] scope pos) 0 (.ref it) .none Y.env).onRaise (leaving Y.env)) [] s
    rw [compTurn_gen, Sem.onRaise_eq_wrap]
    refine seg_bind_wrap (wpAny_standAt ?_)
    rcases turn i m H w with ⟨stop, qq⟩ | ⟨go, Nx, hNx, step⟩
    · refine seg_bind_wrap ?_
      rw [over_gx, ← hA]
      refine GenW.wpAny_gsz (n := g0 + 1) hg (thnF (T.done Y rfl rfl rfl hc i [] s _ H (fun _ _ => False) I (stat _ _ _ I hn) st' stop) fun r s6 ⟨hr, I6⟩ hg6 => ?_)
      subst hr
      exact seg_end (.ok .next) ⟨rfl, H, I6, qq, hg6⟩
    · refine seg_bind_wrap ?_
      rw [over_gx, ← hA]
      refine GenW.wpAny_gsz (n := g0 + 1) hg (thnF (T.item Y rfl rfl rfl hc i [] s _ H (fun _ _ => False) I (stat _ _ _ I hn) st' go) fun r s6 ⟨u, hr, h6⟩ hg6 => ?_)
      subst hr
      refine seg_bind_wrap ?_
      rw [over_gx, ← hA]
      refine GenW.wpAny_gsz (n := g0 + 1) hg6 (thnF h6 fun _ s7 ⟨x, H7, I7, r7, y7, st7, n7⟩ hg7 => ?_)
      have I7' := I7.pinned (stat _ _ _ I7 n7) (T.obj _ _ st7)
      refine seg_bind_wrap ?_
      rw [over_gx, ← hA]
      refine GenW.wpAny_gsz (n := g0 + 1) hg7 (wpAny_mono (pg.run _ s7 _ H7 x u _ I7' r7 (step x H7 y7)) (fun _ s8 ⟨σ8, H8, I8, hw8, q8⟩ hg8 => ?_) fun e s' z => (hxe e s' z).elim)
      refine seg_bind_wrap ?_
      rw [over_gx, ← hA]
      refine GenW.wpAny_gsz (n := g0 + 1) hg8 (wpAny_mono (pt.run _ s8 σ8 H8 _ I8 q8) (fun b s9 ⟨H9, I9, q9⟩ hg9 => ?_) fun e s' z => (hxe e s' z).elim)
      have fin : ∀ {s' : Shared} {H' : Hp} {n' : Nat} {s₀' : Shared}, Inv Y ([] ++ pinsAt fp s7.heap) σ8 H' s' → Nx H' → m ≤ n' → g0 < s'.gens.size → Seg (model Y.prog Y.w) A' (fun n s₀ r s₁ => r = .ok .next ∧ gxR Y σw st Q g0 n s₀ s₁) (gxY Y st Q g0) n' s₀' (.compLoop (.GeneratorExp elt [⟨tg, iter, ifs, 0⟩] scope pos) 0 (.ref it) .none Y.env)
        ((model Y.prog Y.w).den (.compLoop (.GeneratorExp elt [⟨tg, iter, ifs, 0⟩] scope pos) 0 (.ref it) .none Y.env)) [] s' := fun {s' H' n' s₀'} I' nx hmn' hg' => by
        obtain ⟨m', hm, w'⟩ := hNx H' nx
        have pin' : ∀ b ∈ fp, ∀ o, s7.heap.get? b = some o → s'.heap.get? b = some o ∧ H' b = none := fun b hb o eo => by
          have hp := I'.pin (b, o) (List.mem_append_right _ (List.mem_append_right _ (mem_pinsAt hb eo)))
          exact ⟨hp.1, hp.2.1⟩
        have hl : σw.length = σ8.length := by rw [← hw8, wipe_length]
        refine ih m' hm n' (i + 1) H' s₀' s' (by omega) ((I'.unpinned (pins := [])).weak hl (fun j v e => ?_)) (T.keep _ _ _ st7 fun b hb o e => (pin' b hb o e).1) (fun b hb => ?_) w' hg'
        · rw [← hw8] at e
          exact (wipe_some e).1
        · obtain ⟨o, e, _⟩ := T.obj _ _ st7 b hb
          exact (pin' b hb o e).2
      cases b with
      | false =>
        simp only [Bool.false_eq_true, if_false] at q9 ⊢
        exact seg_again rfl (fin I9 q9 (Nat.le_of_lt hmn) hg9)
      | true =>
        simp only [if_true] at q9 ⊢
        obtain ⟨n', rfl⟩ : ∃ n', n = n' + 1 := ⟨n - 1, by omega⟩
        have hy : ∀ v, yieldOut Y.env v = yieldValue v := fun v => by simp only [yieldOut, hco, Bool.false_eq_true, if_false]
        simp only [hy]
        rw [Sem.bind_eq_wrap', Sem.bind_eq_wrap', Sem.wrap_wrap, Sem.wrap_wrap]
        refine seg_wrap ?_
        rw [over_gx, ← hA]
        refine GenW.wpAny_gsz (n := g0 + 1) hg9 (wpAny_mono (pe.run _ s9 σ8 H9 _ I9 q9) (fun z s10 ⟨yv, H10, I10, r10, k, ey, qk⟩ hg10 => ?_) fun e s' z => (hxe e s' z).elim)
        subst ey
        have ez : z = .bool k := r10
        subst ez
        refine seg_at (seg_yield rfl rfl rfl ⟨k, H10, _, _, rfl, I10, hg10, ?_⟩)
        by_cases hk : k = st
        · rw [if_pos hk] at qk ⊢
          exact qk
        · rw [if_neg hk] at qk ⊢
          intro gs hb hgs
          exact seg_again rfl (fin (inv_gens I10 hb) qk (by omega) hgs)
theorem seg_gs (hA : Y.A = A'.deeper Y.env) (hxe : ∀ e s, Y.xe e s → False) (hc : Y.calm = true) (hco : Y.env.scope.isCoroutine = false) (T : Turn Y.prog Y.w Y.K tg J fp it tn) (pg : PG Y tg g) (pt : PTs Y ifs tt) (pe : PE Y elt te)
    (stat : ∀ (σ' : L2.St) (H' : Hp) (s' : Shared), Inv Y [] σ' H' s' → (∀ b ∈ fp, H' b = none) → ∀ b ∈ fp, FpOk Y [] H' b) (turn : gxT J g tt te σw vs st Q W)
    (m : Nat) (H : Hp) (s₀ s : Shared) (I : Inv Y [] σw H s) (st' : tn 0 s.heap) (hn : ∀ b ∈ fp, H b = none) (w : W 0 m H) (hg : g0 < s.gens.size) :
      Seg (model Y.prog Y.w) A' (fun n s₀ r s₁ => r = .ok .next ∧ gxR Y σw st Q g0 n s₀ s₁) (gxY Y st Q g0) (m + 1) s₀ (.compStart (.GeneratorExp elt [⟨tg, iter, ifs, 0⟩] scope pos) 0 (.ref it) .none Y.env)
        ((model Y.prog Y.w).den (.compStart (.GeneratorExp elt [⟨tg, iter, ifs, 0⟩] scope pos) 0 (.ref it) .none Y.env)) [] s := by
  have loop := seg_gx (iter := iter) (scope := scope) (pos := pos) (g0 := g0) hA hxe hc hco T pg pt pe stat turn m (m + 1) 0 H s₀ s (Nat.lt_succ_self m) I st' hn w hg
  show Seg _ A' _ _ _ s₀ _ ((compStart (.GeneratorExp elt [⟨tg, iter, ifs, 0⟩] scope pos) 0 (.ref it) .none Y.env).onRaise (leaving Y.env)) [] s
  unfold compStart
  rw [Sem.onRaise_eq_wrap]
  show Seg _ A' _ _ _ s₀ _ ((ask >>= _).wrap _ _ _ _) [] s
  refine seg_bind_wrap (wpAny_askSetting ?_)
  split
  · exact seg_again rfl loop
  · first
      | exact seg_bind_wrap (wpAny_rule (seg_bind_wrap (wpAny_standAt (seg_bind_wrap (T.self _ 0 s _ _ st' (seg_again rfl loop))))))
      | (refine seg_bind_wrap (wpAny_rule ?_); show Seg _ A' _ _ _ s₀ _ ((standAt iter.pos >>= _).wrap _ _ _ _) [] s; exact seg_bind_wrap (wpAny_standAt (seg_bind_wrap (T.self _ 0 s _ _ st' (seg_again rfl loop)))))
end
end Dl
set_option Elab.async false
set_option linter.all false
set_option maxRecDepth 100000
set_option maxHeartbeats 4000000
namespace Dl
open PySem PySem.Spec PyProof.Rows L2 GxR
section
variable {Y : Cx} {σw : L2.St} {Q : VK} {g0 : Nat} {A : Around} {a : Addr} {go : Obj} {R : Result → Shared → Prop}
theorem gx_all (hh : A.handled = none) (hroom : A.depth < recursionLimit) (hp : (a, go) ∈ Y.pn) (hgen : ∀ h : Heap, h.get? a = some go → h.IsGen a g0)
    (hE : ∀ H s₁ h', Inv Y [] σw H s₁ → Q (.bl true) H → (∀ b o, s₁.heap.get? b = some o → h'.get? b = some o) → R (.ok (.ret (.bool true))) { s₁.setGen g0 .finished with heap := h' })
    (hS : ∀ H pins σ s₁ gs', gs'.bare = true → Inv Y pins σ H s₁ → Q (.bl false) H → R (.ok (.ret (.bool false))) (s₁.setGen g0 gs')) :
    ∀ (n : Nat) (s : Shared) (gs : GenState) (H : Hp) (pins : List (Addr × Obj)) (σ : L2.St), Inv Y pins σ H s → s.gens[g0]? = some gs →
      gs.Goes (model Y.prog Y.w) A.in1.in1 (fun n s₀ r s₁ => r = .ok .next ∧ gxR Y σw false Q g0 n s₀ s₁) (gxY Y false Q g0) n (.send .none) (s.setGen g0 .running) →
      codeAny (model Y.prog Y.w) A (.builtin "all.loop" ⟨[.ref a], []⟩) R s := by
  intro n
  induction n with
  | zero =>
    intro s gs H pins σ I hgs hgo
    refine codeAny_builtin F.entry_all_loop ?_
    rw [Around.under_plainId F.plain_all_loop _]
    show wpAny _ A.in1 (pyNext (.ref a) >>= _) _ _ s
    refine wpAny_bind (wpAny_pyNext_genexpQ (P := gxR Y σw false Q g0) hh I.nolimit hroom (hgen _ (I.pin (a, go) (List.mem_append_left _ hp)).1) hgs hgo (fun v s₁ gs' hb hv => ?_) (fun s₁ hp h' hk => ?_))
    · obtain ⟨k, H', pins', σ', rfl, I', hg', q⟩ := hv
      refine wpAny_bind (wpAny_holding (wpAny_truthy_bool (wpAny_bind (wpAny_letGo ?_))))
      cases k with
      | true =>
        rw [if_neg (by decide)] at q
        exact (q s₁.gens I'.bare hg').elim
      | false =>
        rw [if_pos rfl] at q
        simp only [Bool.false_eq_true, if_false]
        refine wpAny_bind (wpAny_rule (wpAny_pure ?_))
        exact hS H' pins' σ' s₁ gs' hb I' q
    · obtain ⟨H', I', qq, hg'⟩ := hp
      refine wpAny_bind (wpAny_rule (wpAny_pure ?_))
      exact hE H' s₁ h' I' qq hk
  | succ n ih =>
    intro s gs H pins σ I hgs hgo
    refine codeAny_builtin F.entry_all_loop ?_
    rw [Around.under_plainId F.plain_all_loop _]
    show wpAny _ A.in1 (pyNext (.ref a) >>= _) _ _ s
    refine wpAny_bind (wpAny_pyNext_genexpQ (P := gxR Y σw false Q g0) hh I.nolimit hroom (hgen _ (I.pin (a, go) (List.mem_append_left _ hp)).1) hgs hgo (fun v s₁ gs' hb hv => ?_) (fun s₁ hp h' hk => ?_))
    · obtain ⟨k, H', pins', σ', rfl, I', hg', q⟩ := hv
      refine wpAny_bind (wpAny_holding (wpAny_truthy_bool (wpAny_bind (wpAny_letGo ?_))))
      cases k with
      | true =>
        rw [if_neg (by decide)] at q
        simp only [if_true]
        refine wpAny_pure ⟨plainId_quiet F.plain_all_loop _, ih (s₁.setGen g0 gs') gs' H' pins' σ' (inv_gens I' (bare_set I'.bare hb)) ?_ (q _ (bare_set (bare_set I'.bare hb) rfl) ?_)⟩
        · simp [Shared.setGen, hg']
        · simpa [Shared.setGen] using hg'
      | false =>
        rw [if_pos rfl] at q
        simp only [Bool.false_eq_true, if_false]
        refine wpAny_bind (wpAny_rule (wpAny_pure ?_))
        exact hS H' pins' σ' s₁ gs' hb I' q
    · obtain ⟨H', I', qq, hg'⟩ := hp
      refine wpAny_bind (wpAny_rule (wpAny_pure ?_))
      exact hE H' s₁ h' I' qq hk
theorem gx_any (hh : A.handled = none) (hroom : A.depth < recursionLimit) (hp : (a, go) ∈ Y.pn) (hgen : ∀ h : Heap, h.get? a = some go → h.IsGen a g0)
    (hE : ∀ H s₁ h', Inv Y [] σw H s₁ → Q (.bl false) H → (∀ b o, s₁.heap.get? b = some o → h'.get? b = some o) → R (.ok (.ret (.bool false))) { s₁.setGen g0 .finished with heap := h' })
    (hS : ∀ H pins σ s₁ gs', gs'.bare = true → Inv Y pins σ H s₁ → Q (.bl true) H → R (.ok (.ret (.bool true))) (s₁.setGen g0 gs')) :
    ∀ (n : Nat) (s : Shared) (gs : GenState) (H : Hp) (pins : List (Addr × Obj)) (σ : L2.St), Inv Y pins σ H s → s.gens[g0]? = some gs →
      gs.Goes (model Y.prog Y.w) A.in1.in1 (fun n s₀ r s₁ => r = .ok .next ∧ gxR Y σw true Q g0 n s₀ s₁) (gxY Y true Q g0) n (.send .none) (s.setGen g0 .running) →
      codeAny (model Y.prog Y.w) A (.builtin "any.loop" ⟨[.ref a], []⟩) R s := by
  intro n
  induction n with
  | zero =>
    intro s gs H pins σ I hgs hgo
    refine codeAny_builtin F.entry_any_loop ?_
    rw [Around.under_plainId F.plain_any_loop _]
    show wpAny _ A.in1 (pyNext (.ref a) >>= _) _ _ s
    refine wpAny_bind (wpAny_pyNext_genexpQ (P := gxR Y σw true Q g0) hh I.nolimit hroom (hgen _ (I.pin (a, go) (List.mem_append_left _ hp)).1) hgs hgo (fun v s₁ gs' hb hv => ?_) (fun s₁ hp h' hk => ?_))
    · obtain ⟨k, H', pins', σ', rfl, I', hg', q⟩ := hv
      refine wpAny_bind (wpAny_holding (wpAny_truthy_bool (wpAny_bind (wpAny_letGo ?_))))
      cases k with
      | false =>
        rw [if_neg (by decide)] at q
        exact (q s₁.gens I'.bare hg').elim
      | true =>
        rw [if_pos rfl] at q
        simp only [if_true]
        refine wpAny_bind (wpAny_rule (wpAny_pure ?_))
        exact hS H' pins' σ' s₁ gs' hb I' q
    · obtain ⟨H', I', qq, hg'⟩ := hp
      refine wpAny_bind (wpAny_rule (wpAny_pure ?_))
      exact hE H' s₁ h' I' qq hk
  | succ n ih =>
    intro s gs H pins σ I hgs hgo
    refine codeAny_builtin F.entry_any_loop ?_
    rw [Around.under_plainId F.plain_any_loop _]
    show wpAny _ A.in1 (pyNext (.ref a) >>= _) _ _ s
    refine wpAny_bind (wpAny_pyNext_genexpQ (P := gxR Y σw true Q g0) hh I.nolimit hroom (hgen _ (I.pin (a, go) (List.mem_append_left _ hp)).1) hgs hgo (fun v s₁ gs' hb hv => ?_) (fun s₁ hp h' hk => ?_))
    · obtain ⟨k, H', pins', σ', rfl, I', hg', q⟩ := hv
      refine wpAny_bind (wpAny_holding (wpAny_truthy_bool (wpAny_bind (wpAny_letGo ?_))))
      cases k with
      | false =>
        rw [if_neg (by decide)] at q
        simp only [Bool.false_eq_true, if_false]
        refine wpAny_pure ⟨plainId_quiet F.plain_any_loop _, ih (s₁.setGen g0 gs') gs' H' pins' σ' (inv_gens I' (bare_set I'.bare hb)) ?_ (q _ (bare_set (bare_set I'.bare hb) rfl) ?_)⟩
        · simp [Shared.setGen, hg']
        · simpa [Shared.setGen] using hg'
      | true =>
        rw [if_pos rfl] at q
        simp only [if_true]
        refine wpAny_bind (wpAny_rule (wpAny_pure ?_))
        exact hS H' pins' σ' s₁ gs' hb I' q
    · obtain ⟨H', I', qq, hg'⟩ := hp
      refine wpAny_bind (wpAny_rule (wpAny_pure ?_))
      exact hE H' s₁ h' I' qq hk
end
/-- all (st = false), any (st = true) -/
def tGx (st : Bool) (P : Addr) (wi : TI) (g : TG) (tt : TT) (te : TE) (vs : List Nat) : TE := fun σ H Q => wi σ H fun J H1 => TabG H1 P ∧ ∀ H2, Tabbed P H1 H2 → ∃ W : Nat → Nat → Hp → Prop, (∃ m, W 0 m H2) ∧ gxT J g tt te (wipe σ vs) vs st Q W
section
variable {X : Cx} {pins : List (Addr × Obj)} {σ : L2.St} {H : Hp} {s : Shared} {Q : VK} {c P : Addr} {elt tg iter : Expr} {ifs : List Expr} {scope : Scope} {gp : Pos} {own : List (Str × Nat)} {wi : TI} {g : TG} {tt : TT} {te : TE} {st : Bool}
theorem gx_core {Q' : Value → Shared → Prop} (hd : X.A.handled = none) (hroom : X.A.depth < recursionLimit) (hc : X.calm = true) (hN : X.N.Nodup) (TB : TabB X.base X.mg c P) (hcode : X.env.code = .ref c) (ok : BlkOk X.N X.env.scope scope own) (co : scope.isCoroutine = false)
    (hcell : ∀ y ∈ scope.names, y.2 ≠ .cell) (dot : scope.names.lookup (".0" : Str) = some NameKind.local) (hi : PI X tg iter wi)
    (hg : ∀ (s : Shared) (H : Hp) (C : Addr) (cv : Value) (fp : List Addr) (pn : List (Addr × Obj)), PG (gxC X s H scope C cv fp pn) tg g) (ht : ∀ (s : Shared) (H : Hp) (C : Addr) (cv : Value) (fp : List Addr) (pn : List (Addr × Obj)), PTs (gxC X s H scope C cv fp pn) ifs tt)
    (he : ∀ (s : Shared) (H : Hp) (C : Addr) (cv : Value) (fp : List Addr) (pn : List (Addr × Obj)), PE (gxC X s H scope C cv fp pn) elt te) (hs : ∀ v, genFold iter X.env v = pure v) (I : Inv X pins σ H s) (h : tGx st P wi g tt te (own.map (·.2)) σ H Q)
    (hQ : ∀ (s4 : Shared) (H2 : Hp) (cv : Value) (fp : List Addr) (a : Addr) (go : Obj) (g0 : Nat) (s5 : Shared) (gs : GenState) (n : Nat), Inv X pins σ H2 s4 → (∀ b ∈ fp, FpOk X pins H2 b) → (∀ h : Heap, h.get? a = some go → h.IsGen a g0) →
      Inv (gxC X s4 H2 scope s4.heap.objs.size cv fp [(a, go)]) [] (wipe σ (own.map (·.2))) H2 s5 → s5.gens[g0]? = some gs →
      gs.Goes (model X.prog X.w) X.A.in1.in1 (fun n s₀ r s₁ => r = .ok .next ∧ gxR (gxC X s4 H2 scope s4.heap.objs.size cv fp [(a, go)]) (wipe σ (own.map (·.2))) st Q g0 n s₀ s₁) (gxY (gxC X s4 H2 scope s4.heap.objs.size cv fp [(a, go)]) st Q g0) n (.send .none) (s5.setGen g0 .running) → Q' (.ref a) s5) :
    wpAny (model X.prog X.w) X.A (eval (.GeneratorExp elt [⟨tg, iter, ifs, 0⟩] scope gp) X.env) Q' X.xe s := by
  have hfree := blk_free I ok
  refine wpAny_GeneratorExp_make co (closure_ok fun y hy e => hfree y hy e) hcell dot ok.kind hroom (thn (hi.run pins s σ H _ I h) fun xv s1 hx => thn hx fun itv s2 h2 => ?_) hs
  obtain ⟨it, fp, tn, J, H2, e, I2, T, st2, f2, ⟨tb, hP, ht'⟩, q⟩ := h2
  subst e
  refine ⟨I2.nolimit, ?_⟩
  have atP : s2.heap.get? P = some { cls := .none, data := .fields tb } := I2.hok P _ hP
  have cd : PySem.W.CodeHd s2.heap c P := TB.code.keeps I2.bk
  have main : ∀ (cv : Value) (h3 : Heap) (tk : Nat) (tb' : Array Value), Heap.ExtBut P s2.heap h3 → s2.heap.objs.size ≤ h3.objs.size → h3.get? P = some { cls := .none, data := .fields tb' } → (∃ more, tb' = tb ++ more) → TriplesOk tb'.toList →
      wpAny (model X.prog X.w) X.A (builtinsFor X.env.globals X.env.builtins) (fun bi s4 => ∀ h', h'.Ns s4.heap.objs.size (fun y => if y = ".0" then some (.ref it) else none) → Heap.SameBut s4.heap.objs.size (s4.heap.push { cls := .type "frame", data := .dict #[] }) h' →
          Q' (.ref h'.objs.size) { s4 with
            gens := s4.gens.push (.fresh (.compStart (.GeneratorExp elt [⟨tg, iter, ifs, 0⟩] scope gp) 0 (.ref it) .none (genEnv scope (cloFrom X.env.cells scope.names []) s4.heap.objs.size cv bi X.env))),
            toks := s4.toks + 1 + 1 + 1,
            heap := h'.push { cls := .type "generator", data := .fields #[.int s4.gens.size 0, .str "<genexpr>" (s4.toks + 1), .str (X.env.qual ++ "<genexpr>") (s4.toks + 1 + 1)] } }) X.xe { s2 with heap := h3, toks := tk } := by
    rintro cv h3 tk tb' hx hsz hP3 ⟨more, rfl⟩ ht3
    have I3 : Inv X pins σ (upd H2 P (.tbl (tb ++ more))) { s2 with heap := h3, toks := tk } := inv_tab (g' := s2.gens) (d' := s2.drawn) I2 hP (fun b o nb e => hx b o nb e) hP3 I2.bare
    obtain ⟨W, ⟨m0, w0⟩, turn⟩ := q _ ⟨⟨tb ++ more, upd_same, ht3⟩, fun b hb => upd_ne hb⟩
    obtain ⟨bm, _, b1, b2, _, _, b5, b6, b7, b8⟩ := TB.bm
    have nfp : ∀ b ∈ fp, b ≠ P := fun b hb z => by
      have := (f2 b hb).1
      rw [z, hP] at this
      cases this
    have f3 : ∀ b ∈ fp, FpOk X pins (upd H2 P (.tbl (tb ++ more))) b := fun b hb => ⟨by rw [upd_ne (nfp b hb)]; exact (f2 b hb).1, (f2 b hb).2⟩
    have sz : ∀ b ∈ fp, b < h3.objs.size := fun b hb => by
      obtain ⟨o, e, _⟩ := T.obj _ _ st2 b hb
      exact Nat.lt_of_lt_of_le (Heap.lt_size e) hsz
    have st3 : tn 0 h3 := T.keep _ _ _ st2 fun b hb o e => hx b o (nfp b hb) e
    refine wpAny_builtinsFor (m := X.mg) (by rw [I3.ok.glob]; exact I3.mod.glob.keeps I3.bk) b1 b2 (I3.bk _ _ b5) b6 b7 b8 ?_
    generalize hs4 : ({ s2 with heap := h3, toks := tk } : Shared) = s4 at I3 ⊢
    have e43 : s4.heap = h3 := by rw [← hs4]
    intro h' hn' hs'
    generalize hH3 : upd H2 P (.tbl (tb ++ more)) = H3 at I3 w0 f3
    have hsz' : h'.objs.size = s4.heap.objs.size + 1 := by rw [hs'.1, Heap.size_push]
    have keep' : ∀ b o, s4.heap.get? b = some o → h'.get? b = some o := fun b o e => hs'.extBut b o (Nat.ne_of_lt (Heap.lt_size e)) (Heap.get?_push_of_some _ e)
    generalize hgo : ({ cls := .type "generator", data := .fields #[.int s4.gens.size 0, .str "<genexpr>" (s4.toks + 1), .str (X.env.qual ++ "<genexpr>") (s4.toks + 1 + 1)] } : Obj) = go
    have hgen : ∀ h : Heap, h.get? h'.objs.size = some go → h.IsGen h'.objs.size s4.gens.size := fun h e => by
      rw [← hgo] at e
      exact ⟨_, _, _, e, rfl, rfl, rfl⟩
    have hgd : ∀ v, go.data ≠ .cell v := fun v z => by rw [← hgo] at z; cases z
    have hga : (h'.push go).get? h'.objs.size = some go := by rw [← hgo]; exact Heap.get?_push_size _ rfl
    have kp : ∀ b o, s4.heap.get? b = some o → (h'.push go).get? b = some o := fun b o e => Heap.get?_push_of_some _ (keep' b o e)
    have f4 : ∀ b ∈ fp, FpOk X pins H3 b ∧ b < s4.heap.objs.size := fun b hb => ⟨f3 b hb, by rw [e43]; exact sz b hb⟩
    generalize hgs : GenState.fresh (.compStart (.GeneratorExp elt [⟨tg, iter, ifs, 0⟩] scope gp) 0 (.ref it) .none (genEnv scope (cloFrom X.env.cells scope.names []) s4.heap.objs.size cv builtinsNs X.env)) = gs
    have hbare : gs.bare = true := by rw [← hgs]; rfl
    have I5 := gen_start (tk := s4.toks + 1 + 1 + 1) (gs := s4.gens.push gs) (cv := cv) I3 ok hcell hN f4 (hn'.push go) kp (I3.bare.push hbare) (by rw [hsz']; exact Nat.lt_succ_self _) hga hgd
    refine hQ s4 H3 cv fp h'.objs.size go s4.gens.size _ gs (m0 + 1) I3 f3 hgen I5 (Array.getElem?_push_size ..) ?_
    subst hgs
    refine ⟨rfl, ?_⟩
    have stat : ∀ (σ' : L2.St) (H' : Hp) (s' : Shared), Inv (gxC X s4 H3 scope s4.heap.objs.size cv fp [(h'.objs.size, go)]) [] σ' H' s' → (∀ b ∈ fp, H' b = none) → ∀ b ∈ fp, FpOk (gxC X s4 H3 scope s4.heap.objs.size cv fp [(h'.objs.size, go)]) [] H' b := fun σ' H' s' I' hn b hb =>
      ⟨hn b hb, (I'.ok.exf b hb).1, I'.ok.exfs b hb, .inl hb, fun x c e => (I'.ok.exf b hb).2 x c e, fun p hp => by
        have hp : p ∈ [(h'.objs.size, go)] ++ ([] : List (Addr × Obj)) := hp
        rw [List.append_nil] at hp
        rw [List.mem_singleton.mp hp]
        have := (f4 b hb).2
        exact Nat.ne_of_gt (by rw [hsz']; exact Nat.lt_succ_of_lt this)⟩
    have h5 : tn 0 (h'.push go) := T.keep _ _ _ st3 fun b hb o e => kp b o (by rw [e43]; exact e)
    exact seg_gs (Y := gxC X s4 H3 scope s4.heap.objs.size cv fp [(h'.objs.size, go)]) (A' := X.A.in1.in1) (st := st) (Q := Q) (W := W) (vs := own.map (·.2)) rfl (fun _ _ z => z) hc co T (hg ..) (ht ..) (he ..) stat turn m0 H3 _ _ (inv_gens I5 (bare_set I5.bare rfl)) h5 (fun b hb => (f3 b hb).1) w0 (by
      show s4.gens.size < ((s4.gens.push _).setIfInBounds _ _).size
      simp)
  cases hf : codeAmong gp tb.toList with
  | none =>
    refine wpAny_genexprCodeX hcode (cd.code atP ht') (cd.tab atP) hf fun c9 h9 tk hx hge hlt hco _ htab _ => ?_
    obtain ⟨o1, vs, f1, tf, fl, tg, inF, tx, tt, op, _, _, _, _, _, _, _, _, _, htr, _⟩ := hco
    exact main _ h9 tk _ hx (Nat.le_trans hge (Nat.le_of_lt hlt)) htab.2 ⟨_, rfl⟩ htr
  | some cv => exact wpAny_genexprCode_hit hcode (cd.code atP ht') hf (main cv s2.heap s2.toks tb (Heap.ExtBut.refl _ _) (Nat.le_refl _) atP ⟨#[], by simp⟩ ht')
end
end Dl
set_option Elab.async false
set_option linter.all false
set_option maxRecDepth 100000
set_option maxHeartbeats 4000000
namespace Dl
open PySem PySem.Spec PyProof.Rows L2 GxR
section
variable {X : Cx} {c P : Addr} {elt tg iter : Expr} {ifs : List Expr} {scope : Scope} {p gp pos : Pos} {own : List (Str × Nat)} {wi : TI} {g : TG} {tt : TT} {te : TE} {k : Nat}
theorem gx_back {pins : List (Addr × Obj)} {σ σ' : L2.St} {H2 H' : Hp} {s4 s1 : Shared} {cv : Value} {fp : List Addr} {pn pins' : List (Addr × Obj)} (I4 : Inv X pins σ H2 s4) (f4 : ∀ b ∈ fp, FpOk X pins H2 b) (I : Inv (gxC X s4 H2 scope s4.heap.objs.size cv fp pn) pins' σ' H' s1) : Inv X pins σ H' s1 :=
  I4.call' (ch := fp) I.os I.base I.hok I.bare fun b hb => ⟨(f4 b hb).2.2.2.1, (f4 b hb).2.1, (f4 b hb).2.2.2.2.1, (f4 b hb).2.2.2.2.2⟩
theorem pe_all (hr : Room k X.A) (hgl : Gl X "all") (hm : X.mg "all" = none) (hc : X.calm = true) (hN : X.N.Nodup) (TB : TabB X.base X.mg c P) (hcode : X.env.code = .ref c) (ok : BlkOk X.N X.env.scope scope own) (co : scope.isCoroutine = false)
    (hcell : ∀ y ∈ scope.names, y.2 ≠ .cell) (dot : scope.names.lookup (".0" : Str) = some NameKind.local) (hi : PI X tg iter wi)
    (hg : ∀ (s : Shared) (H : Hp) (C : Addr) (cv : Value) (fp : List Addr) (pn : List (Addr × Obj)), PG (gxC X s H scope C cv fp pn) tg g) (ht : ∀ (s : Shared) (H : Hp) (C : Addr) (cv : Value) (fp : List Addr) (pn : List (Addr × Obj)), PTs (gxC X s H scope C cv fp pn) ifs tt)
    (he : ∀ (s : Shared) (H : Hp) (C : Addr) (cv : Value) (fp : List Addr) (pn : List (Addr × Obj)), PE (gxC X s H scope C cv fp pn) elt te) (hs : ∀ v, genFold iter X.env v = pure v := by intro _; rfl)
    (hse : starEach [.GeneratorExp elt [⟨tg, iter, ifs, 0⟩] scope gp] X.env = (false, eval (.GeneratorExp elt [⟨tg, iter, ifs, 0⟩] scope gp) X.env) :: starEach [] X.env := by rfl) :
    PE X (.Call (.Name "all" p) [.GeneratorExp elt [⟨tg, iter, ifs, 0⟩] scope gp] [] pos) (tGx false P wi g tt te (own.map (·.2))) := by
  have hbb : bootBuiltins "all" = some (.builtin "all") := by decide +kernel
  refine ⟨fun pins s σ H Q I h => wpAny_Call_Name_kw (ld_blt I hgl hm hbb (PyProof.Rows.callWith_builtin1 ?_ hse (by rfl)))⟩
  rw [hse] -- all
  show wpAny _ _ (spliced ((false, eval (.GeneratorExp elt [⟨tg, iter, ifs, 0⟩] scope gp) X.env) :: backTo pos (starEach [] X.env))) _ _ s
  have hroom : X.A.depth < recursionLimit := by have := hr.dp; omega
  refine Calls.spliced_cons (gx_core hr.hd hroom hc hN TB hcode ok co hcell dot hi hg ht he hs I h fun s4 H2 cv fp a go g0 s5 gs n I4 f4 hgen I5 hgs hgo => Calls.spliced_nil ?_)
  refine call_function_tree F.kind_all F.plain_all F.entry_all (F.args_all1 _) ?_
  unfold Builtin.«all»
  refine wpAny_bind (m := oneArg "all" _) (wpAny_pure ?_)
  refine wpAny_bind (wpAny_pyIter_gen (hgen _ (I5.pin (a, go) (by simp)).1) ?_)
  refine wpAny_pure ⟨plainId_quiet F.plain_all_loop _, gx_all (Y := gxC X s4 H2 scope s4.heap.objs.size cv fp [(a, go)]) (go := go) (Q := Q) (σw := wipe σ (own.map (·.2))) hr.hd hroom (by simp) hgen (fun H' s1 h' I1 q hk => ?_) (fun H' pins' σ' s1 gs' hb I1 q => ?_) n s5 gs H2 _ _ I5 hgs hgo⟩
  · exact ⟨.bl true, H', inv_gens ((gx_back I4 f4 I1).kept (t' := s1.toks) hk) (bare_set I1.bare rfl), rfl, q⟩
  · exact ⟨.bl false, H', inv_gens (gx_back I4 f4 I1) (bare_set I1.bare hb), rfl, q⟩
theorem pe_any (hr : Room k X.A) (hgl : Gl X "any") (hm : X.mg "any" = none) (hc : X.calm = true) (hN : X.N.Nodup) (TB : TabB X.base X.mg c P) (hcode : X.env.code = .ref c) (ok : BlkOk X.N X.env.scope scope own) (co : scope.isCoroutine = false)
    (hcell : ∀ y ∈ scope.names, y.2 ≠ .cell) (dot : scope.names.lookup (".0" : Str) = some NameKind.local) (hi : PI X tg iter wi)
    (hg : ∀ (s : Shared) (H : Hp) (C : Addr) (cv : Value) (fp : List Addr) (pn : List (Addr × Obj)), PG (gxC X s H scope C cv fp pn) tg g) (ht : ∀ (s : Shared) (H : Hp) (C : Addr) (cv : Value) (fp : List Addr) (pn : List (Addr × Obj)), PTs (gxC X s H scope C cv fp pn) ifs tt)
    (he : ∀ (s : Shared) (H : Hp) (C : Addr) (cv : Value) (fp : List Addr) (pn : List (Addr × Obj)), PE (gxC X s H scope C cv fp pn) elt te) (hs : ∀ v, genFold iter X.env v = pure v := by intro _; rfl)
    (hse : starEach [.GeneratorExp elt [⟨tg, iter, ifs, 0⟩] scope gp] X.env = (false, eval (.GeneratorExp elt [⟨tg, iter, ifs, 0⟩] scope gp) X.env) :: starEach [] X.env := by rfl) :
    PE X (.Call (.Name "any" p) [.GeneratorExp elt [⟨tg, iter, ifs, 0⟩] scope gp] [] pos) (tGx true P wi g tt te (own.map (·.2))) := by
  have hbb : bootBuiltins "any" = some (.builtin "any") := by decide +kernel
  refine ⟨fun pins s σ H Q I h => wpAny_Call_Name_kw (ld_blt I hgl hm hbb (PyProof.Rows.callWith_builtin1 ?_ hse (by rfl)))⟩
  rw [hse] -- any
  show wpAny _ _ (spliced ((false, eval (.GeneratorExp elt [⟨tg, iter, ifs, 0⟩] scope gp) X.env) :: backTo pos (starEach [] X.env))) _ _ s
  have hroom : X.A.depth < recursionLimit := by have := hr.dp; omega
  refine Calls.spliced_cons (gx_core hr.hd hroom hc hN TB hcode ok co hcell dot hi hg ht he hs I h fun s4 H2 cv fp a go g0 s5 gs n I4 f4 hgen I5 hgs hgo => Calls.spliced_nil ?_)
  refine call_function_tree F.kind_any F.plain_any F.entry_any (F.args_any1 _) ?_
  unfold Builtin.«any»
  refine wpAny_bind (m := oneArg "any" _) (wpAny_pure ?_)
  refine wpAny_bind (wpAny_pyIter_gen (hgen _ (I5.pin (a, go) (by simp)).1) ?_)
  refine wpAny_pure ⟨plainId_quiet F.plain_any_loop _, gx_any (Y := gxC X s4 H2 scope s4.heap.objs.size cv fp [(a, go)]) (go := go) (Q := Q) (σw := wipe σ (own.map (·.2))) hr.hd hroom (by simp) hgen (fun H' s1 h' I1 q hk => ?_) (fun H' pins' σ' s1 gs' hb I1 q => ?_) n s5 gs H2 _ _ I5 hgs hgo⟩
  · exact ⟨.bl false, H', inv_gens ((gx_back I4 f4 I1).kept (t' := s1.toks) hk) (bare_set I1.bare rfl), rfl, q⟩
  · exact ⟨.bl true, H', inv_gens (gx_back I4 f4 I1) (bare_set I1.bare hb), rfl, q⟩
/-- room for what the element calls -/
theorem Room_gx {k : Nat} {scope : Scope} {C : Addr} {cv : Value} (hr : Room (k + 1) X.A) : Room k (X.A.in1.in1.deeper (gxE X scope C cv)) :=
  ⟨hr.hd, by have := hr.dp; show X.A.depth + 1 + 3 * k + 5 < _; omega, by have := hr.un; show X.A.units + 1 + 1 + 3 + 16 * k + 200 < _; omega⟩
end
/-! ### on data -/
/-- the table of code objects at P is among what is shared -/
structure ZTab {S : Type} (Z : Zk S) (P : Addr) : Prop where
  m : Z.M P
  tab : ∀ H s, Z.R H s → TabG H P
  put : ∀ H H' s, Z.R H s → Tabbed P H H' → Z.R H' s
section
variable {S : Type}
/-- all (st = false), any (st = true) -/
def quF (st : Bool) (t : Tg) (q : Et S) (f : Ev S) (ρ : Rho) : List D → S → Option (Bool × S)
  | [], s => some (!st, s)
  | d :: ds, s => match t d ρ with
    | none => none
    | some ρ1 => bnd (q ρ1 s) fun b s => if b = true then bnd (f ρ1 s) fun y s => bnd (put (asB y) s) fun k s => if k = st then some (st, s) else quF st t q f ρ ds s else quF st t q f ρ ds s
def cQu (st : Bool) (fi : Ea S) (t : Tg) (q : Et S) (f : Ev S) (vs : List Nat) : Ev S := fun ρ s => bnd (fi ρ s) fun ds s => bnd (quF st t q f (wipeR ρ vs) ds s) fun b s => some (.bool b, s)
variable {X : Cx} {G : Kx} {Z : Zk S} {W : List Nat} {f : Ev S}
theorem tabbed_fr {M : Bar} {P : Addr} {H H' : Hp} (h : Tabbed P H H') (m : M P) : Lc.Fr M H H' := fun b o e => by
  by_cases hb : b = P
  · subst hb
    obtain ⟨ps, q, _⟩ := h.1
    exact ⟨_, q, fun z => absurd m z⟩
  · exact ⟨o, (h.2 b hb).trans e, fun _ => rfl⟩
theorem qu_at {P : Addr} (zt : ZTab Z P) {fi : Ea S} {t : Tg} {us vs : List Nat} {q : Et S} {tt : TT} {st : Bool} {σ : L2.St} {H : Hp} {Q : VK} (hu : ∀ i ∈ us, i ∈ vs) (hq : ∀ σ H Q, tEt G Z W q σ H Q → tt σ H Q)
    (h : tEx G Z W (cQu st fi t q f vs) σ H Q) : tGx st P (tIt G Z W fi) (tTg G Z W us t) tt (tEx G Z W f) vs σ H Q := by
  obtain ⟨B, O, ρ, s, d, s', eo, hR, hf, hQ⟩ := h
  unfold cQu at hf
  obtain ⟨xs, s1, h1, hf⟩ := bnd_some hf
  obtain ⟨b, s2, h2, hf⟩ := bnd_some hf
  cases hf
  refine ⟨B, O, ρ, s, xs, s1, eo, hR, h1, fun J H1 f1 wk R1 => ⟨zt.tab _ _ R1, fun H2 tb => ?_⟩⟩
  obtain ⟨Gd, Y, w, k⟩ := wk
  have fT : Lc.Fr Z.M H1 H2 := tabbed_fr tb zt.m
  have R2 := zt.put _ _ _ R1 tb
  have eo2 := (eo.fr f1).fr fT
  have st0 : ∀ {H3 : Hp}, Lc.Fr Z.M H1 H3 → ∀ a o, H1 a = some o → ¬ (B a ∨ O a) → H3 a = some o ∧ ¬ (B a ∨ O a) := fun f2 a o e n => ⟨f2.at e fun z => n (.inl (eo.mb a z)), n⟩
  have dm : ∀ {H3 : Hp}, Eo G Z W B O H3 σ ρ → ∀ a, (B a ∨ O a) → H3 a ≠ none := fun e2 a z => z.elim (e2.bd a) (e2.od a)
  refine ⟨fun i m H3 => m = xs.length - i ∧ i ≤ xs.length ∧ ∃ s3, Eo G Z W B O H3 σ ρ ∧ Lc.Fr Z.M H1 H3 ∧ Z.R H3 s3 ∧ quF st t q f (wipeR ρ vs) (xs.drop i) s3 = some (b, s'), ⟨_, rfl, Nat.zero_le _, s1, eo2, fT, R2, h2⟩, ?_⟩
  rintro i m H3 ⟨rfl, hi, s3, eo3, f3, R3, hl⟩
  have gd := (k _ H3 (st0 f3) (dm eo3)).1
  by_cases hlt : i < xs.length
  · refine .inr ⟨w.goes i H3 hlt gd, fun H4 => ∃ s4, Eo G Z W B O H4 σ ρ ∧ Lc.Fr Z.M H1 H4 ∧ Z.R H4 s4 ∧ quF st t q f (wipeR ρ vs) (xs.drop (i + 1)) s4 = some (b, s'), fun H4 p4 => ⟨xs.length - (i + 1), by omega, rfl, hlt, p4⟩, fun x H4 y => ?_⟩
    have y := w.yields i H3 x H4 hlt gd y
    have hd : xs[i]? = some xs[i] := by simp [hlt]
    obtain ⟨sm, rp⟩ := (k _ H3 (st0 f3) (dm eo3)).2 i xs[i] x H4 hd y
    rw [List.drop_eq_getElem_cons hlt] at hl
    unfold quF at hl
    split at hl
    · cases hl
    · rename_i ρ3 e1
      have eo4 := (eo3.fr (Lc.Fr.of sm)).wipe vs
      refine ⟨_, O, wipeR ρ vs, xs[i], ρ3, eo4, rp, e1, fun σ3 eo5 kk => ⟨wipe_ext hu (by rw [kk.1, wipe_length]) kk.2, ?_⟩⟩
      obtain ⟨b1, s4, h4, hl⟩ := bnd_some hl
      refine hq _ _ _ ⟨_, O, ρ3, s3, b1, s4, eo5, Z.same R3 sm, h4, fun H5 f5 R5 => ?_⟩
      have f35 : Lc.Fr Z.M H3 H5 := (Lc.Fr.of sm).trans f5
      cases b1 with
      | false =>
        rw [if_neg (by simp)] at hl
        refine iteF ?_
        exact ⟨s4, eo3.fr f35, f3.trans f35, R5, hl⟩
      | true =>
        rw [if_pos rfl] at hl
        refine iteT ?_
        obtain ⟨y1, s5, h5, hl⟩ := bnd_some hl
        obtain ⟨kb, s6, h6, hl9⟩ := bnd_some hl
        obtain ⟨h6, rfl⟩ := put_some h6
        refine ⟨_, O, ρ3, s4, y1, _, eo5.fr f5, R5, h5, fun u H6 f6 r6 R6 => ?_⟩
        have f36 := f35.trans f6
        unfold asB at h6
        split at h6
        · cases h6
          simp only [Rep] at r6
          refine ⟨kb, r6, ?_⟩
          by_cases hk : kb = st
          · rw [if_pos hk] at hl9 ⊢
            cases hl9
            exact hQ _ H6 (f1.trans (f3.trans f36)) (by simp only [Rep]) R6
          · rw [if_neg hk] at hl9 ⊢
            exact ⟨_, eo3.fr f36, f3.trans f36, R6, hl9⟩
        · cases h6
  · have e : i = xs.length := by omega
    subst e
    rw [List.drop_length] at hl
    cases hl
    exact .inl ⟨w.stops H3 gd, hQ _ H3 (f1.trans f3) (by simp only [Rep]) R3⟩
end
end Dl
set_option Elab.async false
set_option linter.all false
set_option maxRecDepth 100000
set_option maxHeartbeats 4000000
/-! the deck that a law draws from -/
namespace Dl
open PySem PySem.Spec PyProof.Rows L2
/-- cells, seed, how many were drawn -/
abbrev DS := List Int × Int × Int
def DkS (d c : Addr) (H : Hp) (s : DS) : Prop := H d = some (.lst [.ref c, .int s.2.1, .int s.2.2]) ∧ H c = some (.lst (s.1.map V.int)) ∧ s.1.length ≤ 63
abbrev MD (d c : Addr) : Addr → Prop := fun b => b = d ∨ b = c
theorem lst_ne {c : Addr} {n s : Int} (cells : List Int) : HO.lst [.ref c, .int n, .int s] ≠ HO.lst (cells.map V.int) := by
  intro z
  have z := HO.lst.inj z
  cases cells with
  | nil => cases z
  | cons x r => cases z
def drawF (s : DS) (m : Int) : Int × DS := match s with
  | ([], n, k) => (((n + 7919 * (k + 1)) * 48271 % 2147483647 * ((n + 7919 * (k + 1)) * 48271 % 2147483647) + 69621 * (k + 1)) % 2147483629 * 16807 % 2147483647 % m, ([], n, k + 1))
  | (x :: r, n, k) => if 10 ^ 18 ≤ x then (x % m, (x / m :: r, n, k + 1)) else
      (((x % 2147483647 + 7919 * (k + 1)) * 48271 % 2147483647 * ((x % 2147483647 + 7919 * (k + 1)) * 48271 % 2147483647) + 69621 * ((x % 2147483647 + 7919 * (k + 1)) * 48271 % 2147483647)) % 2147483629 * 16807 % 2147483647 % m, (r, n, k + 1))
theorem drawF_range (s : DS) {m : Int} (hm : 0 < m) : 0 ≤ (drawF s m).1 ∧ (drawF s m).1 < m := by
  have fin : ∀ r : Int, 0 ≤ r % m ∧ r % m < m := fun r => ⟨Int.emod_nonneg _ (by omega), Int.emod_lt_of_pos _ hm⟩
  obtain ⟨cells, n, k⟩ := s
  unfold drawF
  split
  · exact fin _
  · split
    · exact fin _
    · exact fin _
def Zd (d c : Addr) : Zk DS where
  M := MD d c
  R := DkS d c
  dom := fun H s a h m => by
    obtain ⟨h1, h2, _⟩ := h
    rcases m with rfl | rfl
    · rw [h1]; simp
    · rw [h2]; simp
  loc := fun H H' s h k => ⟨(k d (.inl rfl)).trans h.1, (k c (.inr rfl)).trans h.2.1, h.2.2⟩
abbrev hdD (d : Addr) : Nat → Addr → Prop := fun n a => n = 0 ∧ a = d
/-- a draw below m -/
def Fdraw : Fn DS := fun ds s => match ds with
  | [.dict [(.int 0, .none)], .int m] => if 0 < m ∧ m < 1073741824 then some (.int (drawF s m).1, (drawF s m).2) else none
  | _ => none
theorem fdraw {s : DS} {m : Int} (h : 0 < m) (h2 : m < 1073741824) : Fdraw [hnd 0, .int m] s = some (.int (drawF s m).1, (drawF s m).2) := by
  show (if 0 < m ∧ m < 1073741824 then some (PyData.int (drawF s m).1, (drawF s m).2) else none) = _
  rw [if_pos ⟨h, h2⟩]
end Dl
set_option Elab.async false
set_option linter.all false
set_option maxRecDepth 100000
set_option maxHeartbeats 4000000
/-! functions on data: what they come to -/
namespace Dl
open PySem PySem.Spec PyProof.Rows L2
def Ok {α S : Type} (o : Option (α × S)) (Q : α → S → Prop) : Prop := ∃ a s, o = some (a, s) ∧ Q a s
section
variable {α β S : Type}
theorem Ok.imp {o : Option (α × S)} {Q R : α → S → Prop} (h : Ok o Q) (k : ∀ a s, Q a s → R a s) : Ok o R := let ⟨a, s, e, q⟩ := h; ⟨a, s, e, k a s q⟩
theorem Ok.of {o : Option (α × S)} {Q : α → S → Prop} {a : α} {s : S} (e : o = some (a, s)) (q : Q a s) : Ok o Q := ⟨a, s, e, q⟩
theorem ok_bnd {f : Option (α × S)} {k : α → S → Option (β × S)} {Q : β → S → Prop} : Ok (bnd f k) Q ↔ Ok f fun a s => Ok (k a s) Q := by
  constructor
  · rintro ⟨b, s, e, q⟩
    obtain ⟨a, s1, h1, h2⟩ := bnd_some e
    exact ⟨a, s1, h1, b, s, h2, q⟩
  · rintro ⟨a, s1, rfl, b, s, h2, q⟩
    exact ⟨b, s, h2, q⟩
@[simp] theorem ok_some {a : α} {s : S} {Q : α → S → Prop} : Ok (some (a, s)) Q ↔ Q a s := by
  constructor
  · rintro ⟨b, s', e, q⟩
    cases e
    exact q
  · intro q
    exact ⟨a, s, rfl, q⟩
@[simp] theorem ok_none {Q : α → S → Prop} : Ok (none : Option (α × S)) Q ↔ False := by
  constructor
  · rintro ⟨b, s', e, q⟩
    cases e
  · exact False.elim
theorem ok_put {o : Option α} {s : S} {Q : α → S → Prop} : Ok (put o s) Q ↔ ∃ a, o = some a ∧ Q a s := by
  constructor
  · rintro ⟨b, s', e, q⟩
    obtain ⟨h1, rfl⟩ := put_some e
    exact ⟨b, h1, q⟩
  · rintro ⟨a, rfl, q⟩
    exact ⟨a, s, rfl, q⟩
theorem ok_ite {c : Prop} [Decidable c] {x y : Option (α × S)} {Q : α → S → Prop} : Ok (if c then x else y) Q ↔ (c → Ok x Q) ∧ (¬ c → Ok y Q) := by
  by_cases h : c
  · simp [h]
  · simp [h]
/-! how combinators come to something -/
variable {ρ : Rho} {s : S} {f g : Ev S} {fa : Ea S}
theorem k_var {i : Nat} {d : D} {Q : D → S → Prop} (h : ρ[i]? = some (some d)) (q : Q d s) : Ok (cVar i ρ s) Q := ⟨d, s, by unfold cVar; rw [h], q⟩
theorem k_K {d : D} {Q : D → S → Prop} (q : Q d s) : Ok (cK d ρ s) Q := ⟨d, s, rfl, q⟩
theorem k_B {p : D → D → Option D} {Q : D → S → Prop} (h : Ok (f ρ s) fun x s => Ok (g ρ s) fun y s => ∃ z, p x y = some z ∧ Q z s) : Ok (cB p f g ρ s) Q := by
  unfold cB
  rw [ok_bnd]
  refine h.imp fun x s h => ?_
  rw [ok_bnd]
  exact h.imp fun y s h => ok_put.mpr h
theorem k_U {p : D → Option D} {Q : D → S → Prop} (h : Ok (f ρ s) fun x s => ∃ z, p x = some z ∧ Q z s) : Ok (cU p f ρ s) Q := by
  unfold cU
  rw [ok_bnd]
  exact h.imp fun x s h => ok_put.mpr h
theorem k_nil {Q : List D → S → Prop} (q : Q [] s) : Ok (aNil ρ s) Q := ⟨[], s, rfl, q⟩
theorem k_cons {Q : List D → S → Prop} (h : Ok (f ρ s) fun x s => Ok (fa ρ s) fun xs s => Q (x :: xs) s) : Ok (aCons f fa ρ s) Q := by
  unfold aCons
  rw [ok_bnd]
  refine h.imp fun x s h => ?_
  rw [ok_bnd]
  exact h.imp fun y s h => ok_some.mpr h
theorem k_N {p : List D → Option D} {Q : D → S → Prop} (h : Ok (fa ρ s) fun xs s => ∃ z, p xs = some z ∧ Q z s) : Ok (cN p fa ρ s) Q := by
  unfold cN
  rw [ok_bnd]
  exact h.imp fun x s h => ok_put.mpr h
theorem k_call {n : Nat} {F : Fn S} {Q : D → S → Prop} (h : Ok (fa ρ s) fun xs s => xs.length = n ∧ Ok (F xs s) Q) : Ok (cCall n F fa ρ s) Q := by
  unfold cCall
  rw [ok_bnd]
  exact h.imp fun x s h => by rw [if_pos h.1]; exact h.2
theorem k_nl {fa : Ea S} {Q : D → S → Prop} (h : Ok (fa ρ s) fun xs s => Q (.list xs) s) : Ok (cNl fa ρ s) Q := by
  unfold cNl
  rw [ok_bnd]
  exact h.imp fun x s h => ok_some.mpr h
theorem k_fl {Q : D → S → Prop} (h : Ok (f ρ s) fun x s => flatD x = true ∧ Q x s) : Ok (cFl f ρ s) Q := by
  unfold cFl
  rw [ok_bnd]
  exact h.imp fun x s h => by rw [if_pos h.1]; exact ok_some.mpr h.2
theorem k_afl {Q : List D → S → Prop} (h : Ok (fa ρ s) fun x s => flatDs x = true ∧ Q x s) : Ok (aFl fa ρ s) Q := by
  unfold aFl
  rw [ok_bnd]
  exact h.imp fun x s h => by rw [if_pos h.1]; exact ok_some.mpr h.2
theorem k_aN {p : List D → Option (List D)} {Q : List D → S → Prop} (h : Ok (fa ρ s) fun xs s => ∃ z, p xs = some z ∧ Q z s) : Ok (aN p fa ρ s) Q := by
  unfold aN
  rw [ok_bnd]
  exact h.imp fun x s h => ok_put.mpr h
theorem k_aCat {Q : List D → S → Prop} (h : Ok (f ρ s) fun x s => ∃ a, x = .list a ∧ Ok (g ρ s) fun y s => ∃ b, y = .list b ∧ a.length + b.length ≤ sizeLine ∧ Q (a ++ b) s) : Ok (aCat f g ρ s) Q := by
  unfold aCat
  rw [ok_bnd]
  refine h.imp fun x s ⟨a, e, h⟩ => ?_
  subst e
  rw [ok_bnd]
  refine h.imp fun y s ⟨b, e, hl, h⟩ => ?_
  subst e
  simp only
  rw [if_pos hl]
  exact ok_some.mpr h
theorem k_T {Q : Bool → S → Prop} (h : Ok (f ρ s) fun x s => ∃ b, truth x = some b ∧ Q b s) : Ok (qT f ρ s) Q := by
  unfold qT
  rw [ok_bnd]
  exact h.imp fun x s h => ok_put.mpr h
theorem k_qNot {q : Et S} {Q : Bool → S → Prop} (h : Ok (q ρ s) fun b s => Q (!b) s) : Ok (qNot q ρ s) Q := by
  unfold qNot
  rw [ok_bnd]
  exact h.imp fun x s h => ok_some.mpr h
theorem k_qAnd {q r : Et S} {Q : Bool → S → Prop} (h : Ok (q ρ s) fun b s => if b = true then Ok (r ρ s) Q else Q false s) : Ok (qAnd q r ρ s) Q := by
  unfold qAnd
  rw [ok_bnd]
  refine h.imp fun b s h => ?_
  cases b <;> simpa using h
theorem k_qOr {q r : Et S} {Q : Bool → S → Prop} (h : Ok (q ρ s) fun b s => if b = true then Q true s else Ok (r ρ s) Q) : Ok (qOr q r ρ s) Q := by
  unfold qOr
  rw [ok_bnd]
  refine h.imp fun b s h => ?_
  cases b <;> simpa using h
theorem k_and {Q : D → S → Prop} (h : Ok (f ρ s) fun x s => ∃ b, truth x = some b ∧ if b = true then Ok (g ρ s) Q else Q x s) : Ok (cAnd f g ρ s) Q := by
  unfold cAnd
  rw [ok_bnd]
  refine h.imp fun x s ⟨b, e, h⟩ => ?_
  rw [ok_bnd, e]
  simp only [put_of, ok_some]
  cases b <;> simpa using h
theorem k_or {Q : D → S → Prop} (h : Ok (f ρ s) fun x s => ∃ b, truth x = some b ∧ if b = true then Q x s else Ok (g ρ s) Q) : Ok (cOr f g ρ s) Q := by
  unfold cOr
  rw [ok_bnd]
  refine h.imp fun x s ⟨b, e, h⟩ => ?_
  rw [ok_bnd, e]
  simp only [put_of, ok_some]
  cases b <;> simpa using h
theorem k_not {Q : D → S → Prop} (h : Ok (f ρ s) fun x s => ∃ b, truth x = some b ∧ Q (.bool (!b)) s) : Ok (cNot f ρ s) Q := by
  unfold cNot
  rw [ok_bnd]
  refine h.imp fun x s ⟨b, e, h⟩ => ?_
  rw [ok_bnd, e]
  simpa using h
theorem k_if {q : Et S} {Q : D → S → Prop} (h : Ok (q ρ s) fun b s => if b = true then Ok (f ρ s) Q else Ok (g ρ s) Q) : Ok (cIf q f g ρ s) Q := by
  unfold cIf
  rw [ok_bnd]
  refine h.imp fun b s h => ?_
  cases b <;> simpa using h
theorem k_Sl {p : D → Option Int → Option Int → Option D} {l h : Eo' S} {Q : D → S → Prop} (hh : Ok (f ρ s) fun x s => Ok (l ρ s) fun lo s => Ok (h ρ s) fun hi s => ∃ z, p x lo hi = some z ∧ Q z s) : Ok (cSl p f l h ρ s) Q := by
  unfold cSl
  rw [ok_bnd]
  refine hh.imp fun x s hh => ?_
  rw [ok_bnd]
  refine hh.imp fun x s hh => ?_
  rw [ok_bnd]
  exact hh.imp fun x s hh => ok_put.mpr hh
theorem k_oNo {Q : Option Int → S → Prop} (q : Q none s) : Ok (oNo ρ s) Q := ⟨none, s, rfl, q⟩
theorem k_oOf {Q : Option Int → S → Prop} (h : Ok (f ρ s) fun x s => ∃ i, x = .int i ∧ Q (some i) s) : Ok (oOf f ρ s) Q := by
  unfold oOf
  rw [ok_bnd]
  refine h.imp fun x s ⟨i, e, h⟩ => ?_
  subst e
  exact ok_put.mpr ⟨some i, rfl, h⟩
theorem k_Ch {p q : D → D → Option D} {h : Ev S} {Q : D → S → Prop} (hh : Ok (f ρ s) fun x s => Ok (g ρ s) fun y s => ∃ b, p x y = some (.bool b) ∧ if b = true then Ok (h ρ s) fun w s => ∃ z, q y w = some z ∧ Q z s else Q (.bool false) s) : Ok (cCh p q f g h ρ s) Q := by
  unfold cCh
  rw [ok_bnd]
  refine hh.imp fun x s hh => ?_
  rw [ok_bnd]
  refine hh.imp fun y s ⟨b, e, hh⟩ => ?_
  rw [ok_bnd, e]
  simp only [put_of, ok_some]
  rw [ok_bnd]
  simp only [asB, put_of, ok_some]
  cases b with
  | true =>
    simp only [if_true] at hh ⊢
    rw [ok_bnd]
    exact hh.imp fun x s hh => ok_put.mpr hh
  | false => simpa using hh
/-! statements -/
variable {F F' : Sv S} {Q : Rs → S → Prop}
theorem k_seq (h : Ok (F ρ s) fun r s => match r with | .nx ρ' => Ok (F' ρ' s) Q | r => Q r s) : Ok (sSeq F F' ρ s) Q := by
  obtain ⟨r, s', e, h⟩ := h
  unfold sSeq
  rw [e]
  cases r with
  | nx ρ' => exact h
  | rt d => exact ⟨_, _, rfl, h⟩
  | bk d => exact ⟨_, _, rfl, h⟩
  | ct d => exact ⟨_, _, rfl, h⟩
theorem k_set {i : Nat} (h : Ok (f ρ s) fun d s => Q (.nx (ρ.set i (some d))) s) : Ok (sSet i f ρ s) Q := by
  unfold sSet
  rw [ok_bnd]
  exact h.imp fun x s h => ok_some.mpr h
theorem k_own {i : Nat} (h : Ok (fa ρ s) fun d s => Q (.nx (ρ.set i (some (.list d)))) s) : Ok (sOwn i fa ρ s) Q := by
  unfold sOwn
  rw [ok_bnd]
  exact h.imp fun x s h => ok_some.mpr h
theorem k_ret (h : Ok (f ρ s) fun d s => Q (.rt d) s) : Ok (sRet f ρ s) Q := by
  unfold sRet
  rw [ok_bnd]
  exact h.imp fun x s h => ok_some.mpr h
theorem k_sIf {q : Et S} (h : Ok (q ρ s) fun b s => if b = true then Ok (F ρ s) Q else Ok (F' ρ s) Q) : Ok (sIf q F F' ρ s) Q := by
  unfold sIf
  rw [ok_bnd]
  refine h.imp fun b s h => ?_
  cases b <;> simpa using h
theorem k_nx (h : Q (.nx ρ) s) : Ok (sNx ρ s) Q := ⟨_, _, rfl, h⟩
theorem k_ct (h : Q (.ct ρ) s) : Ok (sCt ρ s) Q := ⟨_, _, rfl, h⟩
theorem k_asg {t : Tg} (h : Ok (f ρ s) fun d s => ∃ ρ', t d ρ = some ρ' ∧ Q (.nx ρ') s) : Ok (sAsg f t ρ s) Q := by
  unfold sAsg
  rw [ok_bnd]
  refine h.imp fun x s ⟨ρ', e, h⟩ => ?_
  rw [e]
  exact ok_some.mpr h
theorem k_app {i : Nat} {ds : List D} (hd : ρ[i]? = some (some (.list ds))) (hl : ds.length < sizeLine) (h : Ok (f ρ s) fun d s => Q (.nx (ρ.set i (some (.list (ds ++ [d]))))) s) : Ok (sApp i f ρ s) Q := by
  unfold sApp
  rw [hd]
  simp only
  rw [ok_bnd]
  refine h.imp fun x s h => ?_
  rw [if_pos hl]
  exact ok_some.mpr h
theorem k_aug {i : Nat} {p : D → D → Option D} {x : D} (hd : ρ[i]? = some (some x)) (h : Ok (f ρ s) fun y s => ∃ z, p x y = some z ∧ Q (.nx (ρ.set i (some z))) s) : Ok (sAug i p f ρ s) Q := by
  unfold sAug
  rw [hd]
  simp only
  rw [ok_bnd]
  refine h.imp fun y s ⟨z, e, h⟩ => ?_
  rw [e]
  exact ok_some.mpr h
theorem k_loop {t : Tg} {body : Sv S} (Iv : Nat → Rho → S → Prop) : ∀ (ds : List D) (i : Nat) (ρ : Rho) (s : S), Iv i ρ s →
    (∀ j d ρ s, ds[j]? = some d → Iv (i + j) ρ s → ∃ ρ1, t d ρ = some ρ1 ∧ Ok (body ρ1 s) fun r s => match r with | .nx ρ => Iv (i + j + 1) ρ s | .ct ρ => Iv (i + j + 1) ρ s | .bk ρ => Q (.nx ρ) s | .rt d => Q (.rt d) s) →
    (∀ ρ s, Iv (i + ds.length) ρ s → Q (.nx ρ) s) → Ok (loopF t body ds ρ s) Q
  | [], i, ρ, s, h, _, e => ⟨_, _, rfl, e ρ s h⟩
  | d :: ds, i, ρ, s, h, k, e => by
    obtain ⟨ρ1, h1, r, s1, h2, h3⟩ := k 0 d ρ s rfl h
    unfold loopF
    rw [h1]
    simp only
    rw [h2]
    have go : ∀ ρ s, Iv (i + 1) ρ s → Ok (loopF t body ds ρ s) Q := fun ρ s h => k_loop Iv ds (i + 1) ρ s h (fun j d' ρ s hd hI => by
      have := k (j + 1) d' ρ s (by simpa using hd) (by rw [show i + (j + 1) = i + 1 + j by omega]; exact hI)
      rw [show i + (j + 1) + 1 = i + 1 + j + 1 by omega] at this
      exact this) (fun ρ s hI => e ρ s (by rw [List.length_cons, show i + (ds.length + 1) = i + 1 + ds.length by omega]; exact hI))
    cases r with
    | nx ρ' => exact go ρ' s1 h3
    | ct ρ' => exact go ρ' s1 h3
    | bk ρ' => exact ⟨_, _, rfl, h3⟩
    | rt d => exact ⟨_, _, rfl, h3⟩
theorem k_for {fi : Ea S} {t : Tg} {body : Sv S} (h : Ok (fi ρ s) fun ds s => ∃ Iv : Nat → Rho → S → Prop, Iv 0 ρ s ∧
    (∀ j d ρ s, ds[j]? = some d → Iv j ρ s → ∃ ρ1, t d ρ = some ρ1 ∧ Ok (body ρ1 s) fun r s => match r with | .nx ρ => Iv (j + 1) ρ s | .ct ρ => Iv (j + 1) ρ s | .bk ρ => Q (.nx ρ) s | .rt d => Q (.rt d) s) ∧
    (∀ ρ s, Iv ds.length ρ s → Q (.nx ρ) s)) : Ok (sFor fi t body ρ s) Q := by
  unfold sFor
  rw [ok_bnd]
  refine h.imp fun ds s ⟨Iv, h0, h1, h2⟩ => ?_
  exact k_loop Iv ds 0 ρ s h0 (fun j d ρ s hd hI => by rw [Nat.zero_add] at *; exact h1 j d ρ s hd hI) (fun ρ s hI => h2 ρ s (by rw [Nat.zero_add] at hI; exact hI))
theorem k_fn {n : Nat} {ds : List D} {Q : D → S → Prop} (h : Ok (F (startR n ds) s) fun r s => match r with | .rt d => Q d s | .nx _ => Q .none s | _ => False) : Ok (fnD n F ds s) Q := by
  obtain ⟨r, s', e, h⟩ := h
  unfold fnD
  rw [e]
  cases r with
  | rt d => exact ⟨_, _, rfl, h⟩
  | nx ρ => exact ⟨_, _, rfl, h⟩
  | bk _ => exact h.elim
  | ct _ => exact h.elim
theorem k_it {p : D → Option (List D)} {Q : List D → S → Prop} (h : Ok (f ρ s) fun x s => ∃ z, p x = some z ∧ Q z s) : Ok (iOf p f ρ s) Q := by
  unfold iOf
  rw [ok_bnd]
  exact h.imp fun x s h => ok_put.mpr h
theorem k_itA {p : List D → Option (List D)} {Q : List D → S → Prop} (h : Ok (fa ρ s) fun x s => ∃ z, p x = some z ∧ Q z s) : Ok (iOfA p fa ρ s) Q := by
  unfold iOfA
  rw [ok_bnd]
  exact h.imp fun x s h => ok_put.mpr h
/-- a comprehension by an invariant of what is made so far -/
theorem k_comp {t : Tg} {q : Et S} (P : Nat → List D → S → Prop) {Q : List D → S → Prop} : ∀ (ds : List D) (i : Nat) (acc : List D) (s : S), P i acc s →
    (∀ j d acc s, ds[j]? = some d → P (i + j) acc s → ∃ ρ1, t d ρ = some ρ1 ∧ Ok (q ρ1 s) fun b s => if b = true then Ok (f ρ1 s) fun y s => P (i + j + 1) (acc ++ [y]) s else P (i + j + 1) acc s) →
    (∀ acc s, P (i + ds.length) acc s → Q acc s) → Ok (compF t q f ρ ds s) fun ys s => Q (acc ++ ys) s
  | [], i, acc, s, h, _, e => ⟨_, _, rfl, by show Q (acc ++ []) s; rw [List.append_nil]; exact e acc s h⟩
  | d :: ds, i, acc, s, h, k, e => by
    obtain ⟨ρ1, h1, b, s1, h2, h3⟩ := k 0 d acc s rfl h
    unfold compF
    rw [h1]
    simp only
    rw [h2, bnd_of]
    have go : ∀ acc s, P (i + 1) acc s → Ok (compF t q f ρ ds s) fun ys s => Q (acc ++ ys) s := fun acc s h => k_comp P ds (i + 1) acc s h (fun j d' acc s hd hI => by
      have := k (j + 1) d' acc s (by simpa using hd) (by rw [show i + (j + 1) = i + 1 + j by omega]; exact hI)
      rw [show i + (j + 1) + 1 = i + 1 + j + 1 by omega] at this
      exact this) (fun acc s hI => e acc s (by rw [List.length_cons, show i + (ds.length + 1) = i + 1 + ds.length by omega]; exact hI))
    cases b with
    | false => exact go acc s1 (by simpa using h3)
    | true =>
      simp only [if_true] at h3 ⊢
      obtain ⟨y, s2, h4, h5⟩ := h3
      rw [h4, bnd_of, ok_bnd]
      refine (go (acc ++ [y]) s2 h5).imp fun ys s hq => ok_some.mpr ?_
      rw [List.append_assoc] at hq
      exact hq
theorem k_lc {fi : Ea S} {t : Tg} {q : Et S} {vs : List Nat} {Q : List D → S → Prop} (h : Ok (fi ρ s) fun ds s => ds.length ≤ sizeLine ∧ ∃ P : Nat → List D → S → Prop, P 0 [] s ∧
    (∀ j d acc s, ds[j]? = some d → P j acc s → ∃ ρ1, t d (wipeR ρ vs) = some ρ1 ∧ Ok (q ρ1 s) fun b s => if b = true then Ok (f ρ1 s) fun y s => P (j + 1) (acc ++ [y]) s else P (j + 1) acc s) ∧
    (∀ acc s, P ds.length acc s → Q acc s)) : Ok (lcF fi t q f vs ρ s) Q := by
  unfold lcF
  rw [ok_bnd]
  refine h.imp fun ds s ⟨hl, P, h0, h1, h2⟩ => ?_
  rw [if_pos hl]
  have := k_comp (ρ := wipeR ρ vs) (t := t) (q := q) (f := f) P (Q := Q) ds 0 [] s h0 (fun j d acc s hd hI => by rw [Nat.zero_add] at *; exact h1 j d acc s hd hI) (fun acc s hI => h2 acc s (by rw [Nat.zero_add] at hI; exact hI))
  simpa using this
theorem k_yes {Q : Bool → S → Prop} (h : Q true s) : Ok (qYes ρ s) Q := ⟨_, _, rfl, h⟩
end
/-! the same as equations, for simp -/
section
variable {α β S : Type} {ρ : Rho} {s : S} {f g : Ev S} {fa : Ea S} {F F' : Sv S} {Q : Rs → S → Prop}
theorem e_seq : Ok (sSeq F F' ρ s) Q ↔ Ok (F ρ s) fun r s => match r with | .nx ρ' => Ok (F' ρ' s) Q | r => Q r s := by
  refine ⟨fun h => ?_, k_seq⟩
  obtain ⟨r, s', e, h⟩ := h
  unfold sSeq at e
  split at e
  · rename_i ρ1 s1 e1
    exact ⟨_, _, e1, _, _, e, h⟩
  · rename_i hn
    refine ⟨r, s', e, ?_⟩
    cases r with
    | nx ρ' => exact absurd e (hn ρ' s')
    | rt d => exact h
    | bk d => exact h
    | ct d => exact h
theorem e_fn {n : Nat} {ds : List D} {Q : D → S → Prop} : Ok (fnD n F ds s) Q ↔ Ok (F (startR n ds) s) fun r s => match r with | .rt d => Q d s | .nx _ => Q .none s | _ => False := by
  refine ⟨fun h => ?_, k_fn⟩
  obtain ⟨r, s', e, h⟩ := h
  unfold fnD at e
  split at e
  · rename_i d s1 e1
    cases e
    exact ⟨_, _, e1, h⟩
  · rename_i d s1 e1
    cases e
    exact ⟨_, _, e1, h⟩
  · cases e
theorem e_asg {t : Tg} : Ok (sAsg f t ρ s) Q ↔ Ok (f ρ s) fun d s => ∃ ρ', t d ρ = some ρ' ∧ Q (.nx ρ') s := by
  refine ⟨fun h => ?_, k_asg⟩
  unfold sAsg at h
  rw [ok_bnd] at h
  refine h.imp fun x s h => ?_
  split at h
  · exact (ok_none.mp h).elim
  · rename_i ρ' e
    exact ⟨ρ', e, ok_some.mp h⟩
end
section
variable {S : Type} {ρ : Rho} {s : S} {f : Ev S} {Q : Rs → S → Prop}
/-- a for: what is walked is told by P -/
theorem k_forP {fi : Ea S} {t : Tg} {body : Sv S} (P : List D → S → Prop) (h : Ok (fi ρ s) P) (k : ∀ ds s, P ds s → ∃ Iv : Nat → Rho → S → Prop, Iv 0 ρ s ∧
    (∀ j d ρ s, ds[j]? = some d → Iv j ρ s → ∃ ρ1, t d ρ = some ρ1 ∧ Ok (body ρ1 s) fun r s => match r with | .nx ρ => Iv (j + 1) ρ s | .ct ρ => Iv (j + 1) ρ s | .bk ρ => Q (.nx ρ) s | .rt d => Q (.rt d) s) ∧
    (∀ ρ s, Iv ds.length ρ s → Q (.nx ρ) s)) : Ok (sFor fi t body ρ s) Q := k_for (h.imp k)
theorem k_lcP {fi : Ea S} {t : Tg} {q : Et S} {vs : List Nat} {Q : List D → S → Prop} (P : List D → S → Prop) (h : Ok (fi ρ s) P) (k : ∀ ds s, P ds s → ds.length ≤ sizeLine ∧ ∃ P : Nat → List D → S → Prop, P 0 [] s ∧
    (∀ j d acc s, ds[j]? = some d → P j acc s → ∃ ρ1, t d (wipeR ρ vs) = some ρ1 ∧ Ok (q ρ1 s) fun b s => if b = true then Ok (f ρ1 s) fun y s => P (j + 1) (acc ++ [y]) s else P (j + 1) acc s) ∧
    (∀ acc s, P ds.length acc s → Q acc s)) : Ok (lcF fi t q f vs ρ s) Q := k_lc (h.imp k)
end
/-! draws -/
theorem k_draw {s : DS} {m : Int} {Q : D → DS → Prop} (h : 0 < m) (h2 : m < 1073741824) (q : ∀ (r : Int) s', 0 ≤ r → r < m → Q (.int r) s') : Ok (Fdraw [hnd 0, .int m] s) Q :=
  ⟨_, _, fdraw h h2, q _ _ (drawF_range s h).1 (drawF_range s h).2⟩
/-- the n-th of a list, told by an int in its bounds -/
theorem atI_lt {α : Type} {xs : List α} {r : Int} (h0 : 0 ≤ r) (h : r < xs.length) : ∃ v, v ∈ xs ∧ xs[r.toNat]? = some v ∧ atI xs r = some v := by
  have hn : r.toNat < xs.length := by omega
  refine ⟨xs[r.toNat], List.getElem_mem hn, List.getElem?_eq_getElem hn, ?_⟩
  have := atI_nat (xs := xs) (j := r.toNat) (List.getElem?_eq_getElem hn)
  rw [show ((r.toNat : Nat) : Int) = r by omega] at this
  exact this
end Dl
set_option Elab.async false
set_option linter.all false
set_option maxRecDepth 100000
set_option maxHeartbeats 4000000
/-! the end of a law one of whose defs has a generator expression -/
namespace Lc
open PySem PySem.Spec PyProof.Rows L2
theorem law_one {l : PySem.W.OpenLaw} {w : World} {K : PySem.W.Frag} {CX : CXT} {k n : Nat} {x y : Str} {mg mb : Str → Option Value} {fa c T : Addr} {h : Heap} {q : Program} {loose : List Str} {mean : ExcName → Option Value} {d : DefRec} {fd : FuncData} {sp : Sp}
    (Tp : Top q (PySem.W.looseW q loose) mean mg mb h) (KX : K.In h) (hr : (recsOf q).find? (fun e => e.name == y) = some d) (ht : PySem.W.tabIn K y = some (c, T)) (hk : PySem.W.noTabs K = true)
    (hb : ∀ (s : Shared) (u : Value), BindsTo s fd ⟨[u], []⟩ [(x, u)])
    (hsp : ∀ (H : Hp) (a : Addr) (ns : List Int), GxR.TabG H T → SqL K H a (ns.map V.int) → sp [.ref a] H (fun v _ => v = .bl true) fun _ _ _ => False)
    (hF : ∀ base : Heap, K.In base → base.Ns mainGlobals mg → GxR.TabB base mg c T → FnOk l.prog w K mg base CX k fa fd [x] sp) : LamX.LawAtS l w K CX k n x mg fa h := by
  obtain ⟨C, hT⟩ := PySem.W.tab_of Tp KX hr ht
  have one : ∀ {R : Addr × Addr → Prop}, R (c, T) → ∀ p ∈ [(c, T)], R p := fun r p hp => by
    have e : p = (c, T) := by simpa using hp
    rw [e]
    exact r
  refine ⟨fd, [(c, T)], sp, one hT, one ?_, one C, hb, fun H a ns _ _ ht hS => hsp H a ns ⟨#[], ht (c, T) (by simp), ?_⟩ hS, fun base b1 b2 b3 => hF base b1 b2 ?_⟩
  · cases e : K.lookup T with
    | none => rfl
    | some o =>
      have e2 := KX T o e
      rw [hT] at e2
      cases e2
      have h2 := List.all_eq_true.mp hk _ (PySem.W.mem_of_lookupK e)
      exact absurd (show false = true from h2) Bool.false_ne_true
  · exact trivial
  · have b := b3 (c, T) (by simp)
    exact ⟨b.code, b.bm, b.gP⟩
theorem walk_tab {l : PySem.W.OpenLaw} {n k : Nat} {q : Program} {loose : List Str} {XP : (Str → Option Value) → Heap → Prop} {YP : World → Heap → Prop} {d : DefRec} {K : Params → PySem.W.Frag} {CX : World → CXT} {x : Str}
    (hn : l.most = some n) (hn2 : n ≤ sizeLine) (hdf : d.params.defaults = []) (hr : Room k callerA) (hY : ∀ (w : World) (h : Heap), YP w h → (K w.params).In h)
    (F : ∀ (w : World) (mean : ExcName → Option Value) (mg mb : Str → Option Value) (fa : Addr) (h : Heap), Top q (PySem.W.looseW q loose) mean mg mb h → (K w.params).In h → mg d.name = some (.ref fa) → LamX.LawAtS l w (K w.params) (CX w) k n x mg fa h)
    (hCX : ∀ (w : World) (H : Hp) (s : Shared) (e : Value) (s' : Shared), CX w [] H s (fun _ _ _ => False) e s' → False) : PySem.W.WalkO q loose XP YP l.row.toRowW d [] (fun f vs => PySem.call f vs) := by
  refine Att.attach_callB hn hdf fun w sa sb mg mb fa o pm cd doc a vs ns G Y ho hd hcd hmg hobj hints hlen hbits hg => ?_
  obtain ⟨fd, cs, sp, hT, nT, C, hb, hsp, hF⟩ := F w _ mg mb fa _ G.T (hY w _ Y) hmg
  exact LamX.law_callTs (hY w _ Y) G.T.g G.T.b G.T.builtins G.T.nolimit hg hT nT C G.T.bmain hobj hints (Nat.le_trans hlen hn2) hr hF hb (fun H hH hS => hsp H a ns hlen hbits hH hS) fun H e s' => hCX w H sb e s'
/-- texts of the written part, told -/
def strsIn : List Str → List Value → Bool
  | [], [] => true
  | a :: r, .str b _ :: q => (a == b) && strsIn r q
  | _, _ => false
theorem vals_strs : ∀ {ws : List Str} {us : List Value}, strsIn ws us = true → Vals (ws.map V.str) us
  | [], [], _ => .nil
  | a :: r, .str b t :: q, h => by
    have h : ((a == b) && strsIn r q) = true := h
    rw [Bool.and_eq_true] at h
    obtain ⟨h1, h2⟩ := h
    have e := eq_of_beq h1
    subst e
    exact .cons ⟨t, rfl⟩ (vals_strs h2)
  | [], _ :: _, h => by simp [strsIn] at h
  | a :: r, [], h => by simp [strsIn] at h
  | a :: r, .none :: q, h => by simp [strsIn] at h
  | a :: r, .ref p :: q, h => by simp [strsIn] at h
  | a :: r, .int _ _ :: q, h => by simp [strsIn] at h
  | a :: r, .bool _ :: q, h => by simp [strsIn] at h
end Lc
set_option Elab.async false
set_option linter.all false
set_option maxRecDepth 100000
set_option maxHeartbeats 4000000
namespace Dl
open PySem PySem.Spec PyProof.Rows L2
section
variable {P : Program} {w : World} {K : PySem.W.Frag} {mg : Str → Option Value} {base : Heap} {f : Addr} {fd : FuncData}
/-- a def of which nothing is asked -/
theorem fn_no {S : Type} {G : Kx} {Z : Zk S} {n k : Nat} {ps : List Str} : FnOk P w K mg base CX0 k f fd ps (spD G Z n (fun _ _ => none)) :=
  ⟨fun vs H Q E h => (by obtain ⟨B, ds, s, d, s', _, _, _, _, _, h, _⟩ := h; cases h), fun A outer s H args us vs Q E _ _ _ _ h => (by obtain ⟨B, ds, s, d, s', _, _, _, _, _, h, _⟩ := h; cases h)⟩
/-- written texts, as a tuple of the written part -/
theorem rep_written {hd : Nat → Addr → Prop} {a : Addr} {o : Obj} {its : Array Value} {n : Nat} {ws : List Str} (h1 : K.lookup a = some o) (h2 : o.cls = .type "tuple") (h3 : o.data = .seq its n) (h4 : its.size ≤ sizeLine) (h5 : Vals (ws.map V.str) its.toList) (B : Bar) (H : Hp) : Rep ⟨K, hd⟩ B H (.tuple (ws.map .str)) (.ref a) := by
  simp only [Rep]
  exact ⟨a, ws.map V.str, rfl, .inr ⟨o, its, n, h1, h2, h3, h4, h5⟩, reps_strs⟩
def spLaw (K : PySem.W.Frag) : Sp := fun vs H Q _ => ∃ (a : Addr) (ns : List Int), vs = [.ref a] ∧ SqL K H a (ns.map V.int) ∧ ∀ H', Q (.bl true) H'
/-- what the deck's making tells -/
def spDk (K : PySem.W.Frag) : Sp := fun vs H Q _ => ∃ (a : Addr) (ns : List Int), vs = [.ref a] ∧ SqL K H a (ns.map V.int) ∧ ∀ d c H' s, Same H H' → d ≠ c → DkS d c H' s → H d = none → H c = none → Q (.ref d) H'
/-- the rest of a law, whatever the deck is -/
def tRest (K : PySem.W.Frag) (W : List Nat) (F : Sv DS) : TS := fun E σ H => ∃ d c, tSt ⟨K, hdD d⟩ (Zd d c) W F E σ H
theorem pss_rest {X : Cx} {W : List Nat} {F : Sv DS} {st : List Stmt} (h : ∀ d c, PSs X st (tSt ⟨K, hdD d⟩ (Zd d c) W F)) : PSs X st (tRest K W F) := ⟨fun pins s σ H D I ⟨d, c, q⟩ => (h d c).run pins s σ H D I q⟩
/-- slot 0 the script, slot 1 the deck -/
def lawR (n : Nat) : Rho := none :: some (hnd 0) :: List.replicate n none
theorem rest_at {W : List Nat} {F : Sv DS} {n : Nat} {d c a : Addr} {H : Hp} {s : DS} {Q : VK} {nx : L2.St → Hp → Prop} (hd : d ≠ c) (k : DkS d c H s) (hW : ∀ i ∈ W, 2 ≤ i) (ht : Ok (F (lawR n) s) fun r _ => r = .rt (.bool true)) (q : ∀ H', Q (.bl true) H') :
    tRest K W F { nx := nx, rt := Q } (some (.ref a) :: some (.ref d) :: List.replicate n none) H := by
  obtain ⟨r, s', e, rfl⟩ := ht
  refine ⟨d, c, MD d c, H, fun _ => False, lawR n, s, .rt (.bool true), s', ⟨⟨⟨?_, ?_, ?_⟩, ?_, fun _ z => z.elim, fun _ z => z, fun _ z => z.elim⟩, Lc.Fr.refl H, ?_, fun _ z => z.elim, k⟩, e, ?_⟩
  · simp [lawR]
  · intro i x hi hx
    match i, hx with
    | 0, hx => cases hx
    | 1, hx =>
      cases hx
      refine ⟨.ref d, rfl, ?_⟩
      show Rep _ _ H (hnd 0) (.ref d)
      unfold hnd
      simp only [Rep]
      exact ⟨d, rfl, .inl ⟨0, rfl, rfl, rfl⟩⟩
    | i + 2, hx =>
      have hx : (List.replicate n (none : Option D))[i]? = some (some x) := hx
      rw [List.getElem?_replicate] at hx
      split at hx <;> cases hx
  · have no : ∀ i x, i ∈ W → (lawR n)[i]? = some (some x) → False := fun i x hi hx => by
      have h2 := hW i hi
      match i, hx with
      | i + 2, hx =>
        have hx : (List.replicate n (none : Option D))[i]? = some (some x) := hx
        rw [List.getElem?_replicate] at hx
        split at hx <;> cases hx
    exact ⟨fun _ => 0, (fun i j x y hi _ hx => (no i x hi hx).elim), fun i x hi hx => (no i x hi hx).elim⟩
  · exact fun a z => (Zd d c).dom H s a k z
  · exact fun a z => (Zd d c).dom H s a k z
  · intro v H' _ hr _
    simp only [Rep] at hr
    rw [hr]
    exact q H'
end
end Dl
set_option Elab.async false
set_option linter.all false
set_option maxRecDepth 100000
set_option maxHeartbeats 4000000
namespace Dl
open PySem PySem.Spec PyProof.Rows L2 GxR
section
variable {S : Type} {X : Cx} {G : Kx} {Z : Zk S} {W : List Nat} {f : Ev S} {c T : Addr} {elt tg iter : Expr} {ifs : List Expr} {scope : Scope} {p gp pos : Pos} {own : List (Str × Nat)} {fi : Ea S} {t : Tg} {us : List Nat} {q : Et S} {tt : TT} {k : Nat}
theorem gx_room {s : Shared} {H : Hp} {C : Addr} {cv : Value} {fp : List Addr} {pn : List (Addr × Obj)} (hr : Room (k + 1) X.A) : Room k (gxC X s H scope C cv fp pn).A := Room_gx hr
theorem ex_all (zt : ZTab Z T) (TB : TabB X.base X.mg c T) (hcode : X.env.code = .ref c) (hr2 : Room (k + 1) X.A) (hgl : Gl X "all") (hm : X.mg "all" = none) (hc : X.calm = true) (hN : X.N.Nodup) (hi : PI X tg iter (tIt G Z W fi)) (ok : BlkOk X.N X.env.scope scope own)
    (hg : ∀ (s : Shared) (H : Hp) (C : Addr) (cv : Value) (fp : List Addr) (pn : List (Addr × Obj)), PG (gxC X s H scope C cv fp pn) tg (tTg G Z W us t)) (ht : ∀ (s : Shared) (H : Hp) (C : Addr) (cv : Value) (fp : List Addr) (pn : List (Addr × Obj)), Room k (gxC X s H scope C cv fp pn).A → PTs (gxC X s H scope C cv fp pn) ifs tt)
    (hq : ∀ σ H Q, tEt G Z W q σ H Q → tt σ H Q) (he : ∀ (s : Shared) (H : Hp) (C : Addr) (cv : Value) (fp : List Addr) (pn : List (Addr × Obj)), Room k (gxC X s H scope C cv fp pn).A → PE (gxC X s H scope C cv fp pn) elt (tEx G Z W f))
    (co : scope.isCoroutine = false := by rfl) (hcell : ∀ y ∈ scope.names, y.2 ≠ .cell := by decide +kernel) (dot : scope.names.lookup (".0" : Str) = some NameKind.local := by rfl) (hu : ∀ i ∈ us, i ∈ own.map (·.2) := by decide) (hs : ∀ v, genFold iter X.env v = pure v := by intro _; rfl)
    (hse : starEach [.GeneratorExp elt [⟨tg, iter, ifs, 0⟩] scope gp] X.env = (false, eval (.GeneratorExp elt [⟨tg, iter, ifs, 0⟩] scope gp) X.env) :: starEach [] X.env := by rfl) :
    PE X (.Call (.Name "all" p) [.GeneratorExp elt [⟨tg, iter, ifs, 0⟩] scope gp] [] pos) (tEx G Z W (cQu false fi t q f (own.map (·.2)))) :=
  imp_pe (pe_all hr2 hgl hm hc hN TB hcode ok co hcell dot hi hg (fun s H C cv fp pn => ht s H C cv fp pn (gx_room hr2)) (fun s H C cv fp pn => he s H C cv fp pn (gx_room hr2)) hs hse) fun σ H Q h => qu_at zt hu hq h
theorem ex_any (zt : ZTab Z T) (TB : TabB X.base X.mg c T) (hcode : X.env.code = .ref c) (hr2 : Room (k + 1) X.A) (hgl : Gl X "any") (hm : X.mg "any" = none) (hc : X.calm = true) (hN : X.N.Nodup) (hi : PI X tg iter (tIt G Z W fi)) (ok : BlkOk X.N X.env.scope scope own)
    (hg : ∀ (s : Shared) (H : Hp) (C : Addr) (cv : Value) (fp : List Addr) (pn : List (Addr × Obj)), PG (gxC X s H scope C cv fp pn) tg (tTg G Z W us t)) (ht : ∀ (s : Shared) (H : Hp) (C : Addr) (cv : Value) (fp : List Addr) (pn : List (Addr × Obj)), Room k (gxC X s H scope C cv fp pn).A → PTs (gxC X s H scope C cv fp pn) ifs tt)
    (hq : ∀ σ H Q, tEt G Z W q σ H Q → tt σ H Q) (he : ∀ (s : Shared) (H : Hp) (C : Addr) (cv : Value) (fp : List Addr) (pn : List (Addr × Obj)), Room k (gxC X s H scope C cv fp pn).A → PE (gxC X s H scope C cv fp pn) elt (tEx G Z W f))
    (co : scope.isCoroutine = false := by rfl) (hcell : ∀ y ∈ scope.names, y.2 ≠ .cell := by decide +kernel) (dot : scope.names.lookup (".0" : Str) = some NameKind.local := by rfl) (hu : ∀ i ∈ us, i ∈ own.map (·.2) := by decide) (hs : ∀ v, genFold iter X.env v = pure v := by intro _; rfl)
    (hse : starEach [.GeneratorExp elt [⟨tg, iter, ifs, 0⟩] scope gp] X.env = (false, eval (.GeneratorExp elt [⟨tg, iter, ifs, 0⟩] scope gp) X.env) :: starEach [] X.env := by rfl) :
    PE X (.Call (.Name "any" p) [.GeneratorExp elt [⟨tg, iter, ifs, 0⟩] scope gp] [] pos) (tEx G Z W (cQu true fi t q f (own.map (·.2)))) :=
  imp_pe (pe_any hr2 hgl hm hc hN TB hcode ok co hcell dot hi hg (fun s H C cv fp pn => ht s H C cv fp pn (gx_room hr2)) (fun s H C cv fp pn => he s H C cv fp pn (gx_room hr2)) hs hse) fun σ H Q h => qu_at zt hu hq h
end
/-- a def whose code object is known -/
structure FunC (K : PySem.W.Frag) (x qual : Str) (st : Stmt) (f : Addr) (fd : FuncData) (c : Addr) : Prop where
  ex : ∃ (oc : Value) (od : Option Addr) (kV doc pm : Value) (an : Option Addr) (ct : Value) (osl : Array (Option Value)),
    fd = PySem.W.fnOf x qual (defArgs st) (defBody st) (defScope st) .none kV doc pm an (.ref c) ct ∧ K.lookup f = some ⟨oc, od, .func fd, osl⟩ ∧ PySem.W.codeIn K (.ref c) qual = true
theorem funC_mk {K : PySem.W.Frag} {x qual : Str} {st : Stmt} {f c : Addr} {oc : Value} {od an : Option Addr} {osl : Array (Option Value)} {kV doc pm ct : Value} (l : K.lookup f = some ⟨oc, od, .func (PySem.W.fnOf x qual (defArgs st) (defBody st) (defScope st) .none kV doc pm an (.ref c) ct), osl⟩)
    (h : PySem.W.codeIn K (.ref c) qual = true) : FunC K x qual st f (PySem.W.fnOf x qual (defArgs st) (defBody st) (defScope st) .none kV doc pm an (.ref c) ct) c := ⟨oc, od, kV, doc, pm, an, ct, osl, rfl, l, h⟩
section
variable {S : Type} {P : Program} {w : World} {K : PySem.W.Frag} {mg : Str → Option Value} {base : Heap} {G : Kx} {Z : Zk S} {W : List Nat} {F : Sv S}
theorem fn_okC {nm qual : Str} {st : Stmt} {fad c : Addr} {fd : FuncData} {N ps : List Str} {k n m : Nat} (U : FunC K nm qual st fad fd c) (sc : FnScope N ps (defScope st)) (hn : N.length = n) (hm : ps.length = m) (hmn : m ≤ n) (hW : ∀ i ∈ W, m ≤ i)
    (hb : ∀ (A : Around) (outer : List Env) (s : Shared) (H : Hp) (E : XK), Room k (A.deeper (envOfC qual (defScope st) s.heap.objs.size fad (.ref c))) → PSs (cxOf CX0 P w K mg base N qual (defScope st) fad (.ref c) A outer s H E).nox (defBody st) (tSt G Z W F)) :
    FnOk P w K mg base CX0 (k + 1) fad fd ps (spD G Z m (fnD n F)) := by
  obtain ⟨oc, od, kV, doc, pm, an, ct, osl, rfl, lk, hcd⟩ := U.ex
  refine fn_of lk hcd sc (fun vs H Q E h => ?_) (fun A outer s H vs Q E hr h => ?_)
  · obtain ⟨B, ds, s, d, s', h1, _, _, h2, _⟩ := h
    rw [h2.len, h1, hm]
  · refine ⟨_, (hb A outer s H E hr).nox, ?_⟩
    obtain ⟨B, ds, s0, d, s', h1, bd, mb, h2, R0, hF, q⟩ := h
    have eo := eo_start (W := W) (Z := Z) (N := N) hn bd mb h2 (by omega) (by rw [h1]; exact hW)
    unfold fnD at hF
    have sr : Sr G Z W B H (fun _ => False) H (L2.start N vs) (startR n ds) s0 := ⟨eo, Lc.Fr.refl H, bd, fun _ z => z.elim, R0⟩
    split at hF
    · rename_i d' s1 e1
      cases hF
      exact ⟨B, H, fun _ => False, startR n ds, s0, .rt d, _, sr, e1, q⟩
    · rename_i ρ' s1 e1
      cases hF
      exact ⟨B, H, fun _ => False, startR n ds, s0, .nx ρ', _, sr, e1, fun O' σ' H' sr' _ => q .non H' sr'.fr (by simp only [Rep]) sr'.r⟩
    · cases hF
end
/-! ### the deck and the tables -/
/-- the tables at Ts are shared, too -/
def Zk.tb {S : Type} (Z : Zk S) (Ts : List Addr) (hne : ∀ H s a, Z.R H s → Z.M a → ∀ ps, H a ≠ some (.tbl ps)) : Zk S where
  M := fun a => Z.M a ∨ a ∈ Ts
  R := fun H s => Z.R H s ∧ ∀ T ∈ Ts, TabG H T
  dom := fun H s a h m => m.elim (Z.dom H s a h.1) fun m => by
    obtain ⟨ps, e, _⟩ := h.2 a m
    rw [e]
    simp
  loc := fun H H' s h k => ⟨Z.loc H H' s h.1 fun a m => k a (.inl m), fun T m => by
    obtain ⟨ps, e, t⟩ := h.2 T m
    exact ⟨ps, (k T (.inr m)).trans e, t⟩⟩
theorem zd_ne {d c : Addr} (H : Hp) (s : DS) (a : Addr) (h : (Zd d c).R H s) (m : (Zd d c).M a) (ps : Array Value) : H a ≠ some (.tbl ps) := by
  obtain ⟨h1, h2, _⟩ := h
  rcases m with rfl | rfl
  · rw [h1]; intro z; cases z
  · rw [h2]; intro z; cases z
def Zt (d c : Addr) (Ts : List Addr) : Zk DS := (Zd d c).tb Ts zd_ne
theorem ztab {d c T : Addr} {Ts : List Addr} (hT : T ∈ Ts) : ZTab (Zt d c Ts) T where
  m := .inr hT
  tab := fun H s h => h.2 T hT
  put := fun H H' s h t => by
    have ne : ∀ a, (Zd d c).M a → a ≠ T := fun a m z => by
      obtain ⟨ps, e, _⟩ := h.2 T hT
      exact zd_ne H s a h.1 m ps (by rw [z]; exact e)
    refine ⟨(Zd d c).loc H H' s h.1 fun a m => t.2 a (ne a m), fun T' m => ?_⟩
    by_cases e : T' = T
    · rw [e]; exact t.1
    · obtain ⟨ps, e1, e2⟩ := h.2 T' m
      exact ⟨ps, (t.2 T' e).trans e1, e2⟩
section
variable {P : Program} {w : World} {K : PySem.W.Frag} {mg : Str → Option Value} {base : Heap} {f : Addr} {fd : FuncData}
/-- what keeps the tables, by what keeps the deck -/
theorem fn_zt {d c : Addr} {Ts : List Addr} {k n : Nat} {ps : List Str} {F : Fn DS} {hd : Nat → Addr → Prop} (h : FnOk P w K mg base CX0 k f fd ps (spD ⟨K, hd⟩ (Zd d c) n F)) : FnOk P w K mg base CX0 k f fd ps (spD ⟨K, hd⟩ (Zt d c Ts) n F) := by
  have key : ∀ vs H Q E, spD ⟨K, hd⟩ (Zt d c Ts) n F vs H Q E → spD ⟨K, hd⟩ (Zd d c) n F vs H Q E := fun vs H Q E ⟨B, ds, s, x, s', h1, bd, mb, h2, R, hF, q⟩ =>
    ⟨B, ds, s, x, s', h1, bd, fun a m => mb a (.inl m), h2, R.1, hF, fun v H' f1 r1 R1 => q v H' (fun b o e => by
      obtain ⟨o', e1, e2⟩ := f1 b o e
      exact ⟨o', e1, fun n9 => e2 fun m => n9 (.inl m)⟩) r1 ⟨R1, fun T m => by
        obtain ⟨ps, e, t⟩ := R.2 T m
        exact ⟨ps, f1.at e fun m2 => zd_ne H s T R.1 m2 ps e, t⟩⟩⟩
  exact ⟨fun vs H Q E z => h.len vs H Q E (key _ _ _ _ z), fun A outer s H args us vs Q E hr he hb hv hsp => h.run A outer s H args us vs Q E hr he hb hv (key _ _ _ _ hsp)⟩
def spLawT (K : PySem.W.Frag) (Ts : List Addr) : Sp := fun vs H Q _ => ∃ (a : Addr) (ns : List Int), vs = [.ref a] ∧ SqL K H a (ns.map V.int) ∧ (∀ T ∈ Ts, TabG H T) ∧ ∀ H', Q (.bl true) H'
def tRestT (K : PySem.W.Frag) (Ts : List Addr) (W : List Nat) (F : Sv DS) : TS := fun E σ H => ∃ d c, tSt ⟨K, hdD d⟩ (Zt d c Ts) W F E σ H
theorem pss_restT {X : Cx} {Ts : List Addr} {W : List Nat} {F : Sv DS} {st : List Stmt} (h : ∀ d c, PSs X st (tSt ⟨K, hdD d⟩ (Zt d c Ts) W F)) : PSs X st (tRestT K Ts W F) := ⟨fun pins s σ H D I ⟨d, c, q⟩ => (h d c).run pins s σ H D I q⟩
theorem rest_atT {Ts : List Addr} {W : List Nat} {F : Sv DS} {n : Nat} {d c a : Addr} {H : Hp} {s : DS} {Q : VK} {nx : L2.St → Hp → Prop} (hd : d ≠ c) (k : DkS d c H s) (kt : ∀ T ∈ Ts, TabG H T) (hW : ∀ i ∈ W, 2 ≤ i) (ht : Ok (F (lawR n) s) fun r _ => r = .rt (.bool true)) (q : ∀ H', Q (.bl true) H') :
    tRestT K Ts W F { nx := nx, rt := Q } (some (.ref a) :: some (.ref d) :: List.replicate n none) H := by
  obtain ⟨r, s', e, rfl⟩ := ht
  have kz : (Zt d c Ts).R H s := ⟨k, kt⟩
  refine ⟨d, c, (Zt d c Ts).M, H, fun _ => False, lawR n, s, .rt (.bool true), s', ⟨⟨⟨?_, ?_, ?_⟩, ?_, fun _ z => z.elim, fun _ z => z, fun _ z => z.elim⟩, Lc.Fr.refl H, ?_, fun _ z => z.elim, kz⟩, e, ?_⟩
  · simp [lawR]
  · intro i x hi hx
    match i, hx with
    | 0, hx => cases hx
    | 1, hx =>
      cases hx
      refine ⟨.ref d, rfl, ?_⟩
      show Rep _ _ H (hnd 0) (.ref d)
      unfold hnd
      simp only [Rep]
      exact ⟨d, rfl, .inl ⟨0, rfl, rfl, rfl⟩⟩
    | i + 2, hx =>
      have hx : (List.replicate n (none : Option D))[i]? = some (some x) := hx
      rw [List.getElem?_replicate] at hx
      split at hx <;> cases hx
  · have no : ∀ i x, i ∈ W → (lawR n)[i]? = some (some x) → False := fun i x hi hx => by
      have h2 := hW i hi
      match i, hx with
      | i + 2, hx =>
        have hx : (List.replicate n (none : Option D))[i]? = some (some x) := hx
        rw [List.getElem?_replicate] at hx
        split at hx <;> cases hx
    exact ⟨fun _ => 0, (fun i j x y hi _ hx => (no i x hi hx).elim), fun i x hi hx => (no i x hi hx).elim⟩
  · exact fun a z => (Zt d c Ts).dom H s a kz z
  · exact fun a z => (Zt d c Ts).dom H s a kz z
  · intro v H' _ hr _
    simp only [Rep] at hr
    rw [hr]
    exact q H'
end
end Dl
set_option Elab.async false
set_option linter.all false
set_option maxRecDepth 100000
set_option maxHeartbeats 4000000
namespace Dl
open PySem PySem.Spec PyProof.Rows L2
def pMax2 : List D → Option D
  | [.int i, .int j] => some (.int (if j > i then j else i))
  | _ => none
def pMin2 : List D → Option D
  | [.int i, .int j] => some (.int (if j < i then j else i))
  | _ => none
section
variable {S : Type} {X : Cx} {G : Kx} {Z : Zk S} {W : List Nat} {f g : Ev S} {a b : Expr} {p p' pos pos' : Pos}
theorem os_max2 : CaS G (fun xs H Q => ∃ i j, xs = [.int i, .int j] ∧ Q (.int (if j > i then j else i)) H) pMax2 := by
  intro B H xs ds d Q bd hr hp q
  unfold pMax2 at hp
  split at hp
  · cases hp
    simp only [Reps, Rep] at hr
    obtain ⟨v, r, rfl, rfl, v2, r2, rfl, rfl, rfl⟩ := hr
    exact ⟨_, _, rfl, q _ H (Same.refl H) (by simp only [Rep])⟩
  · cases hp
theorem os_min2 : CaS G (fun xs H Q => ∃ i j, xs = [.int i, .int j] ∧ Q (.int (if j < i then j else i)) H) pMin2 := by
  intro B H xs ds d Q bd hr hp q
  unfold pMin2 at hp
  split at hp
  · cases hp
    simp only [Reps, Rep] at hr
    obtain ⟨v, r, rfl, rfl, v2, r2, rfl, rfl, rfl⟩ := hr
    exact ⟨_, _, rfl, q _ H (Same.refl H) (by simp only [Rep])⟩
  · cases hp
theorem et_chain2 {c : Expr} {h : Ev S} {op op' : CmpOp} {r r' : R2} {q q' : D → D → Option D} (ho : OpR X (compareOp op) r) (hs : OpS G r q) (ho' : OpR X (compareOp op') r') (hs' : OpS G r' q') (ha : PE X a (tEx G Z W f)) (hb : PE X b (tEx G Z W g)) (hc : PE X c (tEx G Z W h)) (hq : ∀ x y z, q' x y = some z → ∃ k, z = .bool k)
    (hm : lastMarks [op, op'] [b, c] = false := by with_unfolding_all rfl) : PT X (.Compare a [op, op'] [b, c] pos) (tEt G Z W (qT (cCh q q' f g h))) :=
  imp_pt (pt_chain ho ho' ha hb hc hm) fun σ H Q ⟨B, O, ρ, s, d, s', eo, hR, hf, hQ⟩ => by
    unfold qT at hf
    obtain ⟨x, s1, h1, hf⟩ := bnd_some hf
    obtain ⟨h3, rfl⟩ := put_some hf
    have hx : ∃ k, x = .bool k := by
      have h1 := h1
      unfold cCh at h1
      obtain ⟨x', s2, e1, h1⟩ := bnd_some h1
      obtain ⟨y', s3, e2, h1⟩ := bnd_some h1
      obtain ⟨z', s4, e3, h1⟩ := bnd_some h1
      obtain ⟨b', s5, e4, h1⟩ := bnd_some h1
      split at h1
      · obtain ⟨w', s6, e5, h1⟩ := bnd_some h1
        obtain ⟨h3, _⟩ := put_some h1
        exact hq _ _ _ h3
      · cases h1
        exact ⟨_, rfl⟩
    obtain ⟨k, rfl⟩ := hx
    cases h3
    refine tch_ex hs hs' ⟨B, O, ρ, s, .bool d, _, eo, hR, h1, fun v H1 f1 r1 R1 => ?_⟩
    simp only [Rep] at r1
    exact ⟨d, r1, hQ H1 f1 R1⟩
def pRgL : D → D → Option (List D)
  | .int i, .int j => if -(2 ^ 62) ≤ i ∧ i < 2 ^ 62 ∧ -(2 ^ 62) ≤ j ∧ j < 2 ^ 62 ∧ (j - i).toNat ≤ 2 ^ 24 then some (rngD i (j - i).toNat) else none
  | _, _ => none
theorem rgL_some {x y : D} {d : List D} (h : pRgL x y = some d) : ∃ i j, x = .int i ∧ y = .int j ∧ RgOk i j ∧ d = rngD i (j - i).toNat := by
  unfold pRgL at h
  split at h
  · split at h
    · cases h
      exact ⟨_, _, rfl, rfl, by assumption, rfl⟩
    · cases h
  · cases h
def aRg2 (f g : Ev S) : Ea S := fun ρ s => bnd (f ρ s) fun x s => bnd (g ρ s) fun y s => put (pRgL x y) s
theorem reps_intsR {B : Bar} {H : Hp} (lo : Int) : ∀ l : List Nat, Reps G B H (l.map fun (i : Nat) => PyData.int (lo + i)) (l.map fun (i : Nat) => V.int (lo + i))
  | [] => by simp only [List.map_nil]; exact Reps.nil
  | a :: l => by
    simp only [List.map_cons]
    exact Reps.cons (by simp only [Rep]) (reps_intsR lo l)
theorem nl_rg2 (hc : X.calm = true) (hg : Gl X "list") (hm : X.mg "list" = none) (hg2 : Gl X "range") (hm2 : X.mg "range" = none) (ha : PE X a (tEx G Z W f)) (hb : PE X b (tEx G Z W g))
    (na : starEach [a, b] X.env = (false, eval a X.env) :: starEach [b] X.env := by rfl) (nb : starEach [b] X.env = (false, eval b X.env) :: starEach [] X.env := by rfl) (hp : (backTo pos' (starEach [b] X.env)).any (·.1) = false := by rfl)
    (ne : starEach [.Call (.Name "range" p') [a, b] [] pos'] X.env = (false, eval (.Call (.Name "range" p') [a, b] [] pos') X.env) :: starEach [] X.env := by rfl) :
    PE X (.Call (.Name "list" p) [.Call (.Name "range" p') [a, b] [] pos'] [] pos) (tNl G Z W (aRg2 f g)) :=
  imp_pe (pe_listRg hc hg hm (prg_2 hg2 hm2 ha hb na nb hp) ne) fun σ H Q ⟨B, O, ρ, s, d, s', eo, hR, hf, q⟩ => by
    unfold aRg2 at hf
    obtain ⟨x, s1, h1, hf⟩ := bnd_some hf
    obtain ⟨y, s2, h2, hf⟩ := bnd_some hf
    obtain ⟨h3, rfl⟩ := put_some hf
    refine ⟨B, O, ρ, s, x, s1, eo, hR, h1, fun v H1 f1 r1 R1 => ⟨B, O, ρ, s1, y, _, eo.fr f1, R1, h2, fun u H2 f2 r2 R2 => ?_⟩⟩
    obtain ⟨i, j, rfl, rfl, hok, rfl⟩ := rgL_some h3
    simp only [Rep] at r1 r2
    refine ⟨i, j, r1, r2, hok, fun p hp => ?_⟩
    have fr := (f1.trans f2).trans (Lc.Fr.new (o := .lst (rgV i j)) hp)
    exact q p (rgV i j) _ ((f1.trans f2).free hp) fr upd_same (reps_intsR i _) (Z.same R2 (Lc.same_new hp))
end
end Dl
set_option Elab.async false
set_option linter.all false
set_option maxRecDepth 100000
set_option maxHeartbeats 4000000
/-! zip of two lists, of two tuples -/
namespace Dl
open PySem PySem.Spec PyProof.Rows L2
def zipD : List D → List D → List D
  | x :: xs, y :: ys => pairD x y :: zipD xs ys
  | _, _ => []
theorem zipD_len : ∀ (xs ys : List D), (zipD xs ys).length = min xs.length ys.length
  | [], _ => by simp [zipD]
  | _ :: _, [] => by simp [zipD]
  | x :: xs, y :: ys => by simp only [zipD, List.length_cons, zipD_len xs ys]; omega
theorem zipD_get : ∀ {xs ys : List D} {i : Nat} {d : D}, (zipD xs ys)[i]? = some d → ∃ x y, xs[i]? = some x ∧ ys[i]? = some y ∧ d = pairD x y
  | [], _, i, d, h => by simp [zipD] at h
  | _ :: _, [], i, d, h => by simp [zipD] at h
  | x :: xs, y :: ys, 0, d, h => by
    simp only [zipD, List.getElem?_cons_zero, Option.some.injEq] at h
    exact ⟨x, y, rfl, rfl, h.symm⟩
  | x :: xs, y :: ys, i + 1, d, h => by
    simp only [zipD, List.getElem?_cons_succ] at h ⊢
    exact zipD_get h
def pZip : List D → Option (List D)
  | [.list a, .list b] => some (zipD a b)
  | [.tuple a, .tuple b] => some (zipD a b)
  | _ => none
theorem walk_zipT {K : PySem.W.Frag} {a b : Addr} {xs ys : List V} {n : Nat} (hn : n = min xs.length ys.length) : Walk (RZ.ItzT K a b) n (fun H => SqT K H a xs ∧ SqT K H b ys) (YPair (fun i => xs[i]?) (fun i => ys[i]?)) := by
  subst hn
  refine ⟨fun i _ hi q => ?_, fun _ q => ⟨xs, ys, q.1, q.2, by omega⟩, fun i H v H' _ q y => ?_⟩
  · have h1 : i < xs.length := by omega
    have h2 : i < ys.length := by omega
    exact ⟨xs, ys, xs[i], ys[i], q.1, q.2, by simp [h1], by simp [h2]⟩
  · obtain ⟨T, x, z, h1, h2, h3, h4, h5⟩ := y
    exact ⟨T, x, z, h1, h2, h3, h4 xs q.1, h5 ys q.2⟩
section
variable {S : Type} {X : Cx} {G : Kx} {Z : Zk S} {W : List Nat} {fa : Ea S} {e e2 : Expr} {p pos : Pos}
theorem zip_rep {B2 : Bar} {H2 H3 : Hp} {xs ys : List V} {ds es : List D} {i : Nat} {d : D} {x : V} (dm : ∀ a, B2 a → H2 a ≠ none) (r1 : Reps G B2 H2 ds xs) (r2 : Reps G B2 H2 es ys) (hd : (zipD ds es)[i]? = some d) (y : YPair (fun i => xs[i]?) (fun i => ys[i]?) i H2 x H3) : Same H2 H3 ∧ Rep G B2 H3 d x := by
  obtain ⟨T, u, v, rfl, hT, rfl, hu, hv⟩ := y
  obtain ⟨dx, dy, h1, h2, rfl⟩ := zipD_get hd
  obtain ⟨u', e1, q1⟩ := r1.get h1
  obtain ⟨v', e2, q2⟩ := r2.get h2
  have e1 : xs[i]? = some u' := e1
  have hu : xs[i]? = some u := hu
  have hv : ys[i]? = some v := hv
  rw [hu] at e1
  rw [hv] at e2
  cases e1
  cases e2
  exact ⟨Lc.same_new hT, pair_rep dm hT q1 q2⟩
theorem ei_zip {elts : List Expr} {kk : Nat} {tpos : Pos} (h : PI X (.Tuple elts kk tpos) (.Call (.Name "zip" p) [e, e2] [] pos) (RZ.iZipA X.K (tEa G Z W fa))) (hK : X.K = G.K := by rfl) : PI X (.Tuple elts kk tpos) (.Call (.Name "zip" p) [e, e2] [] pos) (tIt G Z W (iOfA pZip fa)) :=
  imp_pi h fun σ H Q ⟨B, O, ρ, s, d, s', eo, hR, hf, q⟩ => by
    unfold iOfA at hf
    obtain ⟨y, s1, h1, hf⟩ := bnd_some hf
    obtain ⟨h3, rfl⟩ := put_some hf
    refine ⟨B, O, ρ, s, y, _, eo, hR, h1, fun v H1 f1 r1 R1 => ?_⟩
    unfold pZip at h3
    split at h3
    · cases h3
      simp only [Reps] at r1
      obtain ⟨v1, r, rfl, h4, v2, r', rfl, h5, rfl⟩ := r1
      simp only [Rep] at h4 h5
      obtain ⟨a, vs, rfl, g1, g2, g3⟩ := h4
      obtain ⟨b, us, rfl, k1, k2, k3⟩ := h5
      refine ⟨a, b, vs, us, rfl, .inl ⟨.inl (.inl g1), .inl (.inl k1), q _ H1 f1 ?_ R1⟩⟩
      refine ⟨_, _, walk_zip (xs := vs) (ys := us) (by rw [zipD_len, g3.len, k3.len]), fun B2 H2 st dm => ⟨⟨.inl (.inl (st a _ g1 g2).1), .inl (.inl (st b _ k1 k2).1)⟩, fun i d x H3 hd y => zip_rep dm (g3.mv st) (k3.mv st) hd y⟩⟩
    · cases h3
      simp only [Reps] at r1
      obtain ⟨v1, r, rfl, h4, v2, r', rfl, h5, rfl⟩ := r1
      simp only [Rep] at h4 h5
      obtain ⟨a, vs, rfl, g1, g3⟩ := h4
      obtain ⟨b, us, rfl, k1, k3⟩ := h5
      have sq : ∀ {H : Hp} {c : Addr} {ws : List V}, ((H c = some (.tup ws)) ∨ KT G.K c ws) → SqT G.K H c ws := fun z => z.elim (fun z => .inl (.inl z)) .inr
      rw [hK]
      refine ⟨a, b, vs, us, rfl, .inr ⟨sq (g1.imp (·.1) id), sq (k1.imp (·.1) id), q _ H1 f1 ?_ R1⟩⟩
      refine ⟨_, _, walk_zipT (xs := vs) (ys := us) (by rw [zipD_len, g3.len, k3.len]), fun B2 H2 st dm => ⟨⟨sq (g1.imp (fun z => (st a _ z.1 z.2).1) id), sq (k1.imp (fun z => (st b _ z.1 z.2).1) id)⟩, fun i d x H3 hd y => zip_rep dm (g3.mv st) (k3.mv st) hd y⟩⟩
    · cases h3
end
end Dl
set_option Elab.async false
set_option linter.all false
set_option maxRecDepth 100000
set_option maxHeartbeats 4000000
/-! sets of texts on data -/
namespace Dl
open PySem PySem.Spec PyProof.Rows L2 Ds
theorem perm_nd : ∀ (l ks : List Str), l.Nodup → ks.Nodup → (∀ x, x ∈ l ↔ x ∈ ks) → l.Perm ks
  | [], ks, _, _, h => by
    cases ks with
    | nil => exact List.Perm.refl _
    | cons k ks => exact absurd ((h k).mpr List.mem_cons_self) (by simp)
  | a :: l, ks, n1, n2, h => by
    obtain ⟨m1, m2⟩ := List.nodup_cons.mp n1
    have hp := List.perm_cons_erase ((h a).mp List.mem_cons_self)
    have n3 := List.nodup_cons.mp (hp.nodup_iff.mp n2)
    refine List.Perm.trans (List.Perm.cons a (perm_nd l (ks.erase a) m2 n3.2 fun x => ?_)) hp.symm
    constructor
    · intro hx
      have hxa : x ≠ a := fun z => m1 (z ▸ hx)
      exact (List.mem_erase_of_ne hxa).mpr ((h x).mp (List.mem_cons_of_mem _ hx))
    · intro hx
      have hxa : x ≠ a := fun z => n3.1 (z ▸ hx)
      rcases List.mem_cons.mp ((h x).mpr ((List.mem_erase_of_ne hxa).mp hx)) with z | z
      · exact absurd z hxa
      · exact z
/-- a reading whose value is a new set of texts -/
abbrev Es (S : Type) := Rho → S → Option (List Str × S)
def tSx {S : Type} (P : Program) (w : World) (G : Kx) (Z : Zk S) (W : List Nat) (f : Es S) : TE := fun σ H Q =>
  ∃ (B O : Bar) (ρ : Rho) (s : S) (l : List Str) (s' : S), Eo G Z W B O H σ ρ ∧ Z.R H s ∧ f ρ s = some (l, s') ∧
    ∀ p l' H', H p = none → Lc.Fr Z.M H H' → l'.Perm l → H' p = some (SetX P w p l') → Z.R H' s' → Q (.ref p) H'
def asStrs : D → Option (List Str)
  | .list ds => match dStrs ds with
    | some xs => if xs.length ≤ 1000 then some xs else none
    | none => none
  | .tuple ds => match dStrs ds with
    | some xs => if xs.length ≤ 1000 then some xs else none
    | none => none
  | _ => none
/-- set(e) -/
def xSet {S : Type} (f : Ev S) : Es S := fun ρ s => bnd (f ρ s) fun d s => put ((asStrs d).map gath) s
/-- x & y -/
def xAnd {S : Type} (f g : Es S) : Es S := fun ρ s => bnd (f ρ s) fun a s => bnd (g ρ s) fun b s => some (a.filter (fun k => decide (k ∈ b)), s)
/-- sorted(x) -/
def aSortX {S : Type} (f : Es S) : Ea S := fun ρ s => bnd (f ρ s) fun l s => some ((sortS l).map .str, s)
/-- len(x) -/
def cLenX {S : Type} (f : Es S) : Ev S := fun ρ s => bnd (f ρ s) fun l s => some (.int l.length, s)
theorem asStrs_rep {G : Kx} {B : Bar} {H : Hp} {d : D} {v : V} {xs : List Str} (h : Rep G B H d v) (e : asStrs d = some xs) : ∃ a, v = .ref a ∧ (SqL G.K H a (xs.map V.str) ∨ SqT G.K H a (xs.map V.str)) ∧ xs.length ≤ 1000 := by
  unfold asStrs at e
  split at e
  · split at e
    · rename_i ys hy
      split at e
      · cases e
        obtain ⟨a, vs, rfl, _, h2, h3⟩ := h.sqL
        rw [strs_some hy] at h3
        rw [h3.strs] at h2
        exact ⟨a, rfl, .inl h2, by assumption⟩
      · cases e
    · cases e
  · split at e
    · rename_i ys hy
      split at e
      · cases e
        obtain ⟨a, vs, rfl, h2, h3⟩ := h.sqT
        rw [strs_some hy] at h3
        rw [h3.strs] at h2
        exact ⟨a, rfl, .inr h2, by assumption⟩
      · cases e
    · cases e
  · cases e
section
variable {S : Type} {X : Cx} {G : Kx} {Z : Zk S} {W : List Nat} {f g : Ev S} {F1 F2 : Es S} {a b c e tg : Expr} {es : List Expr} {pos p : Pos} {x : Str}
theorem none_fr {M : Bar} {H H' : Hp} {p : Addr} (f : Lc.Fr M H H') (h : H' p = none) : H p = none := by
  cases q : H p with
  | none => rfl
  | some o =>
    obtain ⟨o', e, _⟩ := f p o q
    rw [e] at h
    cases h
theorem sx_set (hc : X.calm = true) (hg : Gl X "set") (hm : X.mg "set" = none) (he : PE X e (tEx G Z W f)) (hK : X.K = G.K := by rfl) (hs : starEach [e] X.env = (false, eval e X.env) :: starEach [] X.env := by rfl) :
    PE X (.Call (.Name "set" p) [e] [] pos) (tSx X.prog X.w G Z W (xSet f)) :=
  imp_pe (pe_callTy (cr_setT hc) hg hm (by decide +kernel) (pa_cons he pa_nil hs) (he := hs)) fun σ H Q ⟨B, O, ρ, s, l, s', eo, hR, hf, q⟩ => by
    unfold xSet at hf
    obtain ⟨d, s1, h1, hf⟩ := bnd_some hf
    obtain ⟨h2, rfl⟩ := put_some hf
    obtain ⟨xs, h3, rfl⟩ := Option.map_eq_some_iff.mp h2
    refine ⟨B, O, ρ, s, d, _, eo, hR, h1, fun v H1 f1 r1 R1 => ?_⟩
    obtain ⟨a, rfl, h4, h5⟩ := asStrs_rep r1 h3
    rw [hK]
    exact ⟨a, xs, rfl, h4, h5, fun p np => q p _ _ (none_fr f1 np) (f1.trans (Lc.Fr.new np)) (List.Perm.refl _) upd_same (Z.same R1 (Lc.same_new np))⟩
theorem nl_sortX (hc : X.calm = true) (hg : Gl X "sorted") (hm : X.mg "sorted" = none) (he : PE X e (tSx X.prog X.w G Z W F1)) (hs : starEach [e] X.env = (false, eval e X.env) :: starEach [] X.env := by rfl) :
    PE X (.Call (.Name "sorted" p) [e] [] pos) (tNl G Z W (aSortX F1)) :=
  imp_pe (pe_callB (cr_sortX hc) hg hm (by decide +kernel) (pa_cons he pa_nil hs) (he := hs)) fun σ H Q ⟨B, O, ρ, s, l, s', eo, hR, hf, q⟩ => by
    unfold aSortX at hf
    obtain ⟨d, s1, h1, hf⟩ := bnd_some hf
    cases hf
    refine ⟨B, O, ρ, s, d, _, eo, hR, h1, fun p1 l1 H1 n1 f1 pm h2 R1 => ⟨p1, l1, rfl, h2, fun ys p hp hs np => ?_⟩⟩
    have e : ys = sortS d := sortS_eq (hp.trans pm) hs
    subst e
    exact q p _ _ (none_fr f1 np) (f1.trans (Lc.Fr.new np)) upd_same reps_strs (Z.same R1 (Lc.same_new np))
theorem ex_lenX (hg : Gl X "len") (hm : X.mg "len" = none) (he : PE X e (tSx X.prog X.w G Z W F1)) (hs : starEach [e] X.env = (false, eval e X.env) :: starEach [] X.env := by rfl) :
    PE X (.Call (.Name "len" p) [e] [] pos) (tEx G Z W (cLenX F1)) :=
  imp_pe (pe_callB cr_lenX hg hm (by decide +kernel) (pa_cons he pa_nil hs) (he := hs)) fun σ H Q ⟨B, O, ρ, s, l, s', eo, hR, hf, q⟩ => by
    unfold cLenX at hf
    obtain ⟨d, s1, h1, hf⟩ := bnd_some hf
    cases hf
    refine ⟨B, O, ρ, s, d, _, eo, hR, h1, fun p1 l1 H1 n1 f1 pm h2 R1 => ⟨p1, l1, rfl, h2, ?_⟩⟩
    rw [pm.length_eq]
    exact q _ H1 f1 (by simp only [Rep]) R1
theorem sx_and (ha : PE X a (tSx X.prog X.w G Z W F1)) (hb : PE X b (tSx X.prog X.w G Z W F2)) (nd : ∀ ρ s l s', F1 ρ s = some (l, s') → l.Nodup) : PE X (.BinOp a .BitAnd b pos) (tSx X.prog X.w G Z W (xAnd F1 F2)) :=
  imp_pe (pe_op op_andX ha hb) fun σ H Q ⟨B, O, ρ, s, l, s', eo, hR, hf, q⟩ => by
    unfold xAnd at hf
    obtain ⟨da, s1, h1, hf⟩ := bnd_some hf
    obtain ⟨db, s2, h2, hf⟩ := bnd_some hf
    cases hf
    refine ⟨B, O, ρ, s, da, s1, eo, hR, h1, fun p1 l1 H1 n1 f1 pm1 e1 R1 => ?_⟩
    refine ⟨B, O, ρ, s1, db, _, eo.fr f1, R1, h2, fun p2 l2 H2 n2 f2 pm2 e2 R2 => ?_⟩
    have hne : p1 ≠ p2 := fun z => by
      rw [z, n2] at e1
      cases e1
    have hm : ¬ Z.M p1 := fun z => Z.dom H s p1 hR z n1
    refine ⟨p1, p2, l1, l2, rfl, rfl, hne, f2.at e1 hm, e2, fun l p ndl hk np => ?_⟩
    refine q p l _ (none_fr (f1.trans f2) np) ((f1.trans f2).trans (Lc.Fr.new np)) (perm_nd _ _ ndl ((nd _ _ _ _ h1).filter _) fun x => ?_) upd_same (Z.same R2 (Lc.same_new np))
    rw [hk x, pm1.mem_iff, pm2.mem_iff, List.mem_filter, decide_eq_true_eq]
end
theorem plus_nd {l : List Str} (h : l.Nodup) (k : Str) : (plus l k).Nodup := by
  unfold plus
  split
  · exact h
  · exact List.nodup_cons.mpr ⟨by assumption, h⟩
theorem plus_mem {l : List Str} {k x : Str} : x ∈ plus l k ↔ x = k ∨ x ∈ l := by
  unfold plus
  split
  · constructor
    · exact .inr
    · rintro (rfl | h)
      · assumption
      · exact h
  · exact List.mem_cons
theorem gath_go : ∀ (xs l : List Str), l.Nodup → (xs.foldl plus l).Nodup ∧ ∀ x, x ∈ xs.foldl plus l ↔ x ∈ xs ∨ x ∈ l
  | [], l, h => ⟨h, fun x => by simp⟩
  | k :: xs, l, h => by
    obtain ⟨h1, h2⟩ := gath_go xs (plus l k) (plus_nd h k)
    refine ⟨h1, fun x => ?_⟩
    rw [List.foldl_cons, h2 x, plus_mem, List.mem_cons]
    constructor
    · rintro (h | h | h)
      · exact .inl (.inr h)
      · exact .inl (.inl h)
      · exact .inr h
    · rintro ((h | h) | h)
      · exact .inr (.inl h)
      · exact .inl h
      · exact .inr (.inr h)
theorem gath_nd (xs : List Str) : (gath xs).Nodup := (gath_go xs [] List.nodup_nil).1
theorem gath_mem {xs : List Str} {x : Str} : x ∈ gath xs ↔ x ∈ xs := by
  rw [show gath xs = xs.foldl plus [] from rfl, (gath_go xs [] List.nodup_nil).2 x]
  simp
theorem xSet_nd {S : Type} {f : Ev S} : ∀ ρ s l s', xSet f ρ s = some (l, s') → l.Nodup := fun ρ s l s' h => by
  unfold xSet at h
  obtain ⟨d, s1, h1, hf⟩ := bnd_some h
  obtain ⟨h2, rfl⟩ := put_some hf
  obtain ⟨xs, h3, rfl⟩ := Option.map_eq_some_iff.mp h2
  exact gath_nd xs
end Dl
set_option Elab.async false
set_option linter.all false
set_option maxRecDepth 100000
set_option maxHeartbeats 4000000
/-! t[::-1] of a tuple, of a list, on data -/
namespace Ds
open PySem PySem.Spec PyProof.Rows L2
theorem back_at (n : Nat) : Builtin.Slice.sliceAdjust none none (-1) (n : Int) = ((n : Int) - 1, -1) := rfl
theorem back_many (n : Nat) : Builtin.Slice.slicePlaces ((n : Int) - 1) (-1) (-1) = n := by
  unfold Builtin.Slice.slicePlaces
  rw [if_neg (by decide)]
  by_cases h : (n : Int) - 1 > -1
  · rw [if_pos h]
    have : ((n : Int) - 1 - -1 - 1) / (- -1) = n - 1 := by
      show ((n : Int) - 1 - -1 - 1) / 1 = n - 1
      rw [Int.ediv_one]
      omega
    rw [this]
    omega
  · rw [if_neg h]
    omega
theorem back_pick {α : Type} (xs : Array α) : ((List.range xs.size).filterMap fun (m : Nat) => xs[((xs.size : Int) - 1 + (m : Int) * -1).toNat]?) = xs.toList.reverse := by
  have e : (fun (m : Nat) => xs[((xs.size : Int) - 1 + (m : Int) * -1).toNat]?) = (fun i => xs[i]?) ∘ fun m => xs.size - 1 - m := by
    funext m
    rw [Function.comp_apply, show ((xs.size : Int) - 1 + (m : Int) * -1).toNat = xs.size - 1 - m by omega]
  rw [e, ← List.filterMap_map, PySem.W.krv_range, List.filterMap_reverse, PySem.W.krv_all]
section
variable {prog : Program} {w : World} {A : Around} {E : Value → Shared → Prop} {s : Shared}
theorem applied_back {sl : Addr} {vl vu vs : Value} {n : Nat} {Q : Int × Int × Nat → Shared → Prop} (hs : s.heap.IsSliceOf sl vl vu vs) (pl : IsPart vl none) (pu : IsPart vu none) (ps : IsPart vs (some (-1))) (q : Q ((n : Int) - 1, -1, n) s) :
    wpAny (model prog w) A (Builtin.Slice.sliceApplied (.ref sl) (pure (n : Int))) Q E s := by
  obtain ⟨o, h1, h2, h3⟩ := id hs
  unfold Builtin.Slice.sliceApplied Builtin.Slice.sliceFields
  refine wpAny_bind (wpAny_bind (wpAny_field h1 h3 (x := vl) rfl (wpAny_bind (wpAny_field h1 h3 (x := vu) rfl (wpAny_bind (wpAny_field h1 h3 (x := vs) rfl (wpAny_pure ?_)))))))
  refine wpAny_bind (HT.slicePart_ ps ?_)
  show wpAny _ _ (if ((-1 : Int) == 0) = true then _ else _) _ _ s
  rw [if_neg (by decide)]
  refine wpAny_bind (HT.slicePart_ pl (wpAny_bind (HT.slicePart_ pu (wpAny_bind (wpAny_pure ?_)))))
  show wpAny _ _ (pure ((n : Int) - 1, (-1 : Int), Builtin.Slice.slicePlaces ((n : Int) - 1) (-1) (-1))) _ _ s
  rw [back_many]
  exact wpAny_pure q
theorem item_back {t sl : Addr} {items : Array Value} {vl vu vs : Value} {Q : Value → Shared → Prop} (ht : IsTup s.heap t items) (hs : s.heap.IsSliceOf sl vl vu vs) (pl : IsPart vl none) (pu : IsPart vu none) (ps : IsPart vs (some (-1))) (hz : items.size ≤ sizeLine)
    (q : Q (.ref s.heap.objs.size) { s with heap := s.heap.push { cls := .type "tuple", data := .seq items.toList.reverse.toArray } }) : wpAny (model prog w) A (getItem (.ref t) (.ref sl)) Q E s := by
  obtain ⟨o, h1, h2, h3⟩ := id hs
  have hT : s.TypeIs (.ref sl) "slice" := ⟨o, h1, h2⟩
  unfold getItem
  try with_reducible refine wpAny_holding ?_
  first | refine wpAny_bind (wpAny_pure ?_) | skip
  refine wpAny_bind (wpAny_sequenceKey ht.typeIs (by decide) ?_)
  refine wpAny_bind (wpAny_callSpecial?_slot (name := Str.ofString "__getitem__") ht.typeIs PyProof.Rows.slot_tuple_getitem (wpAny_call_entry PyProof.Rows.slot_tuple_getitem ht.typeIs entry_tuple_getitem ?_ (args_tuple_getitem _ _)))
  show wpAny _ _ (Builtin.Tuple.tupleItemsOf (.ref t) >>= _) _ _ s
  refine wpAny_bind (tupleItemsOf_ ht (wpAny_bind (wpAny_typeOf hT ?_)))
  rw [if_pos (by decide)]
  refine wpAny_bind (applied_back hs pl pu ps ?_)
  show wpAny _ _ (if ((((items.size : Int) - 1) == 0 && (-1 : Int) == 1 && items.size == items.size) = true) then _ else _) _ _ s
  rw [if_neg (by simp), back_pick]
  have hz2 : sizeOk (.seq items.toList.reverse.toArray) := by
    show items.toList.reverse.toArray.size ≤ sizeLine
    simpa using hz
  first
    | exact wpAny_bind (m := Builtin.Tuple.tupleExact _) (wpAny_newObj_type (wpAny_pure ⟨_, rfl, wpAny_pure q⟩) hz2)
    | exact wpAny_bind (m := Builtin.Tuple.tupleExact _) (wpAny_newObj_type (wpAny_bind (wpAny_pure (wpAny_pure ⟨_, rfl, wpAny_pure q⟩))) hz2)
    | exact wpAny_bind (wpAny_bind (m := Builtin.Tuple.tupleExact _) (wpAny_newObj_type (wpAny_pure (wpAny_pure ⟨_, rfl, wpAny_pure q⟩)) hz2))
    | exact wpAny_bind (wpAny_bind (m := Builtin.Tuple.tupleExact _) (wpAny_newObj_type (wpAny_pure ⟨_, rfl, wpAny_pure q⟩) hz2))
end
/-- x[::-1] of a tuple -/
def tBack (K : PySem.W.Frag) (te : TE) : TE := fun σ H Q => te σ H fun x H1 => ∃ a xs, x = .ref a ∧ SqT K H1 a xs ∧ ∀ p, H1 p = none → Q (.ref p) (upd H1 p (.tup xs.reverse))
abbrev backE (e : Expr) (k : Nat) (p1 p2 p3 pos : Pos) : Expr := .Subscript e (.Slice none none (some (.UnaryOp .USub (.Constant (.int 1) k p1) p2)) p3) pos
/-- the slice's parts: none, none, -1 -/
theorem parts_back {X : Cx} {k : Nat} {p1 p2 : Pos} {pins : List (Addr × Obj)} {σ : L2.St} {H : Hp} {s : Shared} (I : Inv X pins σ H s) {R : Value → Value → Value → Shared → Prop} (q : ∀ vl vu vs s', Inv X pins σ H s' → IsPart vl none → IsPart vu none → IsPart vs (some (-1)) → R vl vu vs s') :
    wpAny (model X.prog X.w) X.A (evalPart none X.env) (fun vl s1 => wpAny (model X.prog X.w) X.A (evalPart none X.env) (fun vu s2 => wpAny (model X.prog X.w) X.A (evalPart (some (.UnaryOp .USub (.Constant (.int 1) k p1) p2)) X.env) (fun vs s3 => R vl vu vs s3) X.xe s2) X.xe s1) X.xe s := by
  have non : ∀ {σ H} {s : Shared}, Inv X pins σ H s → wpAny (model X.prog X.w) X.A (evalPart none X.env) (fun u s' => ∃ o H', Inv X pins σ H' s' ∧ IsPart u o ∧ o = none ∧ H' = H) X.xe s := fun I => po_none.run pins _ _ _ (fun o H' => o = none ∧ H' = _) I ⟨rfl, rfl⟩
  have one : PO X (some (.UnaryOp .USub (.Constant (.int 1) k p1) p2)) _ := po_some (pe_un un_neg pe_int)
  refine thn (non I) fun vl s1 h1 => thn (non (by obtain ⟨_, _, J, _, _, rfl⟩ := h1; exact J)) fun vu s2 h2 => ?_
  obtain ⟨_, _, J1, l1, rfl, rfl⟩ := h1
  obtain ⟨_, _, J2, l2, rfl, rfl⟩ := h2
  refine thn (one.run pins _ _ _ (fun o H' => o = some (-1) ∧ H' = _) J2 ⟨1, rfl, -1, rfl, rfl, rfl⟩) fun vs s3 h3 => ?_
  obtain ⟨_, _, J3, l3, rfl, rfl⟩ := h3
  exact q vl vu vs s3 J3 l1 l2 l3
theorem pe_back {X : Cx} {e : Expr} {te : TE} {k : Nat} {p1 p2 p3 pos : Pos} (he : PE X e te) : PE X (backE e k p1 p2 p3 pos) (tBack X.K te) := by
  constructor
  intro pins s σ H Q I h
  refine Subscript_ (thn (he.run pins s σ H _ I h) ?_)
  rintro v s1 ⟨x, H1, I1, r1, a, xs, ex, hx, q⟩
  subst ex
  cases r1
  refine wpAny_Slice (parts_back I1 fun vl vu vs s4 I4 pl pu ps => ?_)
  have J : Inv X pins σ H1 { s4 with heap := s4.heap.push { cls := .type "slice", data := .fields #[vl, vu, vs] } } := I4.kept (t' := s4.toks) fun _ _ z => Heap.get?_push_of_some _ z
  obtain ⟨its, r, ht, hz⟩ := J.tuple hx
  have hn := r.length
  change wpAny _ _ (subscriptTail e _ (.ref a) (.ref s4.heap.objs.size)) _ _ _
  refine tail_any (ops := [.ref a, .ref s4.heap.objs.size]) ht.typeIs PyProof.Rows.slot_tuple_getitem.lookup (item_back ht (Heap.IsSliceOf.new _ vl vu vs) pl pu ps (by rw [List.size_toArray]; omega) ?_) (by with_unfolding_all rfl)
  refine ⟨.ref _, upd H1 _ (.tup xs.reverse), J.laid (t' := s4.toks) (o := .tup xs.reverse) (fun _ _ z => Heap.get?_push_of_some _ z) (Nat.le_refl _) ⟨?_, its.reverse, r.reverse, IsTup.new _ _⟩, rfl, q _ (J.hok.fresh (Nat.le_refl _))⟩
  rw [List.length_reverse]
  exact hz
end Ds
namespace Dl
open PySem PySem.Spec PyProof.Rows L2 Ds
def pBack : D → Option D
  | .tuple ds => some (.tuple ds.reverse)
  | _ => none
def pBackL : D → Option D
  | .list ds => some (.list ds.reverse)
  | _ => none
theorem Reps.rev {G : Kx} {B : Bar} {H : Hp} : ∀ {ds : List D} {vs : List V}, Reps G B H ds vs → Reps G B H ds.reverse vs.reverse
  | [], vs, h => by
    simp only [Reps] at h
    subst h
    exact Reps.nil
  | d :: ds, vs, h => by
    simp only [Reps] at h
    obtain ⟨v, r, rfl, h1, h2⟩ := h
    rw [List.reverse_cons, List.reverse_cons]
    exact Reps.append (Reps.rev h2) (Reps.cons h1 Reps.nil)
theorem ex_back {S : Type} {X : Cx} {G : Kx} {Z : Zk S} {W : List Nat} {f : Ev S} {e : Expr} {k : Nat} {p1 p2 p3 pos : Pos} (he : PE X e (tEx G Z W f)) (hK : X.K = G.K := by rfl) : PE X (backE e k p1 p2 p3 pos) (tEx G Z W (cU pBack f)) :=
  imp_pe (pe_back he) fun σ H Q ⟨B, O, ρ, s, d, s', eo, hR, hf, q⟩ => by
    unfold cU at hf
    obtain ⟨x, s1, h1, hf⟩ := bnd_some hf
    obtain ⟨h3, rfl⟩ := put_some hf
    refine ⟨B, O, ρ, s, x, _, eo, hR, h1, fun v H1 f1 r1 R1 => ?_⟩
    have e2 := eo.fr f1
    rw [hK]
    unfold pBack at h3
    split at h3
    · cases h3
      obtain ⟨a, vs, rfl, h4, h5⟩ := r1.sqT
      refine ⟨a, vs, rfl, h4, fun p np => q _ _ (f1.trans (Lc.Fr.new np)) ?_ (Z.same R1 (Lc.same_new np))⟩
      simp only [Rep]
      exact ⟨p, vs.reverse, rfl, .inl ⟨upd_same, e2.new np⟩, (h5.rev).same (Lc.same_new np)⟩
    · cases h3
theorem ex_backL {S : Type} {X : Cx} {G : Kx} {Z : Zk S} {W : List Nat} {f : Ev S} {e : Expr} {k : Nat} {p1 p2 p3 pos : Pos} (he : PE X e (tEx G Z W f)) (hK : X.K = G.K := by rfl) : PE X (backE e k p1 p2 p3 pos) (tEx G Z W (cU pBackL f)) :=
  imp_pe (pe_revL he) fun σ H Q ⟨B, O, ρ, s, d, s', eo, hR, hf, q⟩ => by
    unfold cU at hf
    obtain ⟨x, s1, h1, hf⟩ := bnd_some hf
    obtain ⟨h3, rfl⟩ := put_some hf
    refine ⟨B, O, ρ, s, x, _, eo, hR, h1, fun v H1 f1 r1 R1 => ?_⟩
    have e2 := eo.fr f1
    rw [hK]
    unfold pBackL at h3
    split at h3
    · cases h3
      obtain ⟨a, vs, rfl, _, h4, h5⟩ := r1.sqL
      refine ⟨a, vs, rfl, h4, fun p np => q _ _ (f1.trans (Lc.Fr.new np)) ?_ (Z.same R1 (Lc.same_new np))⟩
      simp only [Rep]
      exact ⟨p, vs.reverse, rfl, upd_same, e2.new np, (h5.rev).same (Lc.same_new np)⟩
    · cases h3
end Dl
set_option Elab.async false
set_option linter.all false
set_option maxRecDepth 100000
set_option maxHeartbeats 4000000
namespace Dl
open PySem PySem.Spec PyProof.Rows L2 Ds
section
variable {S : Type} {X : Cx} {G : Kx} {Z : Zk S} {W : List Nat} {f g : Ev S} {a b c e tg : Expr} {es : List Expr} {pos p : Pos} {x : Str}
/-- {} -/
def cD0 : Ev S := fun _ s => some (.dict [], s)
theorem ex_d0 : PE X (.Dict [] [] pos) (tEx G Z W cD0) := imp_pe pe_dnewK fun σ H Q ⟨B, O, ρ, s, d, s', eo, hR, hf, q⟩ => by
  cases hf
  intro p np
  refine q _ _ (Lc.Fr.new np) ?_ (Z.same hR (Lc.same_new np))
  simp only [Rep]
  exact ⟨p, rfl, .inr ⟨trivial, upd_same, eo.new np⟩⟩
/-- is, is not of two truths -/
def pIsB : D → D → Option D
  | .bool a, .bool b => some (.bool (decide (a = b)))
  | _, _ => none
def pNotB : D → D → Option D
  | .bool a, .bool b => some (.bool (!decide (a = b)))
  | _, _ => none
theorem os_isB : OpS G rIsB pIsB := by
  intro B H x y dx dy d Q bd hx hy hp q
  unfold pIsB at hp
  split at hp
  · cases hp
    simp only [Rep] at hx hy
    subst hx hy
    exact ⟨_, _, rfl, rfl, q _ H (Same.refl H) (by simp only [Rep])⟩
  · cases hp
theorem os_notB : OpS G rNotB pNotB := by
  intro B H x y dx dy d Q bd hx hy hp q
  unfold pNotB at hp
  split at hp
  · cases hp
    simp only [Rep] at hx hy
    subst hx hy
    exact ⟨_, _, rfl, rfl, q _ H (Same.refl H) (by simp only [Rep])⟩
  · cases hp
theorem pIsB_bool {x y z : D} (h : pIsB x y = some z) : ∃ k, z = .bool k := by
  unfold pIsB at h
  split at h
  · cases h
    exact ⟨_, rfl⟩
  · cases h
theorem pNotB_bool {x y z : D} (h : pNotB x y = some z) : ∃ k, z = .bool k := by
  unfold pNotB at h
  split at h
  · cases h
    exact ⟨_, rfl⟩
  · cases h
end
end Dl
set_option Elab.async false
set_option linter.all false
set_option maxRecDepth 100000
set_option maxHeartbeats 4000000
/-! the end of a law some of whose defs have generator expressions -/
namespace Dl
open PySem PySem.Spec PyProof.Rows L2 GxR
theorem law_many {l : PySem.W.OpenLaw} {w : World} {K : PySem.W.Frag} {CX : CXT} {k n : Nat} {x : Str} {mg mb : Str → Option Value} {fa : Addr} {h : Heap} {q : Program} {loose : List Str} {mean : ExcName → Option Value} {fd : FuncData} {sp : Sp} (ts : List (Addr × Addr))
    (Tp : Top q (PySem.W.looseW q loose) mean mg mb h) (KX : K.In h) (hts : ∀ p ∈ ts, ∃ (y : Str) (d : DefRec), (recsOf q).find? (fun e => e.name == y) = some d ∧ PySem.W.tabIn K y = some p) (hk : PySem.W.noTabs K = true)
    (hb : ∀ (s : Shared) (u : Value), BindsTo s fd ⟨[u], []⟩ [(x, u)])
    (hsp : ∀ (H : Hp) (a : Addr) (ns : List Int), (∀ p ∈ ts, TabG H p.2) → SqL K H a (ns.map V.int) → sp [.ref a] H (fun v _ => v = .bl true) fun _ _ _ => False)
    (hF : ∀ base : Heap, K.In base → base.Ns mainGlobals mg → (∀ p ∈ ts, TabB base mg p.1 p.2) → FnOk l.prog w K mg base CX k fa fd [x] sp) : LamX.LawAtS l w K CX k n x mg fa h := by
  refine ⟨fd, ts, sp, fun p hp => ?_, fun p hp => ?_, fun p hp => ?_, hb, fun H a ns _ _ ht hS => hsp H a ns (fun p hp => ⟨#[], ht p hp, trivial⟩) hS, fun base b1 b2 b3 => hF base b1 b2 fun p hp => ⟨(b3 p hp).code, (b3 p hp).bm, (b3 p hp).gP⟩⟩
  · obtain ⟨y, d, hr, ht⟩ := hts p hp
    exact (PySem.W.tab_of Tp KX hr ht).2
  · obtain ⟨y, d, hr, ht⟩ := hts p hp
    have hT := (PySem.W.tab_of Tp KX hr ht).2
    cases e : K.lookup p.2 with
    | none => rfl
    | some o =>
      have e2 := KX p.2 o e
      rw [hT] at e2
      cases e2
      have h2 := List.all_eq_true.mp hk _ (PySem.W.mem_of_lookupK e)
      exact absurd (show false = true from h2) Bool.false_ne_true
  · obtain ⟨y, d, hr, ht⟩ := hts p hp
    exact (PySem.W.tab_of Tp KX hr ht).1
end Dl
set_option Elab.async false
set_option linter.all false
set_option maxRecDepth 100000
set_option maxHeartbeats 4000000
/-! the deck of the laws of counts: one list, how many were drawn, a seed, the cells -/
namespace Dl
open PySem PySem.Spec PyProof.Rows L2 GxR
def Dk8 (d : Addr) (H : Hp) (s : DS) : Prop := H d = some (.lst (.int s.2.2 :: .int s.2.1 :: s.1.map V.int)) ∧ s.1.length ≤ 63
def Zd8 (d : Addr) : Zk DS where
  M := fun a => a = d
  R := Dk8 d
  dom := fun H s a h m => by
    subst m
    rw [h.1]
    simp
  loc := fun H H' s h k => ⟨(k d rfl).trans h.1, h.2⟩
def m8a (a k : Int) : Int := (a % 2147483647 * 48271 + k * 69621 + 7919) % 2147483629
def m8b (a k : Int) : Int := (m8a a k * m8a a k + 16807 * m8a a k + k) % 2147483587
def m8F (a k : Int) : Int := (m8b a k % 65536 * 32749 + m8b a k / 65536) * 39373 % 2147483563
def drawG (s : DS) (m : Int) : Int × DS := match s.1.getLast? with
  | none => (m8F s.2.1 (s.2.2 + 1) % m, ([], s.2.1, s.2.2 + 1))
  | some x => if x < 10 ^ 18 then (m8F x (s.2.2 + 1) % m, (s.1.dropLast, s.2.1, s.2.2 + 1)) else (x % m, (s.1.dropLast ++ [x / m], s.2.1, s.2.2 + 1))
theorem drawG_range (s : DS) {m : Int} (hm : 0 < m) : 0 ≤ (drawG s m).1 ∧ (drawG s m).1 < m := by
  have fin : ∀ r : Int, 0 ≤ r % m ∧ r % m < m := fun r => ⟨Int.emod_nonneg _ (by omega), Int.emod_lt_of_pos _ hm⟩
  unfold drawG
  split
  · exact fin _
  · split
    · exact fin _
    · exact fin _
def Fdraw8 : Fn DS := fun ds s => match ds with
  | [.dict [(.int 0, .none)], .int m] => if 0 < m ∧ m < 1073741824 then some (.int (drawG s m).1, (drawG s m).2) else none
  | _ => none
theorem fdraw8 {s : DS} {m : Int} (h : 0 < m) (h2 : m < 1073741824) : Fdraw8 [hnd 0, .int m] s = some (.int (drawG s m).1, (drawG s m).2) := by
  show (if 0 < m ∧ m < 1073741824 then some (PyData.int (drawG s m).1, (drawG s m).2) else none) = _
  rw [if_pos ⟨h, h2⟩]
theorem k_draw8 {s : DS} {m : Int} {Q : D → DS → Prop} (h : 0 < m) (h2 : m < 1073741824) (q : ∀ (r : Int) s', 0 ≤ r → r < m → Q (.int r) s') : Ok (Fdraw8 [hnd 0, .int m] s) Q :=
  ⟨_, _, fdraw8 h h2, q _ _ (drawG_range s h).1 (drawG_range s h).2⟩
theorem zd8_ne {d : Addr} (H : Hp) (s : DS) (a : Addr) (h : (Zd8 d).R H s) (m : (Zd8 d).M a) (ps : Array Value) : H a ≠ some (.tbl ps) := by
  have m : a = d := m
  subst m
  rw [h.1]
  intro z
  cases z
def Zt8 (d : Addr) (Ts : List Addr) : Zk DS := (Zd8 d).tb Ts zd8_ne
theorem ztab8 {d T : Addr} {Ts : List Addr} (hT : T ∈ Ts) : ZTab (Zt8 d Ts) T where
  m := .inr hT
  tab := fun H s h => h.2 T hT
  put := fun H H' s h t => by
    have ne : ∀ a, (Zd8 d).M a → a ≠ T := fun a m z => by
      obtain ⟨ps, e, _⟩ := h.2 T hT
      exact zd8_ne H s a h.1 m ps (by rw [z]; exact e)
    refine ⟨(Zd8 d).loc H H' s h.1 fun a m => t.2 a (ne a m), fun T' m => ?_⟩
    by_cases e : T' = T
    · rw [e]; exact t.1
    · obtain ⟨ps, e1, e2⟩ := h.2 T' m
      exact ⟨ps, (t.2 T' e).trans e1, e2⟩
section
variable {P : Program} {w : World} {K : PySem.W.Frag} {mg : Str → Option Value} {base : Heap} {f : Addr} {fd : FuncData}
theorem fn_zt8 {d : Addr} {Ts : List Addr} {k n : Nat} {ps : List Str} {F : Fn DS} {hd : Nat → Addr → Prop} (h : FnOk P w K mg base CX0 k f fd ps (spD ⟨K, hd⟩ (Zd8 d) n F)) : FnOk P w K mg base CX0 k f fd ps (spD ⟨K, hd⟩ (Zt8 d Ts) n F) := by
  have key : ∀ vs H Q E, spD ⟨K, hd⟩ (Zt8 d Ts) n F vs H Q E → spD ⟨K, hd⟩ (Zd8 d) n F vs H Q E := fun vs H Q E ⟨B, ds, s, x, s', h1, bd, mb, h2, R, hF, q⟩ =>
    ⟨B, ds, s, x, s', h1, bd, fun a m => mb a (.inl m), h2, R.1, hF, fun v H' f1 r1 R1 => q v H' (fun b o e => by
      obtain ⟨o', e1, e2⟩ := f1 b o e
      exact ⟨o', e1, fun n9 => e2 fun m => n9 (.inl m)⟩) r1 ⟨R1, fun T m => by
        obtain ⟨ps, e, t⟩ := R.2 T m
        exact ⟨ps, f1.at e fun m2 => zd8_ne H s T R.1 m2 ps e, t⟩⟩⟩
  exact ⟨fun vs H Q E z => h.len vs H Q E (key _ _ _ _ z), fun A outer s H args us vs Q E hr he hb hv hsp => h.run A outer s H args us vs Q E hr he hb hv (key _ _ _ _ hsp)⟩
def tRest8 (K : PySem.W.Frag) (Ts : List Addr) (W : List Nat) (F : Sv DS) : TS := fun E σ H => ∃ d, tSt ⟨K, hdD d⟩ (Zt8 d Ts) W F E σ H
theorem pss_rest8 {X : Cx} {Ts : List Addr} {W : List Nat} {F : Sv DS} {st : List Stmt} (h : ∀ d, PSs X st (tSt ⟨K, hdD d⟩ (Zt8 d Ts) W F)) : PSs X st (tRest8 K Ts W F) := ⟨fun pins s σ H D I ⟨d, q⟩ => (h d).run pins s σ H D I q⟩
theorem rest_at8 {Ts : List Addr} {W : List Nat} {F : Sv DS} {n : Nat} {d a : Addr} {H : Hp} {s : DS} {Q : VK} {nx : L2.St → Hp → Prop} (k : Dk8 d H s) (kt : ∀ T ∈ Ts, TabG H T) (hW : ∀ i ∈ W, 2 ≤ i) (ht : Ok (F (lawR n) s) fun r _ => r = .rt (.bool true)) (q : ∀ H', Q (.bl true) H') :
    tRest8 K Ts W F { nx := nx, rt := Q } (some (.ref a) :: some (.ref d) :: List.replicate n none) H := by
  obtain ⟨r, s', e, rfl⟩ := ht
  have kz : (Zt8 d Ts).R H s := ⟨k, kt⟩
  refine ⟨d, (Zt8 d Ts).M, H, fun _ => False, lawR n, s, .rt (.bool true), s', ⟨⟨⟨?_, ?_, ?_⟩, ?_, fun _ z => z.elim, fun _ z => z, fun _ z => z.elim⟩, Lc.Fr.refl H, ?_, fun _ z => z.elim, kz⟩, e, ?_⟩
  · simp [lawR]
  · intro i x hi hx
    match i, hx with
    | 0, hx => cases hx
    | 1, hx =>
      cases hx
      refine ⟨.ref d, rfl, ?_⟩
      show Rep _ _ H (hnd 0) (.ref d)
      unfold hnd
      simp only [Rep]
      exact ⟨d, rfl, .inl ⟨0, rfl, rfl, rfl⟩⟩
    | i + 2, hx =>
      have hx : (List.replicate n (none : Option D))[i]? = some (some x) := hx
      rw [List.getElem?_replicate] at hx
      split at hx <;> cases hx
  · have no : ∀ i x, i ∈ W → (lawR n)[i]? = some (some x) → False := fun i x hi hx => by
      have h2 := hW i hi
      match i, hx with
      | i + 2, hx =>
        have hx : (List.replicate n (none : Option D))[i]? = some (some x) := hx
        rw [List.getElem?_replicate] at hx
        split at hx <;> cases hx
    exact ⟨fun _ => 0, (fun i j x y hi _ hx => (no i x hi hx).elim), fun i x hi hx => (no i x hi hx).elim⟩
  · exact fun a z => (Zt8 d Ts).dom H s a kz z
  · exact fun a z => (Zt8 d Ts).dom H s a kz z
  · intro v H' _ hr _
    simp only [Rep] at hr
    rw [hr]
    exact q H'
end
end Dl
set_option Elab.async false
set_option linter.all false
set_option maxRecDepth 100000
set_option maxHeartbeats 4000000
/-! a def whose first statement makes a dict of its own, texts to whole numbers: the dict is a handle into the state -/
namespace Dl
open PySem PySem.Spec PyProof.Rows L2 Ds
abbrev KV := List (Str × Int)
def kvV (m : KV) : List (Key × V) := m.map fun p => (Sum.inr p.1, V.int p.2)
def kvGet (m : KV) (k : Str) : Option Int := (m.find? fun p => decide (p.1 = k)).map (·.2)
def kvPut (m : KV) (k : Str) (v : Int) : KV := if (m.any fun p => decide (p.1 = k)) = true then m.map (fun p => if p.1 = k then (p.1, v) else p) else m ++ [(k, v)]
theorem kv_get (k : Str) : ∀ m : KV, valV (kvV m) (Sum.inr k : Key) = (kvGet m k).map V.int
  | [] => rfl
  | (a, n) :: m => by
    have ih := kv_get k m
    by_cases e : a = k
    · subst e
      simp [valV, kvV, kvGet]
    · unfold valV kvV kvGet at ih ⊢
      simp only [List.map_cons, List.find?_cons]
      have e2 : decide ((Sum.inr a : Key) = Sum.inr k) = false := decide_eq_false fun z => e (Sum.inr.inj z)
      rw [e2, decide_eq_false e]
      exact ih
theorem kv_put (m : KV) (k : Str) (v : Int) : putK (kvV m) (Sum.inr k : Key) (.int v) = kvV (kvPut m k v) := by
  have h1 : ((kvV m).any fun p => decide (p.1 = (Sum.inr k : Key))) = m.any fun p => decide (p.1 = k) := by
    unfold kvV
    rw [List.any_map]
    congr 1
    funext p
    simp
  unfold putK kvPut
  rw [h1]
  split
  · unfold kvV
    rw [List.map_map, List.map_map]
    refine List.map_congr_left fun p _ => ?_
    by_cases e : p.1 = k
    · simp [e]
    · simp [e]
  · simp [kvV]
mutual
/-- nothing in it is the handle of the dict -/
def noH : D → Bool
  | .list ds => noHs ds
  | .tuple ds => noHs ds
  | .dict [(.int n, .none)] => decide (n ≠ 1)
  | _ => true
def noHs : List D → Bool
  | [] => true
  | d :: ds => noH d && noHs ds
end
def hdc (hd : Nat → Addr → Prop) (p : Addr) : Nat → Addr → Prop := fun n a => if n = 1 then a = p else hd n a
section
variable {K : PySem.W.Frag} {hd : Nat → Addr → Prop} {p : Addr} {B : Bar} {H : Hp}
mutual
theorem rep_h : ∀ (d : D) (v : V), noH d = true → (Rep ⟨K, hd⟩ B H d v ↔ Rep ⟨K, hdc hd p⟩ B H d v)
  | .none, v, _ => by simp only [Rep]
  | .bool _, v, _ => by simp only [Rep]
  | .int _, v, _ => by simp only [Rep]
  | .str _, v, _ => by simp only [Rep]
  | .list ds, v, h => by
    simp only [Rep]
    have := fun vs => reps_h ds vs (by simpa [noH] using h)
    constructor
    · rintro ⟨a, vs, e, h1, h2, h3⟩
      exact ⟨a, vs, e, h1, h2, (this vs).mp h3⟩
    · rintro ⟨a, vs, e, h1, h2, h3⟩
      exact ⟨a, vs, e, h1, h2, (this vs).mpr h3⟩
  | .tuple ds, v, h => by
    simp only [Rep]
    have := fun vs => reps_h ds vs (by simpa [noH] using h)
    constructor
    · rintro ⟨a, vs, e, h1, h3⟩
      exact ⟨a, vs, e, h1, (this vs).mp h3⟩
    · rintro ⟨a, vs, e, h1, h3⟩
      exact ⟨a, vs, e, h1, (this vs).mpr h3⟩
  | .dict kvs, v, h => by
    simp only [Rep]
    have key : ∀ (n : Nat) (a : Addr), kvs = [(.int (n : Nat), .none)] → (hd n a ↔ hdc hd p n a) := fun n a e => by
      subst e
      have hn : n ≠ 1 := fun z => by
        subst z
        simp [noH] at h
      unfold hdc
      rw [if_neg hn]
    constructor
    · rintro ⟨a, e, ⟨n, e2, h1⟩ | h1⟩
      · exact ⟨a, e, .inl ⟨n, e2, (key n a e2).mp h1⟩⟩
      · exact ⟨a, e, .inr h1⟩
    · rintro ⟨a, e, ⟨n, e2, h1⟩ | h1⟩
      · exact ⟨a, e, .inl ⟨n, e2, (key n a e2).mpr h1⟩⟩
      · exact ⟨a, e, .inr h1⟩
theorem reps_h : ∀ (ds : List D) (vs : List V), noHs ds = true → (Reps ⟨K, hd⟩ B H ds vs ↔ Reps ⟨K, hdc hd p⟩ B H ds vs)
  | [], vs, _ => by simp only [Reps]
  | d :: ds, vs, h => by
    simp only [Reps]
    have h : noH d = true ∧ noHs ds = true := by simpa [noHs] using h
    constructor
    · rintro ⟨v, r, e, h1, h2⟩
      exact ⟨v, r, e, (rep_h d v h.1).mp h1, (reps_h ds r h.2).mp h2⟩
    · rintro ⟨v, r, e, h1, h2⟩
      exact ⟨v, r, e, (rep_h d v h.1).mpr h1, (reps_h ds r h.2).mpr h2⟩
end
end
/-- what is shared, and the dict at p -/
def Zdc {S : Type} (Z : Zk S) (p : Addr) : Zk (S × KV) where
  M := fun a => Z.M a ∨ a = p
  R := fun H s => Z.R H s.1 ∧ H p = some (.dK (kvV s.2)) ∧ ¬ Z.M p
  dom := fun H s a h m => m.elim (Z.dom H s.1 a h.1) fun e => by
    rw [e, h.2.1]
    simp
  loc := fun H H' s h k => ⟨Z.loc H H' s.1 h.1 fun a m => k a (.inl m), (k p (.inr rfl)).trans h.2.1, h.2.2⟩
def fnDk {S : Type} (n i : Nat) (F : Sv (S × KV)) : Fn S := fun ds s => if noHs ds = true then match F ((startR n ds).set i (some (hnd 1))) (s, []) with
  | some (.rt d, s') => if noH d = true then some (d, s'.1) else none
  | some (.nx _, s') => some (.none, s'.1)
  | _ => none else none
section
variable {S : Type} {P : Program} {w : World} {K : PySem.W.Frag} {mg : Str → Option Value} {base : Heap} {hd : Nat → Addr → Prop} {Z : Zk S} {W : List Nat} {F : Sv (S × KV)}
theorem fn_okD {nm qual : Str} {st : Stmt} {fad : Addr} {fd : FuncData} {N ps : List Str} {k n m i : Nat} {x : Str} {px pd pa : Pos} {rest : List Stmt} (U : Fun K nm qual st fad fd) (sc : FnScope N ps (defScope st)) (hn : N.length = n) (hm : ps.length = m) (hmn : m ≤ n) (hW : ∀ i ∈ W, m ≤ i) (hi : W.contains i = false)
    (hbody : defBody st = .Assign [.Name x px] (.Dict [] [] pd) pa :: rest)
    (h0 : ∀ (cdv : Value) (A : Around) (outer : List Env) (s : Shared) (H : Hp) (E : XK), PS (cxOf CX0 P w K mg base N qual (defScope st) fad cdv A outer s H E).nox (.Assign [.Name x px] (.Dict [] [] pd) pa) (tAsg tDNewK (gName i)))
    (hb : ∀ (p : Addr) (cdv : Value) (A : Around) (outer : List Env) (s : Shared) (H : Hp) (E : XK), Room k (A.deeper (envOfC qual (defScope st) s.heap.objs.size fad cdv)) → PSs (cxOf CX0 P w K mg base N qual (defScope st) fad cdv A outer s H E).nox rest (tSt ⟨K, hdc hd p⟩ (Zdc Z p) W F)) :
    FnOk P w K mg base CX0 (k + 1) fad fd ps (spD ⟨K, hd⟩ Z m (fnDk n i F)) := by
  refine U.ok sc (fun vs H Q E h => ?_) (fun cdv A outer s H vs Q E hr h => ?_)
  · obtain ⟨B, ds, s, d, s', h1, _, _, h2, _⟩ := h
    rw [h2.len, h1, hm]
  · rw [hbody]
    refine ⟨_, pss_cons (h0 cdv A outer s H E) (⟨fun pins s' σ H' D I ⟨p, q⟩ => (hb p cdv A outer s H E hr).run pins s' σ H' D I q⟩ : PSs _ rest (fun E σ H => ∃ p, tSt ⟨K, hdc hd p⟩ (Zdc Z p) W F E σ H)), ?_⟩
    obtain ⟨B, ds, s0, d, s', h1, bd, mb, h2, R0, hF, q⟩ := h
    intro p np
    have zp : ¬ Z.M p := fun z => bd p (mb p z) np
    unfold fnDk at hF
    split at hF
    · rename_i hno
      have e1 : (upd H p (.dK [])) p = some (.dK []) := upd_same
      have sm := Lc.same_new (o := .dK []) np
      have bd1 : ∀ a, (B a ∨ a = p) → (upd H p (.dK [])) a ≠ none := fun a z => z.elim (fun z => by
        obtain ⟨o, e⟩ := some_of_ne (bd a z)
        rw [sm a o e]
        simp) fun z => by rw [z, e1]; simp
      have r1 : Reps ⟨K, hdc hd p⟩ (fun a => B a ∨ a = p) (upd H p (.dK [])) ds vs := ((reps_h ds vs hno).mp h2).mv fun a o e nb => ⟨sm a o e, fun z => z.elim nb fun z => by rw [z, np] at e; cases e⟩
      have eo := eo_start (W := W) (Z := Zdc Z p) (N := N) hn bd1 (fun a z => z.imp (mb a) id) r1 (by omega) (by rw [h1]; exact hW)
      have eo2 := eo.set (i := i) (d := hnd 1) (v := .ref p) (by simpa using hi) (by
        unfold hnd
        simp only [Rep]
        exact ⟨p, rfl, .inl ⟨1, rfl, by unfold hdc; rw [if_pos rfl]⟩⟩)
      have R1 : (Zdc Z p).R (upd H p (.dK [])) (s0, []) := ⟨Z.same R0 sm, e1, zp⟩
      have sr : Sr ⟨K, hdc hd p⟩ (Zdc Z p) W (fun a => B a ∨ a = p) (upd H p (.dK [])) (fun _ => False) (upd H p (.dK [])) ((L2.start N vs).set i (some (.ref p))) ((startR n ds).set i (some (hnd 1))) (s0, []) := ⟨eo2, Lc.Fr.refl _, bd1, fun _ z => z.elim, R1⟩
      have frb : ∀ H', Lc.Fr (Zdc Z p).M (upd H p (.dK [])) H' → Lc.Fr Z.M H H' := fun H' f b o e => by
        obtain ⟨o', e2, e3⟩ := f b o (sm b o e)
        refine ⟨o', e2, fun nb => e3 fun z => z.elim nb fun z => ?_⟩
        rw [z, np] at e
        cases e
      split at hF
      · rename_i d' s1 e9
        split at hF
        · rename_i hnd'
          cases hF
          refine ⟨p, fun a => B a ∨ a = p, _, fun _ => False, _, _, .rt d, _, sr, e9, fun v H' f1 r3 R3 => ?_⟩
          exact q v H' (frb H' f1) (((rep_h d v hnd').mpr r3).sub fun a z _ => .inl z) R3.1
        · cases hF
      · rename_i ρ' s1 e9
        cases hF
        refine ⟨p, fun a => B a ∨ a = p, _, fun _ => False, _, _, .nx ρ', _, sr, e9, fun O' σ' H' sr' _ => ?_⟩
        exact q .non H' (frb H' sr'.fr) (by simp only [Rep]) sr'.r.1
      · cases hF
    · cases hF
end
end Dl
set_option Elab.async false
set_option linter.all false
set_option maxRecDepth 100000
set_option maxHeartbeats 4000000
/-! the dict that a def makes: read, stored, sorted -/
namespace Dl
open PySem PySem.Spec PyProof.Rows L2 Ds
theorem Room_units1 {A : Around} {k : Nat} (hr : Room k A) : A.units + 1 < cLine := by have := hr.un; omega
def isH (ρ : Rho) (i : Nat) : Bool := match ρ[i]? with
  | some (some (.dict [(.int 1, .none)])) => true
  | _ => false
section
variable {S : Type}
def cDg2 (i : Nat) (f g : Ev (S × KV)) : Ev (S × KV) := fun ρ s => if isH ρ i = true then bnd (f ρ s) fun k s => bnd (g ρ s) fun z s => match k with
  | .str k => some ((match kvGet s.2 k with | some n => .int n | none => z), s)
  | _ => none else none
def cDi (i : Nat) (f : Ev (S × KV)) : Ev (S × KV) := fun ρ s => if isH ρ i = true then bnd (f ρ s) fun k s => match k with
  | .str k => match kvGet s.2 k with
    | some n => some (.int n, s)
    | none => none
  | _ => none else none
def sDp (i : Nat) (f g : Ev (S × KV)) : Sv (S × KV) := fun ρ s => if isH ρ i = true then bnd (g ρ s) fun v s => bnd (f ρ s) fun k s => match k, v with
  | .str k, .int n => if s.2.length < 1000 then some (.nx ρ, (s.1, kvPut s.2 k n)) else none
  | _, _ => none else none
def aSd (i : Nat) : Ea (S × KV) := fun ρ s => if isH ρ i = true ∧ s.2.length < 64 then some ((sortS (s.2.map (·.1))).map .str, s) else none
variable {X : Cx} {K : PySem.W.Frag} {hd : Nat → Addr → Prop} {p : Addr} {Z : Zk S} {W : List Nat} {f g : Ev (S × KV)} {e e2 : Expr} {x : Str} {px apos cpos pos pos' : Pos} {i : Nat}
theorem isH_at {B O : Bar} {H : Hp} {σ : L2.St} {ρ : Rho} (eo : Eo ⟨K, hdc hd p⟩ (Zdc Z p) W B O H σ ρ) (h : isH ρ i = true) (hi : W.contains i = false) : σ[i]? = some (some (.ref p)) := by
  unfold isH at h
  split at h
  · rename_i e
    obtain ⟨v, h1, h2⟩ := eo.er.pl i _ (by simpa using hi) e
    simp only [Rep] at h2
    obtain ⟨a, rfl, ⟨n, e1, h3⟩ | ⟨e1, _⟩⟩ := h2
    · have : n = 1 := by
        have := e1
        simp at this
        omega
      subst this
      have h3 : a = p := by simpa [hdc] using h3
      rw [h1, h3]
    · cases e1
  · cases h
theorem ex_dg2 (hu : X.A.units + 1 < cLine) (hx : PE X (.Name x px) (tVar i)) (he : PE X e (tEx ⟨K, hdc hd p⟩ (Zdc Z p) W f)) (hf : PE X e2 (tEx ⟨K, hdc hd p⟩ (Zdc Z p) W g)) (m : M2 X (.Name x px) "get" apos e e2 cpos) (hi : W.contains i = false := by rfl) :
    PE X (.Call (.Attribute (.Name x px) "get" apos) [e, e2] [] cpos) (tEx ⟨K, hdc hd p⟩ (Zdc Z p) W (cDg2 i f g)) :=
  imp_pe (pe_dget2 hu hx he hf m) fun σ H Q ⟨B, O, ρ, s, d, s', eo, hR, hF, q⟩ => by
    unfold cDg2 at hF
    split at hF
    · rename_i hh
      obtain ⟨k, s1, h1, hF⟩ := bnd_some hF
      obtain ⟨z, s2, h2, hF⟩ := bnd_some hF
      have hv := isH_at eo hh hi
      refine ⟨.ref p, hv, p, rfl, .inl ⟨_, .inl hR.2.1⟩, B, O, ρ, s, k, s1, eo, hR, h1, fun v1 H1 f1 r1 R1 => ?_⟩
      refine ⟨B, O, ρ, s1, z, s2, eo.fr f1, R1, h2, fun v2 H2 f2 r2 R2 => ?_⟩
      cases k with
      | str k =>
        cases hF
        have r1 := r1.fr f2 fun a z => .inl (eo.mb a z)
        simp only [Rep] at r1
        subst r1
        refine ⟨_, DGet.k (k := Sum.inr k) R2.2.1, ?_⟩
        rw [kv_get]
        cases hk : kvGet s'.2 k with
        | none =>
          rw [hk] at q
          exact q _ H2 (f1.trans f2) r2 R2
        | some n =>
          rw [hk] at q
          exact q _ H2 (f1.trans f2) (by simp only [Rep]; rfl) R2
      | _ => cases hF
    · cases hF
theorem ex_di (hu : X.A.units + 1 < cLine) (hx : PE X (.Name x px) (tVar i)) (he : PE X e (tEx ⟨K, hdc hd p⟩ (Zdc Z p) W f)) (hs : NoSl e) (hi : W.contains i = false := by rfl) :
    PE X (.Subscript (.Name x px) e pos) (tEx ⟨K, hdc hd p⟩ (Zdc Z p) W (cDi i f)) :=
  imp_pe (pe_dget hu hx he hs) fun σ H Q ⟨B, O, ρ, s, d, s', eo, hR, hF, q⟩ => by
    unfold cDi at hF
    split at hF
    · rename_i hh
      obtain ⟨k, s1, h1, hF⟩ := bnd_some hF
      have hv := isH_at eo hh hi
      refine ⟨.ref p, hv, B, O, ρ, s, k, s1, eo, hR, h1, fun v1 H1 f1 r1 R1 => ?_⟩
      split at hF
      · rename_i k
        split at hF
        · rename_i n hn
          cases hF
          simp only [Rep] at r1
          subst r1
          have := DGet.k (k := Sum.inr k) R1.2.1
          rw [kv_get, hn] at this
          exact ⟨p, .int n, rfl, this, q _ H1 f1 (by simp only [Rep]) R1⟩
        · cases hF
      · cases hF
    · cases hF
theorem nl_sortD (hc : X.calm = true) (hg : Gl X "sorted") (hm : X.mg "sorted" = none) (hx : PE X (.Name x px) (tVar i)) (hs : starEach [.Name x px] X.env = (false, eval (.Name x px) X.env) :: starEach [] X.env := by rfl) (hi : W.contains i = false := by rfl) :
    PE X (.Call (.Name "sorted" pos') [.Name x px] [] pos) (tNl ⟨K, hdc hd p⟩ (Zdc Z p) W (aSd i)) :=
  imp_pe (pe_callB (call_sortedD hc) hg hm (by decide +kernel) (pa_cons hx pa_nil hs) (he := hs)) fun σ H Q ⟨B, O, ρ, s, l, s', eo, hR, hF, q⟩ => by
    unfold aSd at hF
    split at hF
    · rename_i hh
      cases hF
      have hv := isH_at eo hh.1 hi
      refine ⟨.ref p, hv, p, _, s.2.map (·.1), rfl, .inl hR.2.1, ?_, by rw [List.length_map]; exact hh.2, fun ys p2 hp hso np => ?_⟩
      · unfold kvV
        rw [List.map_map, List.map_map]
        rfl
      · have e := sortS_eq hp hso
        subst e
        exact q p2 _ _ np (Lc.Fr.new np) upd_same reps_strs ((Zdc Z p).same hR (Lc.same_new np))
    · cases hF
theorem es_dput {value : Expr} (hu : X.A.units + 1 < cLine) (hx : PE X (.Name x px) (tVar i)) (he : PE X e (tEx ⟨K, hdc hd p⟩ (Zdc Z p) W f)) (hv : PE X value (tEx ⟨K, hdc hd p⟩ (Zdc Z p) W g)) (hs : swapsWith value (some (.Subscript (.Name x px) e pos')) pos.line X.env = pure false := by rfl) (hi : W.contains i = false := by rfl) :
    PS X (.Assign [.Subscript (.Name x px) e pos'] value pos) (tSt ⟨K, hdc hd p⟩ (Zdc Z p) W (sDp i f g)) :=
  imp_ps (ps_dput hu hx he hv hs) fun E σ H ⟨B, H0, O, ρ, s, r, s', sr, hF, q⟩ => by
    unfold sDp at hF
    split at hF
    · rename_i hh
      obtain ⟨v, s1, h1, hF⟩ := bnd_some hF
      obtain ⟨k, s2, h2, hF⟩ := bnd_some hF
      refine ⟨B, O, ρ, s, v, s1, sr.eo, sr.r, h1, fun v1 H1 f1 r1 R1 => ?_⟩
      have eo1 := sr.eo.fr f1
      refine ⟨.ref p, isH_at eo1 hh hi, B, O, ρ, s1, k, s2, eo1, R1, h2, fun v2 H2 f2 r2 R2 => ?_⟩
      split at hF
      case _ k n _ =>
        split at hF
        · rename_i hl
          cases hF
          have r1 := r1.fr f2 fun a z => .inl (sr.eo.mb a z)
          simp only [Rep] at r1 r2
          subst r1 r2
          refine ⟨p, _, rfl, DPut.k (k := Sum.inr _) R2.2.1 (by unfold kvV; rw [List.length_map]; exact Nat.lt_of_lt_of_le hl (by decide)), ?_⟩
          rw [kv_put]
          have f3 : Lc.Fr (Zdc Z p).M H (upd H2 p (.dK (kvV (kvPut s2.2 k n)))) := (f1.trans f2).trans (Lc.Fr.mut (.inr rfl))
          have R3 : (Zdc Z p).R (upd H2 p (.dK (kvV (kvPut s2.2 k n)))) (s2.1, kvPut s2.2 k n) := by
            refine ⟨Z.loc H2 _ s2.1 R2.1 fun a m => ?_, upd_same, R2.2.2⟩
            rw [upd_ne]
            intro z
            exact R2.2.2 (z ▸ m)
          exact q O σ _ (sr.step f3 R3) (Ch.of f3)
        · cases hF
      case _ => cases hF
    · cases hF
end
end Dl
set_option Elab.async false
set_option linter.all false
set_option maxRecDepth 100000
set_option maxHeartbeats 4000000
/-! equations for simp: expressions -/
namespace Dl
open PySem PySem.Spec PyProof.Rows L2
section
variable {S : Type} {ρ : Rho} {s : S} {f g h : Ev S} {fa : Ea S} {Q : D → S → Prop} {QL : List D → S → Prop} {QB : Bool → S → Prop}
theorem ok_V0 {d : D} : Ok (cVar 0 (some d :: ρ) s) Q ↔ Q d s := by simp [cVar]
theorem ok_Vs {i : Nat} {x : Option D} : Ok (cVar (i + 1) (x :: ρ) s) Q ↔ Ok (cVar i ρ s) Q := by simp [cVar]
theorem ok_K {d : D} : Ok (cK d ρ s) Q ↔ Q d s := by simp [cK]
theorem ok_B {p : D → D → Option D} : Ok (cB p f g ρ s) Q ↔ Ok (f ρ s) fun x s => Ok (g ρ s) fun y s => ∃ z, p x y = some z ∧ Q z s := by simp only [cB, ok_bnd, ok_put]
theorem ok_U {p : D → Option D} : Ok (cU p f ρ s) Q ↔ Ok (f ρ s) fun x s => ∃ z, p x = some z ∧ Q z s := by simp only [cU, ok_bnd, ok_put]
theorem ok_nil : Ok (aNil ρ s) QL ↔ QL [] s := by simp [aNil]
theorem ok_cons : Ok (aCons f fa ρ s) QL ↔ Ok (f ρ s) fun x s => Ok (fa ρ s) fun xs s => QL (x :: xs) s := by simp only [aCons, ok_bnd, ok_some]
theorem ok_N {p : List D → Option D} : Ok (cN p fa ρ s) Q ↔ Ok (fa ρ s) fun xs s => ∃ z, p xs = some z ∧ Q z s := by simp only [cN, ok_bnd, ok_put]
theorem ok_aN {p : List D → Option (List D)} : Ok (aN p fa ρ s) QL ↔ Ok (fa ρ s) fun xs s => ∃ z, p xs = some z ∧ QL z s := by simp only [aN, ok_bnd, ok_put]
theorem ok_call {n : Nat} {F : Fn S} : Ok (cCall n F fa ρ s) Q ↔ Ok (fa ρ s) fun xs s => xs.length = n ∧ Ok (F xs s) Q := by
  simp only [cCall, ok_bnd]
  constructor
  · intro h
    refine h.imp fun x s h => ?_
    split at h
    · exact ⟨by assumption, h⟩
    · exact (ok_none.mp h).elim
  · intro h
    exact h.imp fun x s h => by rw [if_pos h.1]; exact h.2
theorem ok_nl : Ok (cNl fa ρ s) Q ↔ Ok (fa ρ s) fun xs s => Q (.list xs) s := by simp only [cNl, ok_bnd, ok_some]
theorem ok_fl : Ok (cFl f ρ s) Q ↔ Ok (f ρ s) fun x s => flatD x = true ∧ Q x s := by
  simp only [cFl, ok_bnd]
  constructor
  · intro h
    refine h.imp fun x s h => ?_
    split at h
    · exact ⟨by assumption, ok_some.mp h⟩
    · exact (ok_none.mp h).elim
  · intro h
    exact h.imp fun x s h => by rw [if_pos h.1]; exact ok_some.mpr h.2
theorem ok_afl : Ok (aFl fa ρ s) QL ↔ Ok (fa ρ s) fun x s => flatDs x = true ∧ QL x s := by
  simp only [aFl, ok_bnd]
  constructor
  · intro h
    refine h.imp fun x s h => ?_
    split at h
    · exact ⟨by assumption, ok_some.mp h⟩
    · exact (ok_none.mp h).elim
  · intro h
    exact h.imp fun x s h => by rw [if_pos h.1]; exact ok_some.mpr h.2
theorem ok_T : Ok (qT f ρ s) QB ↔ Ok (f ρ s) fun x s => ∃ b, truth x = some b ∧ QB b s := by simp only [qT, ok_bnd, ok_put]
theorem ok_qNot {q : Et S} : Ok (qNot q ρ s) QB ↔ Ok (q ρ s) fun b s => QB (!b) s := by simp only [qNot, ok_bnd, ok_some]
theorem ok_if2 {α : Type} {b : Bool} {x y : Option (α × S)} {R : α → S → Prop} : Ok (if b = true then x else y) R ↔ if b = true then Ok x R else Ok y R := by cases b <;> simp
theorem ok_qAnd {q r : Et S} : Ok (qAnd q r ρ s) QB ↔ Ok (q ρ s) fun b s => if b = true then Ok (r ρ s) QB else QB false s := by simp only [qAnd, ok_bnd, ok_if2, ok_some]
theorem ok_qOr {q r : Et S} : Ok (qOr q r ρ s) QB ↔ Ok (q ρ s) fun b s => if b = true then QB true s else Ok (r ρ s) QB := by simp only [qOr, ok_bnd, ok_if2, ok_some]
theorem ok_and : Ok (cAnd f g ρ s) Q ↔ Ok (f ρ s) fun x s => ∃ b, truth x = some b ∧ if b = true then Ok (g ρ s) Q else Q x s := by simp only [cAnd, ok_bnd, ok_put, ok_if2, ok_some]
theorem ok_or : Ok (cOr f g ρ s) Q ↔ Ok (f ρ s) fun x s => ∃ b, truth x = some b ∧ if b = true then Q x s else Ok (g ρ s) Q := by simp only [cOr, ok_bnd, ok_put, ok_if2, ok_some]
theorem ok_not : Ok (cNot f ρ s) Q ↔ Ok (f ρ s) fun x s => ∃ b, truth x = some b ∧ Q (.bool (!b)) s := by simp only [cNot, ok_bnd, ok_put, ok_some]
theorem ok_if {q : Et S} : Ok (cIf q f g ρ s) Q ↔ Ok (q ρ s) fun b s => if b = true then Ok (f ρ s) Q else Ok (g ρ s) Q := by simp only [cIf, ok_bnd, ok_if2]
theorem ok_Sl {p : D → Option Int → Option Int → Option D} {l h : Eo' S} : Ok (cSl p f l h ρ s) Q ↔ Ok (f ρ s) fun x s => Ok (l ρ s) fun lo s => Ok (h ρ s) fun hi s => ∃ z, p x lo hi = some z ∧ Q z s := by simp only [cSl, ok_bnd, ok_put]
theorem ok_oNo {QO : Option Int → S → Prop} : Ok (oNo ρ s) QO ↔ QO none s := by simp [oNo]
theorem ok_oOf {QO : Option Int → S → Prop} : Ok (oOf f ρ s) QO ↔ Ok (f ρ s) fun x s => ∃ i, asI x = some i ∧ QO (some i) s := by
  simp only [oOf, ok_bnd, ok_put]
  constructor
  · intro h
    refine h.imp fun x s h => ?_
    obtain ⟨a, h1, h2⟩ := h
    rw [Option.map_eq_some_iff] at h1
    obtain ⟨i, h3, rfl⟩ := h1
    exact ⟨i, h3, h2⟩
  · intro h
    refine h.imp fun x s h => ?_
    obtain ⟨i, h1, h2⟩ := h
    exact ⟨some i, by rw [h1]; rfl, h2⟩
theorem ok_Ch {p q : D → D → Option D} : Ok (cCh p q f g h ρ s) Q ↔ Ok (f ρ s) fun x s => Ok (g ρ s) fun y s => ∃ z, p x y = some z ∧ ∃ b, asB z = some b ∧ if b = true then Ok (h ρ s) fun w s => ∃ z, q y w = some z ∧ Q z s else Q (.bool false) s := by
  simp only [cCh, ok_bnd, ok_put, ok_if2, ok_some]
theorem ok_it {p : D → Option (List D)} : Ok (iOf p f ρ s) QL ↔ Ok (f ρ s) fun x s => ∃ z, p x = some z ∧ QL z s := by simp only [iOf, ok_bnd, ok_put]
theorem ok_itA {p : List D → Option (List D)} : Ok (iOfA p fa ρ s) QL ↔ Ok (fa ρ s) fun x s => ∃ z, p x = some z ∧ QL z s := by simp only [iOfA, ok_bnd, ok_put]
theorem ok_yes : Ok (qYes ρ s) QB ↔ QB true s := by simp [qYes]
end
/-! what the operators come to -/
section
variable {i j : Int} {a b : Str} {x y : D} {ds es : List D}
theorem v_addI : pAdd (.int i) (.int j) = some (.int (i + j)) := rfl
theorem v_addS (h : a.length + b.length ≤ sizeLine) : pAdd (.str a) (.str b) = some (.str (a ++ b)) := by simp only [pAdd]; rw [if_pos h]
theorem v_addL (h : ds.length + es.length ≤ sizeLine) : pAdd (.list ds) (.list es) = some (.list (ds ++ es)) := by simp only [pAdd]; rw [if_pos h]
theorem v_addT (h : ds.length + es.length ≤ sizeLine) : pAdd (.tuple ds) (.tuple es) = some (.tuple (ds ++ es)) := by simp only [pAdd]; rw [if_pos h]
theorem v_sub : pSub (.int i) (.int j) = some (.int (i - j)) := rfl
theorem v_neg : pNeg (.int i) = some (.int (-i)) := rfl
theorem v_mod (h : 0 < j) : pMod (.int i) (.int j) = some (.int (i % j)) := by simp only [pMod, pI]; rw [if_pos (decide_eq_true h)]
theorem v_eqI : pEq (.int i) (.int j) = some (.bool (decide (i = j))) := rfl
theorem v_eqS : pEq (.str a) (.str b) = some (.bool (decide (a = b))) := rfl
theorem v_eqB {p q : Bool} : pEq (.bool p) (.bool q) = some (.bool (decide (p = q))) := rfl
theorem v_eq0 : pEq (.list ds) (.list []) = some (.bool ds.isEmpty) := rfl
theorem v_eqT0 : pEq (.tuple ds) (.tuple []) = some (.bool ds.isEmpty) := rfl
theorem v_eqD (hx : SeqAt.shaped (.tuple ds) = true) (hy : SeqAt.shaped (.tuple es) = true) : pEq (.tuple ds) (.tuple es) = some (.bool (PyData.eqv (.tuple ds) (.tuple es))) := by
  cases es with
  | nil => cases ds <;> rfl
  | cons e es => simp only [pEq]; rw [if_pos ⟨hx, hy⟩]
theorem v_neI : pNe (.int i) (.int j) = some (.bool (!decide (i = j))) := rfl
theorem v_neS : pNe (.str a) (.str b) = some (.bool (!decide (a = b))) := rfl
theorem v_neB {p q : Bool} : pNe (.bool p) (.bool q) = some (.bool (!decide (p = q))) := rfl
theorem v_ne0 : pNe (.list ds) (.list []) = some (.bool (!ds.isEmpty)) := rfl
theorem v_neT0 : pNe (.tuple ds) (.tuple []) = some (.bool (!ds.isEmpty)) := rfl
theorem v_neD (hx : SeqAt.shaped (.tuple ds) = true) (hy : SeqAt.shaped (.tuple es) = true) : pNe (.tuple ds) (.tuple es) = some (.bool (!PyData.eqv (.tuple ds) (.tuple es))) := by
  unfold pNe
  rw [v_eqD hx hy]
theorem v_ltI : pLt (.int i) (.int j) = some (.bool (decide (i < j))) := rfl
theorem v_leI : pLe (.int i) (.int j) = some (.bool (decide (i ≤ j))) := rfl
theorem v_gtI : pGt (.int i) (.int j) = some (.bool (decide (j < i))) := rfl
theorem v_geI : pGe (.int i) (.int j) = some (.bool (decide (j ≤ i))) := rfl
theorem v_is : pIs x .none = some (.bool (nonD x)) := rfl
theorem v_isNot : pIsNot x .none = some (.bool (!nonD x)) := rfl
theorem v_nn : nonD .none = true := rfl
theorem v_ns : nonD (.str a) = false := rfl
theorem v_ni : nonD (.int i) = false := rfl
theorem v_nl : nonD (.list ds) = false := rfl
theorem v_nt : nonD (.tuple ds) = false := rfl
theorem v_tb {p : Bool} : truth (.bool p) = some p := rfl
theorem v_tl : truth (.list ds) = some (!ds.isEmpty) := rfl
theorem v_tt : truth (.tuple ds) = some (!ds.isEmpty) := rfl
theorem v_tn : truth .none = some false := rfl
theorem v_ti : truth (.int i) = some (i != 0) := rfl
theorem v_asB {p : Bool} : asB (.bool p) = some p := rfl
theorem v_asI : asI (.int i) = some i := rfl
theorem v_asL : asL (.list ds) = some ds := rfl
theorem v_asT : asT (.tuple ds) = some ds := rfl
theorem v_asS : asS (.str a) = some (a.cps.toList.map fun c => .str ⟨#[c]⟩) := rfl
theorem v_lenL : pLen [.list ds] = some (.int ds.length) := rfl
theorem v_lenT : pLen [.tuple ds] = some (.int ds.length) := rfl
theorem v_lenS (h : a.length ≤ sizeLine) : pLen [.str a] = some (.int a.length) := by simp only [pLen]; rw [if_pos h]
theorem v_tupL : pTuple [.list ds] = some (.tuple ds) := rfl
theorem v_tupT : pTuple [.tuple ds] = some (.tuple ds) := rfl
theorem v_listL : pList [.list ds] = some ds := rfl
theorem v_listT : pList [.tuple ds] = some ds := rfl
theorem v_intB {p : Bool} : pInt [.bool p] = some (.int (if p then 1 else 0)) := rfl
theorem v_tup (h : ds.length ≤ sizeLine) : pTup ds = some (.tuple ds) := by simp only [pTup]; rw [if_pos h]
theorem v_lst (h : ds.length ≤ sizeLine) : pLst ds = some (.list ds) := by simp only [pLst]; rw [if_pos h]
theorem v_lenOk (h : ds.length ≤ sizeLine) : lenOk ds = some ds := by simp only [lenOk]; rw [if_pos h]
theorem v_tup0 : pTup [] = some (.tuple []) := rfl
theorem v_tup1 {a : D} : pTup [a] = some (.tuple [a]) := rfl
theorem v_tup2 {a b : D} : pTup [a, b] = some (.tuple [a, b]) := rfl
theorem v_tup3 {a b c : D} : pTup [a, b, c] = some (.tuple [a, b, c]) := rfl
theorem v_tup4 {a b c d : D} : pTup [a, b, c, d] = some (.tuple [a, b, c, d]) := rfl
theorem v_tup5 {a b c d e : D} : pTup [a, b, c, d, e] = some (.tuple [a, b, c, d, e]) := rfl
theorem v_lst0 : pLst [] = some (.list []) := rfl
theorem v_lst1 {a : D} : pLst [a] = some (.list [a]) := rfl
theorem v_lst2 {a b : D} : pLst [a, b] = some (.list [a, b]) := rfl
theorem v_lst3 {a b c : D} : pLst [a, b, c] = some (.list [a, b, c]) := rfl
theorem v_lst4 {a b c d : D} : pLst [a, b, c, d] = some (.list [a, b, c, d]) := rfl
theorem v_lst5 {a b c d e : D} : pLst [a, b, c, d, e] = some (.list [a, b, c, d, e]) := rfl
theorem v_ok0 : lenOk [] = some [] := rfl
theorem v_ok1 {a : D} : lenOk [a] = some [a] := rfl
theorem v_ok2 {a b : D} : lenOk [a, b] = some [a, b] := rfl
theorem v_ix0L {d : D} : pIx (.list (d :: ds)) (.int 0) = some d := by simp only [pIx]; exact atI_nat (j := 0) rfl
theorem v_ix0 {d : D} : pIx (.tuple (d :: ds)) (.int 0) = some d := by simp only [pIx]; exact atI_nat (j := 0) rfl
theorem v_ix1 {c d : D} : pIx (.tuple (c :: d :: ds)) (.int 1) = some d := by simp only [pIx]; exact atI_nat (j := 1) rfl
theorem v_ix2 {b c d : D} : pIx (.tuple (b :: c :: d :: ds)) (.int 2) = some d := by simp only [pIx]; exact atI_nat (j := 2) rfl
theorem v_ix3 {a b c d : D} : pIx (.tuple (a :: b :: c :: d :: ds)) (.int 3) = some d := by simp only [pIx]; exact atI_nat (j := 3) rfl
theorem v_fs : flatD (.str a) = true := rfl
theorem v_fi : flatD (.int i) = true := rfl
theorem v_fb {p : Bool} : flatD (.bool p) = true := rfl
theorem v_fn : flatD .none = true := rfl
theorem v_ft : flatD (.tuple ds) = flatDs ds := rfl
theorem v_f0 : flatDs [] = true := rfl
theorem v_fc : flatDs (x :: ds) = (flatD x && flatDs ds) := rfl
end
end Dl
set_option Elab.async false
set_option linter.all false
set_option maxRecDepth 100000
set_option maxHeartbeats 4000000
namespace Lw41
open PySem PySem.Spec PyProof.Rows L2 Dl
-- sum_of: slots totals 0, times 1, number 2, parts 3, more 4, kind 5, often 6; cells times
def B_sum_of {S : Type} : Sv (S × KV) :=
    (sSeq (sSet 2 (cK (.int 0)))
    (sSeq (sFor (iOf asT (cVar 0)) (gTp (gC (gNm 3) (gC (gNm 4) gN0)))
    (sSeq (sAug 2 (pI0 fun i j => .int (i + j)) (cVar 4))
      (sFor (iOf asT (cVar 3)) (gTp (gC (gNm 5) (gC (gNm 6) gN0)))
      (sDp 1 (cVar 5) (cB pAdd (cDg2 1 (cVar 5) (cK (.int 0))) (cVar 6))))))
    (sRet (cN pTup (aCons (cN pTuple (aCons (cNl (lcF (iOf asL (cNl (aSd 1))) (gNm 5) qYes (cN pTup (aCons (cVar 5) (aCons (cDi 1 (cVar 5)) aNil))) [5])) aNil)) (aCons (cVar 2) aNil))))))
def K_sum_of {S : Type} : Fn S := fnDk 7 1 B_sum_of

-- _law_word: slots _law_deck_here 0, _law_least 1, _law_most 2, _law_letters 3, _law_word_here 4, _law_k 5
def B_w_word {S : Type} (F_w_draw : Fn S) : Sv S :=
    (sSeq (sSet 3 (cK (.str "abcdefghijklmnopqrstuvwxyz")))
    (sSeq (sSet 4 (cK (.str "")))
    (sSeq (sFor (iOfA pR1 (aCons (cB pAdd (cVar 1) (cCall 2 F_w_draw (aCons (cVar 0) (aCons (cB pAdd (cB pSub (cVar 2) (cVar 1)) (cK (.int 1))) aNil)))) aNil)) (gNm 5)
    (sSet 4 (cB pAdd (cVar 4) (cB pIx (cVar 3) (cCall 2 F_w_draw (aCons (cVar 0) (aCons (cK (.int 26)) aNil)))))))
    (sRet (cVar 4)))))
def K_w_word {S : Type} (F_w_draw : Fn S) : Fn S := fnD 6 (B_w_word F_w_draw)

-- _law_kinds: slots _law_deck_here 0, _law_many 1, _law_taken 2, _law_kinds_here 3, _law_k 4, _law_word_here 5, _law_way 6, _law_at 7, _law_one 8, _law_sign 9; cells _law_kinds_here; own [3]
def B_w_kinds {S : Type} (F_w_word : Fn S) (F_w_draw : Fn S) : Sv S :=
    (sSeq (sSet 2 (cK (.str "absurd all an and any are as at be by false if is least many more no not only or same some than")))
    (sSeq (sSet 2 (cNl (aSplit (cB pAdd (cVar 2) (cK (.str " the then there every either unless"))) (cK (.str " ")))))
    (sSeq (sOwn 3 (aN lenOk aNil))
    (sSeq (sFor (iOfA pR1 (aCons (cVar 1) aNil)) (gNm 4)
    (sSeq (sSet 5 (cCall 3 F_w_word (aCons (cVar 0) (aCons (cK (.int 2)) (aCons (cK (.int 8)) aNil)))))
      (sSeq (sSet 6 (cCall 2 F_w_draw (aCons (cVar 0) (aCons (cK (.int 3)) aNil))))
      (sSeq (sIf (qAnd (qT (cB pEq (cVar 6) (cK (.int 1)))) (qT (cB pNe (cVar 3) (cN pLst aNil))))
      (sSet 5 (cFl (cSl pSl (cB pAdd (cB pIx (cVar 3) (cK (.int 0))) (cVar 5)) oNo (oOf (cK (.int 8))))))
      sNx)
      (sSeq (sIf (qAnd (qT (cB pEq (cVar 6) (cK (.int 2)))) (qT (cB pNe (cVar 3) (cN pLst aNil))))
      (sSeq (sSet 7 (cFl (cCall 2 F_w_draw (aCons (cVar 0) (aCons (cN pLen (aCons (cB pIx (cVar 3) (cK (.int 0))) aNil)) aNil)))))
        (sSet 5 (cFl (cB pAdd (cB pAdd (cSl pSl (cB pIx (cVar 3) (cK (.int 0))) oNo (oOf (cVar 7))) (cB pIx (cVar 5) (cK (.int 0)))) (cSl pSl (cB pIx (cVar 3) (cK (.int 0))) (oOf (cB pAdd (cVar 7) (cK (.int 1)))) oNo)))))
      sNx)
      (sSeq (sIf (qOr (qT (cB pIn (cVar 5) (cVar 2))) (qT (cB pIn (cVar 5) (cVar 3))))
      (sSet 5 (cFl (cB pIx (cNl (lcF (iOf asL (cNl (lcF (iOf asS (cK (.str "abcdefghijklmnopqrst"))) (gNm 9) qYes (cB pAdd (cK (.str "q")) (cVar 9)) [9]))) (gNm 8) (qT (cB pNotIn (cVar 8) (cVar 3))) (cVar 8) [8])) (cK (.int 0)))))
      sNx)
      (sApp 3 (cVar 5))))))))
    (sRet (cVar 3))))))
def K_w_kinds {S : Type} (F_w_word : Fn S) (F_w_draw : Fn S) : Fn S := fnD 10 (B_w_kinds F_w_word F_w_draw)

-- _law_times: slots _law_deck_here 0
def B_w_times {S : Type} (F_w_draw : Fn S) : Sv S :=
    (sRet (cB pAdd (cK (.int 1)) (cCall 2 F_w_draw (aCons (cVar 0) (aCons (cB pIx (cN pLst (aCons (cK (.int 3)) (aCons (cB pPow (cK (.int 10)) (cK (.int 8))) aNil))) (cCall 2 F_w_draw (aCons (cVar 0) (aCons (cK (.int 2)) aNil)))) aNil)))))
def K_w_times {S : Type} (F_w_draw : Fn S) : Fn S := fnD 1 (B_w_times F_w_draw)

-- _law_sum: slots _law_deck_here 0, _law_kinds_here 1, _law_parts 2, _law_kind 3; own [2]
def B_w_sum {S : Type} (F_w_draw : Fn S) (F_w_times : Fn S) : Sv S :=
    (sSeq (sOwn 2 (aN lenOk aNil))
    (sSeq (sFor (iOf asL (cNl (aN pSorted (aCons (cVar 1) aNil)))) (gNm 3)
    (sIf (qT (cB pEq (cCall 2 F_w_draw (aCons (cVar 0) (aCons (cK (.int 2)) aNil))) (cK (.int 1))))
      (sApp 2 (cN pTup (aCons (cVar 3) (aCons (cCall 1 F_w_times (aCons (cVar 0) aNil)) aNil))))
      sNx))
    (sRet (cN pTup (aCons (cN pTuple (aCons (cVar 2) aNil)) (aCons (cCall 2 F_w_draw (aCons (cVar 0) (aCons (cB pIx (cN pLst (aCons (cK (.int 4)) (aCons (cB pPow (cK (.int 10)) (cK (.int 8))) aNil))) (cCall 2 F_w_draw (aCons (cVar 0) (aCons (cK (.int 2)) aNil)))) aNil))) aNil))))))
def K_w_sum {S : Type} (F_w_draw : Fn S) (F_w_times : Fn S) : Fn S := fnD 4 (B_w_sum F_w_draw F_w_times)

-- _law_whole: slots _law_found 0
def B_w_whole {S : Type}  : Sv S :=
    (sRet (cAnd (cU (pIsi "int") (cVar 0)) (cNot (cU (pIsi "bool") (cVar 0)))))
def K_w_whole {S : Type}  : Fn S := fnD 1 (B_w_whole )

-- _law_is_sum: slots _law_found 0, _law_part 1, _law_kind 2, _law_times_here 3
def B_w_is_sum {S : Type} (F_w_whole : Fn S) : Sv S :=
    (sSeq (sIf (qOr (qNot (qT (cU (pIsi "tuple") (cVar 0)))) (qOr (qT (cB pNe (cN pLen (aCons (cVar 0) aNil)) (cK (.int 2)))) (qOr (qNot (qT (cU (pIsi "tuple") (cB pIx (cVar 0) (cK (.int 0)))))) (qNot (qT (cCall 1 F_w_whole (aCons (cB pIx (cVar 0) (cK (.int 1))) aNil)))))))
    (sRet (cK (.bool false)))
    sNx)
    (sSeq (sFor (iOf asT (cB pIx (cVar 0) (cK (.int 0)))) (gNm 1)
    (sIf (qOr (qNot (qT (cU (pIsi "tuple") (cVar 1)))) (qOr (qT (cB pNe (cN pLen (aCons (cVar 1) aNil)) (cK (.int 2)))) (qOr (qNot (qT (cU (pIsi "str") (cB pIx (cVar 1) (cK (.int 0)))))) (qNot (qT (cCall 1 F_w_whole (aCons (cB pIx (cVar 1) (cK (.int 1))) aNil)))))))
      (sRet (cK (.bool false)))
      sNx))
    (sRet (cB pEq (cNl (lcF (iOf asT (cB pIx (cVar 0) (cK (.int 0)))) (gTp (gC (gNm 2) (gC (gNm 3) gN0))) qYes (cVar 2) [2, 3])) (cNl (aSortX (xSet (cNl (lcF (iOf asT (cB pIx (cVar 0) (cK (.int 0)))) (gTp (gC (gNm 2) (gC (gNm 3) gN0))) qYes (cVar 2) [2, 3])))))))))
def K_w_is_sum {S : Type} (F_w_whole : Fn S) : Fn S := fnD 4 (B_w_is_sum F_w_whole)

-- _law_of: slots _law_total 0, _law_kind 1, _law_one 2, _law_times_here 3; cells _law_kind
def B_w_of {S : Type}  : Sv S :=
    (sRet (cN pSum (aCons (cNl (lcF (iOf asT (cB pIx (cVar 0) (cK (.int 0)))) (gTp (gC (gNm 2) (gC (gNm 3) gN0))) (qT (cB pEq (cVar 2) (cVar 1))) (cVar 3) [2, 3])) aNil)))
def K_w_of {S : Type}  : Fn S := fnD 4 (B_w_of )

-- _law_right: slots _law_found 0, _law_totals 1, _law_kinds_here 2, _law_kind 3, _law_total 4, _law_part 5; cells _law_kind, _law_kinds_here
def B_w_right {S : Type} (F_w_is_sum : Fn S) (F_w_of : Fn S) : Sv S :=
    (sSeq (sIf (qOr (qNot (qT (cCall 1 F_w_is_sum (aCons (cVar 0) aNil)))) (qT (cB pNe (cB pIx (cVar 0) (cK (.int 1))) (cN pSum (aCons (cNl (lcF (iOf asT (cVar 1)) (gNm 4) qYes (cB pIx (cVar 4) (cK (.int 1))) [4])) aNil)))))
    (sRet (cK (.bool false)))
    sNx)
    (sSeq (sIf (qT (cB pNe (cNl (lcF (iOf asT (cB pIx (cVar 0) (cK (.int 0)))) (gNm 5) (qOr (qT (cB pLt (cB pIx (cVar 5) (cK (.int 1))) (cK (.int 1)))) (qT (cB pNotIn (cB pIx (cVar 5) (cK (.int 0))) (cVar 2)))) (cVar 5) [5])) (cN pLst aNil)))
    (sRet (cK (.bool false)))
    sNx)
    (sSeq (sFor (iOf asL (cVar 2)) (gNm 3)
    (sIf (qT (cB pNe (cCall 2 F_w_of (aCons (cVar 0) (aCons (cVar 3) aNil))) (cN pSum (aCons (cNl (lcF (iOf asT (cVar 1)) (gNm 4) qYes (cCall 2 F_w_of (aCons (cVar 4) (aCons (cVar 3) aNil))) [4])) aNil))))
      (sRet (cK (.bool false)))
      sNx))
    (sRet (cK (.bool true))))))
def K_w_right {S : Type} (F_w_is_sum : Fn S) (F_w_of : Fn S) : Fn S := fnD 6 (B_w_right F_w_is_sum F_w_of)

end Lw41
namespace K41
open PySem
def topS (i : Nat) : Stmt := PySem.Challenge.pw_linecourt_k41_sums_together.main.body.getD i (.Pass ⟨0, 0, 0, 0⟩)
end K41
set_option Elab.async false
set_option linter.all false
set_option maxRecDepth 100000
set_option maxHeartbeats 4000000
namespace K41
open PySem PySem.Spec PyProof.Rows L2 Dl Lw41
section
variable {P : Program} {w : World} {K : PySem.W.Frag} {mg : Str → Option Value} {base : Heap} {f : Addr} {fd : FuncData}
-- sum_of: slots totals 0, times 1, number 2, parts 3, more 4, kind 5, often 6; cells times
abbrev s_sum_of : Stmt := topS 1
abbrev N_sum_of : List Str := ["totals", "times", "number", "parts", "more", "kind", "often"]
theorem sc_sum_of : FnScope N_sum_of ["totals"] (defScope s_sum_of) := ⟨rfl, rfl, rfl, by decide +kernel, rfl, by decide +kernel, by decide +kernel⟩
theorem P_sum_of {S : Type} {Z : Zk S} {hd : Nat → Addr → Prop} {k : Nat} (U : Fun K "sum_of" "sum_of" s_sum_of f fd) (m_tuple : mg "tuple" = none) (m_sorted : mg "sorted" = none) :
    FnOk P w K mg base CX0 (k + 1) f fd ["totals"] (spD ⟨K, hd⟩ Z 1 K_sum_of) :=
  fn_okD (W := []) (i := 1) (F := B_sum_of) U sc_sum_of rfl rfl (by decide) (by decide) rfl rfl (fun cdv A outer s H E => ps_set sc_sum_of.nd rfl (.inr rfl) pe_dnewK) fun p cdv A outer s H E hr => by
    unfold B_sum_of
    exact (es_cons (es_set (i := 2) sc_sum_of.nd rfl (.inl rfl) ex_int)
    (es_cons (es_for PassesOwn.never rfl (ei_tup (ex_var 0)) (eg_tup rfl (egs_cons (eg_name (i := 3) sc_sum_of.nd rfl (.inl rfl)) (egs_cons (eg_name (i := 4) sc_sum_of.nd rfl (.inl rfl)) egs_nil)) (fun _ _ _ h => glC (fun _ _ _ h => glC (fun _ _ _ h => gl0 h) h) h))
    (es_cons (es_aug (ps_aug (i := 2) sc_sum_of.nd rfl (.inl rfl) (ex_var 4) ip_add) os_ip)
      (es_one (es_for PassesOwn.never rfl (ei_tup (ex_var 3)) (eg_tup rfl (egs_cons (eg_name (i := 5) sc_sum_of.nd rfl (.inl rfl)) (egs_cons (eg_name (i := 6) sc_sum_of.nd rfl (.inl rfl)) egs_nil)) (fun _ _ _ h => glC (fun _ _ _ h => glC (fun _ _ _ h => gl0 h) h) h))
      (es_one (es_dput (Room_units1 hr) (pv 1) (ex_var 5) (ex_bin od_add os_add (ex_dg2 (Room_units1 hr) (pv 1) (ex_var 5) ex_int ⟨rfl, rfl, rfl, rfl⟩) (ex_var 6))))))))
    (es_one (es_ret (ex_tup (ea_cons (ex_callTy od_tuple os_tuple (by rfl) m_tuple (by decide +kernel) (ea_cons (ex_nl (nl_lc (own := [("kind", 5)]) (tt := tYes) rfl sc_sum_of.nd (ei_list (ex_nl (nl_sortD rfl (by rfl) m_sorted (pv 1)))) (blkOk_by (N := N_sum_of) (sc := defScope s_sum_of) (by decide +kernel)) (fun _ _ _ _ _ => (eg_name (i := 5) sc_sum_of.nd rfl (.inl rfl))) (fun _ _ _ _ _ => pts_nil) (fun _ _ _ h => yes_of h) (fun _ _ _ _ _ => (ex_tup (ea_cons (ex_var 5) (ea_cons (ex_di (Room_units1 hr) (pv 1) (ex_var 5) (fun _ _ => rfl)) ea_nil)))))) ea_nil)) (ea_cons (ex_var 2) ea_nil)))))))

-- _law_word: slots _law_deck_here 0, _law_least 1, _law_most 2, _law_letters 3, _law_word_here 4, _law_k 5
abbrev s_w_word : Stmt := topS 6
abbrev N_w_word : List Str := ["_law_deck_here", "_law_least", "_law_most", "_law_letters", "_law_word_here", "_law_k"]
theorem sc_w_word : FnScope N_w_word ["_law_deck_here", "_law_least", "_law_most"] (defScope s_w_word) := ⟨rfl, rfl, rfl, by decide +kernel, rfl, by decide +kernel, by decide +kernel⟩
theorem P_w_word {S : Type} {Z : Zk S} {hd : Nat → Addr → Prop} {k : Nat} (U : Fun K "_law_word" "_law_word" s_w_word f fd) {F_w_draw : Fn S} {k_w_draw : Nat} (C_w_draw : Lc.Dn P w K mg base "_law_draw" ["_law_deck_here", "_law_most"] k_w_draw (spD ⟨K, hd⟩ Z 2 F_w_draw)) (h_w_draw : k_w_draw ≤ k) (m_range : mg "range" = none) :
    FnOk P w K mg base CX0 (k + 1) f fd ["_law_deck_here", "_law_least", "_law_most"] (spD ⟨K, hd⟩ Z 3 (K_w_word F_w_draw)) :=
  fn_ok (W := []) (F := B_w_word F_w_draw) U sc_w_word rfl rfl (by decide) (by decide) fun cdv A outer s H E hr => by
    unfold B_w_word
    exact (es_cons (es_set (i := 3) sc_w_word.nd rfl (.inl rfl) ex_str)
    (es_cons (es_set (i := 4) sc_w_word.nd rfl (.inl rfl) ex_str)
    (es_cons (es_for PassesOwn.never rfl (ei_range1 (pi_range1 (by rfl) m_range (ea_cons (ex_bin od_add os_add (ex_var 1) (ex_call C_w_draw (hr.mono h_w_draw) (by rfl) (ea_cons (ex_var 0) (ea_cons (ex_bin od_add os_add (ex_bin op_sub os_sub (ex_var 2) (ex_var 1)) ex_int) ea_nil)))) ea_nil))) (eg_name (i := 5) sc_w_word.nd rfl (.inl rfl))
    (es_one (es_set (i := 4) sc_w_word.nd rfl (.inl rfl) (ex_bin od_add os_add (ex_var 4) (ex_ix ix_seq os_ix (ex_var 3) (ex_call C_w_draw (hr.mono h_w_draw) (by rfl) (ea_cons (ex_var 0) (ea_cons ex_int ea_nil))) (fun _ _ => rfl))))))
    (es_one (es_ret (ex_var 4))))))

-- _law_kinds: slots _law_deck_here 0, _law_many 1, _law_taken 2, _law_kinds_here 3, _law_k 4, _law_word_here 5, _law_way 6, _law_at 7, _law_one 8, _law_sign 9; cells _law_kinds_here; own [3]
abbrev s_w_kinds : Stmt := topS 7
abbrev N_w_kinds : List Str := ["_law_deck_here", "_law_many", "_law_taken", "_law_kinds_here", "_law_k", "_law_word_here", "_law_way", "_law_at", "_law_one", "_law_sign"]
theorem sc_w_kinds : FnScope N_w_kinds ["_law_deck_here", "_law_many"] (defScope s_w_kinds) := ⟨rfl, rfl, rfl, by decide +kernel, rfl, by decide +kernel, by decide +kernel⟩
theorem P_w_kinds {S : Type} {Z : Zk S} {hd : Nat → Addr → Prop} {k : Nat} (U : Fun K "_law_kinds" "_law_kinds" s_w_kinds f fd) {F_w_word : Fn S} {k_w_word : Nat} (C_w_word : Lc.Dn P w K mg base "_law_word" ["_law_deck_here", "_law_least", "_law_most"] k_w_word (spD ⟨K, hd⟩ Z 3 F_w_word)) (h_w_word : k_w_word ≤ k) {F_w_draw : Fn S} {k_w_draw : Nat} (C_w_draw : Lc.Dn P w K mg base "_law_draw" ["_law_deck_here", "_law_most"] k_w_draw (spD ⟨K, hd⟩ Z 2 F_w_draw)) (h_w_draw : k_w_draw ≤ k) (m_range : mg "range" = none) (m_len : mg "len" = none) :
    FnOk P w K mg base CX0 (k + 1) f fd ["_law_deck_here", "_law_many"] (spD ⟨K, hd⟩ Z 2 (K_w_kinds F_w_word F_w_draw)) :=
  fn_ok (W := [3]) (F := B_w_kinds F_w_word F_w_draw) U sc_w_kinds rfl rfl (by decide) (by decide) fun cdv A outer s H E hr => by
    unfold B_w_kinds
    exact (es_cons (es_set (i := 2) sc_w_kinds.nd rfl (.inl rfl) ex_str)
    (es_cons (es_set (i := 2) sc_w_kinds.nd rfl (.inl rfl) (ex_nl (nl_split (ex_bin od_add os_add (ex_var 2) ex_str) ex_str)))
    (es_cons (es_own (i := 3) sc_w_kinds.nd rfl (.inr rfl) (nl_lst ea_nil))
    (es_cons (es_for PassesOwn.never rfl (ei_range1 (pi_range1 (by rfl) m_range (ea_cons (ex_var 1) ea_nil))) (eg_name (i := 4) sc_w_kinds.nd rfl (.inl rfl))
    (es_cons (es_set (i := 5) sc_w_kinds.nd rfl (.inl rfl) (ex_call C_w_word (hr.mono h_w_word) (by rfl) (ea_cons (ex_var 0) (ea_cons ex_int (ea_cons ex_int ea_nil)))))
      (es_cons (es_set (i := 6) sc_w_kinds.nd rfl (.inl rfl) (ex_call C_w_draw (hr.mono h_w_draw) (by rfl) (ea_cons (ex_var 0) (ea_cons ex_int ea_nil))))
      (es_cons (es_if (et_weak (PW.pt (ew_and (et_cmp (od_eq hr.units) os_eq (ex_var 6) ex_int (nomark _) (fun _ _ _ h => pEq_bool h)) (pw_and1 (et_cmp (od_ne hr.units) os_ne (ex_var 3) (ex_lst ea_nil) (nomark _) (fun _ _ _ h => pNe_bool h))))))
      (es_one (es_set (i := 5) sc_w_kinds.nd rfl (.inl rfl) (ex_weak (ex_slice od_sl os_sl (ex_bin od_add os_add (ex_ix ix_seq os_ix (ex_var 3) ex_int (fun _ _ => rfl)) (ex_var 5)) eo_none (eo_some ex_int)))))
      es_nil)
      (es_cons (es_if (et_weak (PW.pt (ew_and (et_cmp (od_eq hr.units) os_eq (ex_var 6) ex_int (nomark _) (fun _ _ _ h => pEq_bool h)) (pw_and1 (et_cmp (od_ne hr.units) os_ne (ex_var 3) (ex_lst ea_nil) (nomark _) (fun _ _ _ h => pNe_bool h))))))
      (es_cons (es_set (i := 7) sc_w_kinds.nd rfl (.inl rfl) (ex_weak (ex_call C_w_draw (hr.mono h_w_draw) (by rfl) (ea_cons (ex_var 0) (ea_cons (ex_callB od_len os_len (by rfl) m_len (by decide +kernel) (ea_cons (ex_ix ix_seq os_ix (ex_var 3) ex_int (fun _ _ => rfl)) ea_nil)) ea_nil)))))
        (es_one (es_set (i := 5) sc_w_kinds.nd rfl (.inl rfl) (ex_weak (ex_bin od_add os_add (ex_bin od_add os_add (ex_slice od_sl os_sl (ex_ix ix_seq os_ix (ex_var 3) ex_int (fun _ _ => rfl)) eo_none (eo_some (ex_var 7))) (ex_ix ix_seq os_ix (ex_var 5) ex_int (fun _ _ => rfl))) (ex_slice od_sl os_sl (ex_ix ix_seq os_ix (ex_var 3) ex_int (fun _ _ => rfl)) (eo_some (ex_bin od_add os_add (ex_var 7) ex_int)) eo_none))))))
      es_nil)
      (es_cons (es_if (et_weak (PW.pt (ew_or (et_cmp (od_in (Room_units65 hr)) os_in (ex_var 5) (ex_var 2) (by rfl) (fun _ _ _ h => pIn_bool h)) (pw_or1 (et_cmp (od_in (Room_units65 hr)) os_in (ex_var 5) (ex_var 3) (by rfl) (fun _ _ _ h => pIn_bool h))))))
      (es_one (es_set (i := 5) sc_w_kinds.nd rfl (.inl rfl) (ex_weak (ex_ix ix_seq os_ix (ex_nl (nl_lc (own := [("_law_one", 8)]) rfl sc_w_kinds.nd (ei_list (ex_nl (nl_lc (own := [("_law_sign", 9)]) (tt := tYes) rfl sc_w_kinds.nd (ei_str ex_str) (blkOk_by (N := N_w_kinds) (sc := defScope s_w_kinds) (by decide +kernel)) (fun _ _ _ _ _ => (eg_name (i := 9) sc_w_kinds.nd rfl (.inl rfl))) (fun _ _ _ _ _ => pts_nil) (fun _ _ _ h => yes_of h) (fun _ _ _ _ _ => (ex_bin od_add os_add ex_str (ex_var 9)))))) (blkOk_by (N := N_w_kinds) (sc := defScope s_w_kinds) (by decide +kernel)) (fun _ _ _ _ _ => (eg_name (i := 8) sc_w_kinds.nd rfl (.inl rfl))) (fun _ _ _ _ _ => pts_one (et_cmp (od_notIn (Room_units65 hr)) os_notIn (ex_var 8) (ex_var 3) (by rfl) (fun _ _ _ h => pNotIn_bool h))) (fun _ _ _ h => h) (fun _ _ _ _ _ => (ex_var 8)))) ex_int (fun _ _ => rfl)))))
      es_nil)
      (es_one (es_app2 (ps_expr (pe_bm PySem.F.plainAttrs_list PySem.F.slot_list_append PySem.F.type_list_append mt_append (pv 3) (pa_cons (ex_var 5) pa_nil)))))))))))
    (es_one (es_ret (ex_var 3)))))))

-- _law_times: slots _law_deck_here 0
abbrev s_w_times : Stmt := topS 10
abbrev N_w_times : List Str := ["_law_deck_here"]
theorem sc_w_times : FnScope N_w_times ["_law_deck_here"] (defScope s_w_times) := ⟨rfl, rfl, rfl, by decide +kernel, rfl, by decide +kernel, by decide +kernel⟩
theorem P_w_times {S : Type} {Z : Zk S} {hd : Nat → Addr → Prop} {k : Nat} (U : Fun K "_law_times" "_law_times" s_w_times f fd) {F_w_draw : Fn S} {k_w_draw : Nat} (C_w_draw : Lc.Dn P w K mg base "_law_draw" ["_law_deck_here", "_law_most"] k_w_draw (spD ⟨K, hd⟩ Z 2 F_w_draw)) (h_w_draw : k_w_draw ≤ k) :
    FnOk P w K mg base CX0 (k + 1) f fd ["_law_deck_here"] (spD ⟨K, hd⟩ Z 1 (K_w_times F_w_draw)) :=
  fn_ok (W := []) (F := B_w_times F_w_draw) U sc_w_times rfl rfl (by decide) (by decide) fun cdv A outer s H E hr => by
    unfold B_w_times
    exact (es_one (es_ret (ex_bin od_add os_add ex_int (ex_call C_w_draw (hr.mono h_w_draw) (by rfl) (ea_cons (ex_var 0) (ea_cons (ex_ix ix_seq os_ix (ex_lst (ea_cons ex_int (ea_cons (ex_bin op_pow os_pow ex_int ex_int) ea_nil))) (ex_call C_w_draw (hr.mono h_w_draw) (by rfl) (ea_cons (ex_var 0) (ea_cons ex_int ea_nil))) (fun _ _ => rfl)) ea_nil))))))

-- _law_sum: slots _law_deck_here 0, _law_kinds_here 1, _law_parts 2, _law_kind 3; own [2]
abbrev s_w_sum : Stmt := topS 11
abbrev N_w_sum : List Str := ["_law_deck_here", "_law_kinds_here", "_law_parts", "_law_kind"]
theorem sc_w_sum : FnScope N_w_sum ["_law_deck_here", "_law_kinds_here"] (defScope s_w_sum) := ⟨rfl, rfl, rfl, by decide +kernel, rfl, by decide +kernel, by decide +kernel⟩
theorem P_w_sum {S : Type} {Z : Zk S} {hd : Nat → Addr → Prop} {k : Nat} (U : Fun K "_law_sum" "_law_sum" s_w_sum f fd) {F_w_draw : Fn S} {k_w_draw : Nat} (C_w_draw : Lc.Dn P w K mg base "_law_draw" ["_law_deck_here", "_law_most"] k_w_draw (spD ⟨K, hd⟩ Z 2 F_w_draw)) (h_w_draw : k_w_draw ≤ k) {F_w_times : Fn S} {k_w_times : Nat} (C_w_times : Lc.Dn P w K mg base "_law_times" ["_law_deck_here"] k_w_times (spD ⟨K, hd⟩ Z 1 F_w_times)) (h_w_times : k_w_times ≤ k) (m_sorted : mg "sorted" = none) (m_tuple : mg "tuple" = none) :
    FnOk P w K mg base CX0 (k + 1) f fd ["_law_deck_here", "_law_kinds_here"] (spD ⟨K, hd⟩ Z 2 (K_w_sum F_w_draw F_w_times)) :=
  fn_ok (W := [2]) (F := B_w_sum F_w_draw F_w_times) U sc_w_sum rfl rfl (by decide) (by decide) fun cdv A outer s H E hr => by
    unfold B_w_sum
    exact (es_cons (es_own (i := 2) sc_w_sum.nd rfl (.inl rfl) (nl_lst ea_nil))
    (es_cons (es_for PassesOwn.never rfl (ei_list (ex_nl (nl_callB cr_sortedS on_sorted (by rfl) m_sorted (by decide +kernel) (ea_cons (ex_var 1) ea_nil)))) (eg_name (i := 3) sc_w_sum.nd rfl (.inl rfl))
    (es_one (es_if (et_cmp (od_eq hr.units) os_eq (ex_call C_w_draw (hr.mono h_w_draw) (by rfl) (ea_cons (ex_var 0) (ea_cons ex_int ea_nil))) ex_int (nomark _) (fun _ _ _ h => pEq_bool h))
      (es_one (es_app2 (ps_expr (pe_bm PySem.F.plainAttrs_list PySem.F.slot_list_append PySem.F.type_list_append mt_append (pv 2) (pa_cons (ex_tup (ea_cons (ex_var 3) (ea_cons (ex_call C_w_times (hr.mono h_w_times) (by rfl) (ea_cons (ex_var 0) ea_nil)) ea_nil))) pa_nil)))))
      es_nil)))
    (es_one (es_ret (ex_tup (ea_cons (ex_callTy od_tuple os_tuple (by rfl) m_tuple (by decide +kernel) (ea_cons (ex_var 2) ea_nil)) (ea_cons (ex_call C_w_draw (hr.mono h_w_draw) (by rfl) (ea_cons (ex_var 0) (ea_cons (ex_ix ix_seq os_ix (ex_lst (ea_cons ex_int (ea_cons (ex_bin op_pow os_pow ex_int ex_int) ea_nil))) (ex_call C_w_draw (hr.mono h_w_draw) (by rfl) (ea_cons (ex_var 0) (ea_cons ex_int ea_nil))) (fun _ _ => rfl)) ea_nil))) ea_nil)))))))

-- _law_whole: slots _law_found 0
abbrev s_w_whole : Stmt := topS 12
abbrev N_w_whole : List Str := ["_law_found"]
theorem sc_w_whole : FnScope N_w_whole ["_law_found"] (defScope s_w_whole) := ⟨rfl, rfl, rfl, by decide +kernel, rfl, by decide +kernel, by decide +kernel⟩
theorem P_w_whole {S : Type} {Z : Zk S} {hd : Nat → Addr → Prop} {k : Nat} (U : Fun K "_law_whole" "_law_whole" s_w_whole f fd) (m_isinstance : mg "isinstance" = none) (m_bool : mg "bool" = none) (m_int : mg "int" = none) :
    FnOk P w K mg base CX0 (k + 1) f fd ["_law_found"] (spD ⟨K, hd⟩ Z 1 (K_w_whole )) :=
  fn_ok (W := []) (F := B_w_whole ) U sc_w_whole rfl rfl (by decide) (by decide) fun cdv A outer s H E hr => by
    unfold B_w_whole
    exact (es_one (es_ret (ex_and (ex_isi (by rfl) m_isinstance (ex_var 0) (pe_bltn (v := .ty "int") (by rfl) m_int (by decide +kernel) rfl)) (ex_one (ex_not (ex_isi (by rfl) m_isinstance (ex_var 0) (pe_bltn (v := .ty "bool") (by rfl) m_bool (by decide +kernel) rfl)))))))

-- _law_is_sum: slots _law_found 0, _law_part 1, _law_kind 2, _law_times_here 3
abbrev s_w_is_sum : Stmt := topS 13
abbrev N_w_is_sum : List Str := ["_law_found", "_law_part", "_law_kind", "_law_times_here"]
theorem sc_w_is_sum : FnScope N_w_is_sum ["_law_found"] (defScope s_w_is_sum) := ⟨rfl, rfl, rfl, by decide +kernel, rfl, by decide +kernel, by decide +kernel⟩
theorem P_w_is_sum {S : Type} {Z : Zk S} {hd : Nat → Addr → Prop} {k : Nat} (U : Fun K "_law_is_sum" "_law_is_sum" s_w_is_sum f fd) {F_w_whole : Fn S} {k_w_whole : Nat} (C_w_whole : Lc.Dn P w K mg base "_law_whole" ["_law_found"] k_w_whole (spD ⟨K, hd⟩ Z 1 F_w_whole)) (h_w_whole : k_w_whole ≤ k) (m_isinstance : mg "isinstance" = none) (m_tuple : mg "tuple" = none) (m_len : mg "len" = none) (m_str : mg "str" = none) (m_sorted : mg "sorted" = none) (m_set : mg "set" = none) :
    FnOk P w K mg base CX0 (k + 1) f fd ["_law_found"] (spD ⟨K, hd⟩ Z 1 (K_w_is_sum F_w_whole)) :=
  fn_ok (W := []) (F := B_w_is_sum F_w_whole) U sc_w_is_sum rfl rfl (by decide) (by decide) fun cdv A outer s H E hr => by
    unfold B_w_is_sum
    exact (es_cons (es_if (PW.pt (ew_or (et_not (et_val (ex_isi (by rfl) m_isinstance (ex_var 0) (pe_bltn (v := .ty "tuple") (by rfl) m_tuple (by decide +kernel) rfl)))) (ew_or (et_cmp (od_ne hr.units) os_ne (ex_callB od_len os_len (by rfl) m_len (by decide +kernel) (ea_cons (ex_var 0) ea_nil)) ex_int (nomark _) (fun _ _ _ h => pNe_bool h)) (ew_or (et_not (et_val (ex_isi (by rfl) m_isinstance (ex_ix ix_seq os_ix (ex_var 0) ex_int (fun _ _ => rfl)) (pe_bltn (v := .ty "tuple") (by rfl) m_tuple (by decide +kernel) rfl)))) (pw_or1 (et_not (et_val (ex_call C_w_whole (hr.mono h_w_whole) (by rfl) (ea_cons (ex_ix ix_seq os_ix (ex_var 0) ex_int (fun _ _ => rfl)) ea_nil)))))))))
    (es_one (es_ret ex_bl))
    es_nil)
    (es_cons (es_for PassesOwn.never rfl (ei_tup (ex_ix ix_seq os_ix (ex_var 0) ex_int (fun _ _ => rfl))) (eg_name (i := 1) sc_w_is_sum.nd rfl (.inl rfl))
    (es_one (es_if (PW.pt (ew_or (et_not (et_val (ex_isi (by rfl) m_isinstance (ex_var 1) (pe_bltn (v := .ty "tuple") (by rfl) m_tuple (by decide +kernel) rfl)))) (ew_or (et_cmp (od_ne hr.units) os_ne (ex_callB od_len os_len (by rfl) m_len (by decide +kernel) (ea_cons (ex_var 1) ea_nil)) ex_int (nomark _) (fun _ _ _ h => pNe_bool h)) (ew_or (et_not (et_val (ex_isi (by rfl) m_isinstance (ex_ix ix_seq os_ix (ex_var 1) ex_int (fun _ _ => rfl)) (pe_bltn (v := .ty "str") (by rfl) m_str (by decide +kernel) rfl)))) (pw_or1 (et_not (et_val (ex_call C_w_whole (hr.mono h_w_whole) (by rfl) (ea_cons (ex_ix ix_seq os_ix (ex_var 1) ex_int (fun _ _ => rfl)) ea_nil)))))))))
      (es_one (es_ret ex_bl))
      es_nil)))
    (es_one (es_ret (ex_cmp (od_eq hr.units) os_eq (ex_nl (nl_lc (own := [("_law_kind", 2), ("_law_times_here", 3)]) (tt := tYes) rfl sc_w_is_sum.nd (ei_tup (ex_ix ix_seq os_ix (ex_var 0) ex_int (fun _ _ => rfl))) (blkOk_by (N := N_w_is_sum) (sc := defScope s_w_is_sum) (by decide +kernel)) (fun _ _ _ _ _ => (eg_tup rfl (egs_cons (eg_name (i := 2) sc_w_is_sum.nd rfl (.inl rfl)) (egs_cons (eg_name (i := 3) sc_w_is_sum.nd rfl (.inl rfl)) egs_nil)) (fun _ _ _ h => glC (fun _ _ _ h => glC (fun _ _ _ h => gl0 h) h) h))) (fun _ _ _ _ _ => pts_nil) (fun _ _ _ h => yes_of h) (fun _ _ _ _ _ => (ex_var 2)))) (ex_nl (nl_sortX rfl (by rfl) m_sorted (sx_set rfl (by rfl) m_set (ex_nl (nl_lc (own := [("_law_kind", 2), ("_law_times_here", 3)]) (tt := tYes) rfl sc_w_is_sum.nd (ei_tup (ex_ix ix_seq os_ix (ex_var 0) ex_int (fun _ _ => rfl))) (blkOk_by (N := N_w_is_sum) (sc := defScope s_w_is_sum) (by decide +kernel)) (fun _ _ _ _ _ => (eg_tup rfl (egs_cons (eg_name (i := 2) sc_w_is_sum.nd rfl (.inl rfl)) (egs_cons (eg_name (i := 3) sc_w_is_sum.nd rfl (.inl rfl)) egs_nil)) (fun _ _ _ h => glC (fun _ _ _ h => glC (fun _ _ _ h => gl0 h) h) h))) (fun _ _ _ _ _ => pts_nil) (fun _ _ _ h => yes_of h) (fun _ _ _ _ _ => (ex_var 2))))))) (nomark _))))))

-- _law_of: slots _law_total 0, _law_kind 1, _law_one 2, _law_times_here 3; cells _law_kind
abbrev s_w_of : Stmt := topS 14
abbrev N_w_of : List Str := ["_law_total", "_law_kind", "_law_one", "_law_times_here"]
theorem sc_w_of : FnScope N_w_of ["_law_total", "_law_kind"] (defScope s_w_of) := ⟨rfl, rfl, rfl, by decide +kernel, rfl, by decide +kernel, by decide +kernel⟩
theorem P_w_of {S : Type} {Z : Zk S} {hd : Nat → Addr → Prop} {k : Nat} (U : Fun K "_law_of" "_law_of" s_w_of f fd) (m_sum : mg "sum" = none) :
    FnOk P w K mg base CX0 (k + 1) f fd ["_law_total", "_law_kind"] (spD ⟨K, hd⟩ Z 2 (K_w_of )) :=
  fn_ok (W := []) (F := B_w_of ) U sc_w_of rfl rfl (by decide) (by decide) fun cdv A outer s H E hr => by
    unfold B_w_of
    exact (es_one (es_ret (ex_callB (cr_sum rfl) os_sum (by rfl) m_sum (by decide +kernel) (ea_cons (ex_nl (nl_lc (own := [("_law_one", 2), ("_law_times_here", 3)]) rfl sc_w_of.nd (ei_tup (ex_ix ix_seq os_ix (ex_var 0) ex_int (fun _ _ => rfl))) (blkOk_by (N := N_w_of) (sc := defScope s_w_of) (by decide +kernel)) (fun _ _ _ _ _ => (eg_tup rfl (egs_cons (eg_name (i := 2) sc_w_of.nd rfl (.inl rfl)) (egs_cons (eg_name (i := 3) sc_w_of.nd rfl (.inl rfl)) egs_nil)) (fun _ _ _ h => glC (fun _ _ _ h => glC (fun _ _ _ h => gl0 h) h) h))) (fun _ _ _ _ _ => pts_one (et_cmp (od_eq hr.units) os_eq (ex_var 2) (ex_var 1) (nomark _) (fun _ _ _ h => pEq_bool h))) (fun _ _ _ h => h) (fun _ _ _ _ _ => (ex_var 3)))) ea_nil))))

-- _law_right: slots _law_found 0, _law_totals 1, _law_kinds_here 2, _law_kind 3, _law_total 4, _law_part 5; cells _law_kind, _law_kinds_here
abbrev s_w_right : Stmt := topS 15
abbrev N_w_right : List Str := ["_law_found", "_law_totals", "_law_kinds_here", "_law_kind", "_law_total", "_law_part"]
theorem sc_w_right : FnScope N_w_right ["_law_found", "_law_totals", "_law_kinds_here"] (defScope s_w_right) := ⟨rfl, rfl, rfl, by decide +kernel, rfl, by decide +kernel, by decide +kernel⟩
theorem P_w_right {S : Type} {Z : Zk S} {hd : Nat → Addr → Prop} {k : Nat} (U : Fun K "_law_right" "_law_right" s_w_right f fd) {F_w_is_sum : Fn S} {k_w_is_sum : Nat} (C_w_is_sum : Lc.Dn P w K mg base "_law_is_sum" ["_law_found"] k_w_is_sum (spD ⟨K, hd⟩ Z 1 F_w_is_sum)) (h_w_is_sum : k_w_is_sum ≤ k) {F_w_of : Fn S} {k_w_of : Nat} (C_w_of : Lc.Dn P w K mg base "_law_of" ["_law_total", "_law_kind"] k_w_of (spD ⟨K, hd⟩ Z 2 F_w_of)) (h_w_of : k_w_of ≤ k) (m_sum : mg "sum" = none) :
    FnOk P w K mg base CX0 (k + 1) f fd ["_law_found", "_law_totals", "_law_kinds_here"] (spD ⟨K, hd⟩ Z 3 (K_w_right F_w_is_sum F_w_of)) :=
  fn_ok (W := []) (F := B_w_right F_w_is_sum F_w_of) U sc_w_right rfl rfl (by decide) (by decide) fun cdv A outer s H E hr => by
    unfold B_w_right
    exact (es_cons (es_if (PW.pt (ew_or (et_not (et_val (ex_call C_w_is_sum (hr.mono h_w_is_sum) (by rfl) (ea_cons (ex_var 0) ea_nil)))) (pw_or1 (et_cmp (od_ne hr.units) os_ne (ex_ix ix_seq os_ix (ex_var 0) ex_int (fun _ _ => rfl)) (ex_callB (cr_sum rfl) os_sum (by rfl) m_sum (by decide +kernel) (ea_cons (ex_nl (nl_lc (own := [("_law_total", 4)]) (tt := tYes) rfl sc_w_right.nd (ei_tup (ex_var 1)) (blkOk_by (N := N_w_right) (sc := defScope s_w_right) (by decide +kernel)) (fun _ _ _ _ _ => (eg_name (i := 4) sc_w_right.nd rfl (.inl rfl))) (fun _ _ _ _ _ => pts_nil) (fun _ _ _ h => yes_of h) (fun _ _ _ _ _ => (ex_ix ix_seq os_ix (ex_var 4) ex_int (fun _ _ => rfl))))) ea_nil)) (nomark _) (fun _ _ _ h => pNe_bool h)))))
    (es_one (es_ret ex_bl))
    es_nil)
    (es_cons (es_if (et_cmp (od_ne hr.units) os_ne (ex_nl (nl_lc (own := [("_law_part", 5)]) rfl sc_w_right.nd (ei_tup (ex_ix ix_seq os_ix (ex_var 0) ex_int (fun _ _ => rfl))) (blkOk_by (N := N_w_right) (sc := defScope s_w_right) (by decide +kernel)) (fun _ _ _ _ _ => (eg_name (i := 5) sc_w_right.nd rfl (.inl rfl))) (fun _ _ _ _ _ => pts_one (PW.pt (ew_or (et_cmp (od_lt hr.units) os_lt (ex_ix ix_seq os_ix (ex_var 5) ex_int (fun _ _ => rfl)) ex_int (nomark _) (fun _ _ _ h => pLt_bool h)) (pw_or1 (et_cmp (od_notIn (Room_units65 hr)) os_notIn (ex_ix ix_seq os_ix (ex_var 5) ex_int (fun _ _ => rfl)) (ex_var 2) (by rfl) (fun _ _ _ h => pNotIn_bool h)))))) (fun _ _ _ h => h) (fun _ _ _ _ _ => (ex_var 5)))) (ex_lst ea_nil) (nomark _) (fun _ _ _ h => pNe_bool h))
    (es_one (es_ret ex_bl))
    es_nil)
    (es_cons (es_for PassesOwn.never rfl (ei_list (ex_var 2)) (eg_name (i := 3) sc_w_right.nd rfl (.inr rfl))
    (es_one (es_if (et_cmp (od_ne hr.units) os_ne (ex_call C_w_of (hr.mono h_w_of) (by rfl) (ea_cons (ex_var 0) (ea_cons (ex_var 3) ea_nil))) (ex_callB (cr_sum rfl) os_sum (by rfl) m_sum (by decide +kernel) (ea_cons (ex_nl (nl_lc (own := [("_law_total", 4)]) (tt := tYes) rfl sc_w_right.nd (ei_tup (ex_var 1)) (blkOk_by (N := N_w_right) (sc := defScope s_w_right) (by decide +kernel)) (fun _ _ _ _ _ => (eg_name (i := 4) sc_w_right.nd rfl (.inl rfl))) (fun _ _ _ _ _ => pts_nil) (fun _ _ _ h => yes_of h) (fun _ _ _ _ _ => (ex_call C_w_of (hr.mono h_w_of) (by rfl) (ea_cons (ex_var 4) (ea_cons (ex_var 3) ea_nil)))))) ea_nil)) (nomark _) (fun _ _ _ h => pNe_bool h))
      (es_one (es_ret ex_bl))
      es_nil)))
    (es_one (es_ret ex_bl)))))

-- law: slots _law_script 0, _law_deck_here 1, _law_turn 2, _law_kinds_here 3, _law_totals 4, _law_found 5, _law_cut 6, _law_total 7, _law_k 8; cells _law_deck_here, _law_kinds_here
abbrev s_law : Stmt := topS 16
abbrev N_law : List Str := ["_law_script", "_law_deck_here", "_law_turn", "_law_kinds_here", "_law_totals", "_law_found", "_law_cut", "_law_total", "_law_k"]
theorem sc_law : FnScope N_law ["_law_script"] (defScope s_law) := ⟨rfl, rfl, rfl, by decide +kernel, rfl, by decide +kernel, by decide +kernel⟩
def B_law {S : Type} (F_w_kinds : Fn S) (F_w_draw : Fn S) (F_w_sum : Fn S) (F_sum_of : Fn S) (F_w_right : Fn S) : Sv S :=
    (sSeq (sFor (iOfA pR1 (aCons (cK (.int 3)) aNil)) (gNm 2)
    (sSeq (sSet 3 (cCall 2 F_w_kinds (aCons (cVar 1) (aCons (cK (.int 6)) aNil))))
      (sSeq (sSet 4 (cN pTuple (aCons (cNl (lcF (iOfA pR1 (aCons (cCall 2 F_w_draw (aCons (cVar 1) (aCons (cK (.int 10)) aNil))) aNil)) (gNm 8) qYes (cCall 2 F_w_sum (aCons (cVar 1) (aCons (cVar 3) aNil))) [8])) aNil)))
      (sSeq (sSet 5 (cCall 1 F_sum_of (aCons (cVar 4) aNil)))
      (sSeq (sIf (qOr (qNot (qT (cCall 3 F_w_right (aCons (cVar 5) (aCons (cVar 4) (aCons (cVar 3) aNil)))))) (qOr (qT (cB pNe (cCall 1 F_sum_of (aCons (cU pBack (cVar 4)) aNil)) (cVar 5))) (qT (cB pNe (cCall 1 F_sum_of (aCons (cN pTup (aCons (cVar 5) aNil)) aNil)) (cVar 5)))))
      (sRet (cK (.bool false)))
      sNx)
      (sSeq (sSet 6 (cCall 2 F_w_draw (aCons (cVar 1) (aCons (cB pAdd (cN pLen (aCons (cVar 4) aNil)) (cK (.int 1))) aNil))))
      (sSeq (sIf (qT (cB pNe (cCall 1 F_sum_of (aCons (cN pTup (aCons (cCall 1 F_sum_of (aCons (cSl pSl (cVar 4) oNo (oOf (cVar 6))) aNil)) (aCons (cCall 1 F_sum_of (aCons (cSl pSl (cVar 4) (oOf (cVar 6)) oNo) aNil)) aNil))) aNil)) (cVar 5)))
      (sRet (cK (.bool false)))
      sNx)
      (sFor (iOf asT (cVar 4)) (gNm 7)
      (sIf (qT (cB pNe (cCall 1 F_sum_of (aCons (cN pTup (aCons (cVar 7) aNil)) aNil)) (cVar 7)))
        (sRet (cK (.bool false)))
        sNx)))))))))
    (sRet (cB pEq (cCall 1 F_sum_of (aCons (cN pTup aNil) aNil)) (cN pTup (aCons (cN pTup aNil) (aCons (cK (.int 0)) aNil))))))
theorem P_law {S : Type} {Z : Zk S} {hd : Nat → Addr → Prop} {k : Nat} {F_w_kinds : Fn S} {k_w_kinds : Nat} (C_w_kinds : Lc.Dn P w K mg base "_law_kinds" ["_law_deck_here", "_law_many"] k_w_kinds (spD ⟨K, hd⟩ Z 2 F_w_kinds)) (h_w_kinds : k_w_kinds ≤ k) {F_w_draw : Fn S} {k_w_draw : Nat} (C_w_draw : Lc.Dn P w K mg base "_law_draw" ["_law_deck_here", "_law_most"] k_w_draw (spD ⟨K, hd⟩ Z 2 F_w_draw)) (h_w_draw : k_w_draw ≤ k) {F_w_sum : Fn S} {k_w_sum : Nat} (C_w_sum : Lc.Dn P w K mg base "_law_sum" ["_law_deck_here", "_law_kinds_here"] k_w_sum (spD ⟨K, hd⟩ Z 2 F_w_sum)) (h_w_sum : k_w_sum ≤ k) {F_sum_of : Fn S} {k_sum_of : Nat} (C_sum_of : Lc.Dn P w K mg base "sum_of" ["totals"] k_sum_of (spD ⟨K, hd⟩ Z 1 F_sum_of)) (h_sum_of : k_sum_of ≤ k) {F_w_right : Fn S} {k_w_right : Nat} (C_w_right : Lc.Dn P w K mg base "_law_right" ["_law_found", "_law_totals", "_law_kinds_here"] k_w_right (spD ⟨K, hd⟩ Z 3 F_w_right)) (h_w_right : k_w_right ≤ k) (m_range : mg "range" = none) (m_tuple : mg "tuple" = none) (m_len : mg "len" = none) {cdv : Value} {A : Around} {outer : List Env} {s : Shared} {H : Hp} {E : XK} (hr : Room k (A.deeper (envOfC "law" (defScope s_law) s.heap.objs.size f cdv))) :
    PSs (cxOf CX0 P w K mg base N_law "law" (defScope s_law) f cdv A outer s H E).nox ((defBody s_law).drop 1) (tSt ⟨K, hd⟩ Z [] (B_law F_w_kinds F_w_draw F_w_sum F_sum_of F_w_right)) := by
    unfold B_law
    exact (es_cons (es_for PassesOwn.never rfl (ei_range1 (pi_range1 (by rfl) m_range (ea_cons ex_int ea_nil))) (eg_name (i := 2) sc_law.nd rfl (.inl rfl))
    (es_cons (es_set (i := 3) sc_law.nd rfl (.inr rfl) (ex_call C_w_kinds (hr.mono h_w_kinds) (by rfl) (ea_cons (ex_var 1) (ea_cons ex_int ea_nil))))
      (es_cons (es_set (i := 4) sc_law.nd rfl (.inl rfl) (ex_callTy od_tuple os_tuple (by rfl) m_tuple (by decide +kernel) (ea_cons (ex_nl (nl_lc (own := [("_law_k", 8)]) (tt := tYes) rfl sc_law.nd (ei_range1 (pi_range1 (by rfl) m_range (ea_cons (ex_call C_w_draw (hr.mono h_w_draw) (by rfl) (ea_cons (ex_var 1) (ea_cons ex_int ea_nil))) ea_nil))) (blkOk_by (N := N_law) (sc := defScope s_law) (by decide +kernel)) (fun _ _ _ _ _ => (eg_name (i := 8) sc_law.nd rfl (.inl rfl))) (fun _ _ _ _ _ => pts_nil) (fun _ _ _ h => yes_of h) (fun _ _ _ _ _ => (ex_call C_w_sum (hr.mono h_w_sum) (by rfl) (ea_cons (ex_var 1) (ea_cons (ex_var 3) ea_nil)))))) ea_nil)))
      (es_cons (es_set (i := 5) sc_law.nd rfl (.inl rfl) (ex_call C_sum_of (hr.mono h_sum_of) (by rfl) (ea_cons (ex_var 4) ea_nil)))
      (es_cons (es_if (PW.pt (ew_or (et_not (et_val (ex_call C_w_right (hr.mono h_w_right) (by rfl) (ea_cons (ex_var 5) (ea_cons (ex_var 4) (ea_cons (ex_var 3) ea_nil)))))) (ew_or (et_cmp (od_ne hr.units) os_ne (ex_call C_sum_of (hr.mono h_sum_of) (by rfl) (ea_cons (ex_back (ex_var 4)) ea_nil)) (ex_var 5) (nomark _) (fun _ _ _ h => pNe_bool h)) (pw_or1 (et_cmp (od_ne hr.units) os_ne (ex_call C_sum_of (hr.mono h_sum_of) (by rfl) (ea_cons (ex_tup (ea_cons (ex_var 5) ea_nil)) ea_nil)) (ex_var 5) (nomark _) (fun _ _ _ h => pNe_bool h))))))
      (es_one (es_ret ex_bl))
      es_nil)
      (es_cons (es_set (i := 6) sc_law.nd rfl (.inl rfl) (ex_call C_w_draw (hr.mono h_w_draw) (by rfl) (ea_cons (ex_var 1) (ea_cons (ex_bin od_add os_add (ex_callB od_len os_len (by rfl) m_len (by decide +kernel) (ea_cons (ex_var 4) ea_nil)) ex_int) ea_nil))))
      (es_cons (es_if (et_cmp (od_ne hr.units) os_ne (ex_call C_sum_of (hr.mono h_sum_of) (by rfl) (ea_cons (ex_tup (ea_cons (ex_call C_sum_of (hr.mono h_sum_of) (by rfl) (ea_cons (ex_slice od_sl os_sl (ex_var 4) eo_none (eo_some (ex_var 6))) ea_nil)) (ea_cons (ex_call C_sum_of (hr.mono h_sum_of) (by rfl) (ea_cons (ex_slice od_sl os_sl (ex_var 4) (eo_some (ex_var 6)) eo_none) ea_nil)) ea_nil))) ea_nil)) (ex_var 5) (nomark _) (fun _ _ _ h => pNe_bool h))
      (es_one (es_ret ex_bl))
      es_nil)
      (es_one (es_for PassesOwn.never rfl (ei_tup (ex_var 4)) (eg_name (i := 7) sc_law.nd rfl (.inl rfl))
      (es_one (es_if (et_cmp (od_ne hr.units) os_ne (ex_call C_sum_of (hr.mono h_sum_of) (by rfl) (ea_cons (ex_tup (ea_cons (ex_var 7) ea_nil)) ea_nil)) (ex_var 7) (nomark _) (fun _ _ _ h => pNe_bool h))
        (es_one (es_ret ex_bl))
        es_nil)))))))))))
    (es_one (es_ret (ex_cmp (od_eq hr.units) os_eq (ex_call C_sum_of (hr.mono h_sum_of) (by rfl) (ea_cons (ex_tup ea_nil) ea_nil)) (ex_tup (ea_cons (ex_tup ea_nil) (ea_cons ex_int ea_nil))) (nomark _)))))

end
end K41
set_option Elab.async false
set_option linter.all false
set_option maxRecDepth 100000
set_option maxHeartbeats 4000000
namespace K41
open PySem PySem.Spec PyProof.Rows L2 Dl
section
variable {P : Program} {w : World} {K : PySem.W.Frag} {mg : Str → Option Value} {base : Heap} {f : Addr} {fd : FuncData}
abbrev s_w_mixed : Stmt := topS 3
abbrev N_w_mixed : List Str := ["_law_cell", "_law_k", "_law_number"]
theorem sc_w_mixed : FnScope N_w_mixed ["_law_cell", "_law_k"] (defScope s_w_mixed) := ⟨rfl, rfl, rfl, by decide +kernel, rfl, by decide +kernel, by decide +kernel⟩
def spMixed : Sp := fun vs H Q _ => ∃ a b : Int, vs = [.int a, .int b] ∧ Q (.int (m8F a b)) H
theorem ok_w_mixed {k : Nat} (F : Fun K "_law_mixed" "_law_mixed" s_w_mixed f fd) : FnOk P w K mg base CX0 (k + 1) f fd ["_law_cell", "_law_k"] spMixed := by
  refine F.ok sc_w_mixed (fun vs H Q E h => ?_) (fun cdv A outer s H vs Q E hr h => ?_)
  · obtain ⟨a, b, rfl, _⟩ := h
    rfl
  · obtain ⟨a, b, rfl, q⟩ := h
    refine ⟨_, (pss_cons (ps_set (i := 2) sc_w_mixed.nd rfl (.inl rfl) (pe_op op_mod (pe_op op_add (pe_op op_add (pe_op op_mul (pe_op op_mod (pv 0) pe_int) pe_int) (pe_op op_mul (pv 1) pe_int)) pe_int) pe_int))
      (pss_cons (ps_set (i := 2) sc_w_mixed.nd rfl (.inl rfl) (pe_op op_mod (pe_op op_add (pe_op op_add (pe_op op_mul (pv 2) (pv 2)) (pe_op op_mul pe_int (pv 2))) (pv 1)) pe_int))
      (pss_one (ps_ret (pe_op op_mod (pe_op op_mul (pe_op op_add (pe_op op_mul (pe_op op_mod (pv 2) pe_int) pe_int) (pe_op op_fdiv (pv 2) pe_int)) pe_int) pe_int))))), ?_⟩
    refine ⟨.int a, rfl, a, _, rfl, rfl, (show (0 : Int) < 2147483647 by decide), _, _, rfl, rfl, .inr ⟨by decide, by decide⟩, .int b, rfl, b, 69621, rfl, rfl, .inr ⟨by decide, by decide⟩, _, _, rfl, rfl, _, _, rfl, rfl, _, _, rfl, rfl, (show (0 : Int) < 2147483629 by decide), ?_⟩
    have z0 : 0 ≤ m8a a b := Int.emod_nonneg _ (by decide)
    have z1 : m8a a b < 2147483629 := Int.emod_lt_of_pos _ (by decide)
    show tSeq _ _ _ [some (.int a), some (.int b), some (.int (m8a a b))] H
    refine ⟨.int (m8a a b), rfl, .int (m8a a b), rfl, m8a a b, m8a a b, rfl, rfl, .inl ⟨by omega, by omega⟩, .int (m8a a b), rfl, 16807, m8a a b, rfl, rfl, .inl ⟨by decide, by decide⟩, _, _, rfl, rfl, .int b, rfl, _, _, rfl, rfl, _, _, rfl, rfl, (show (0 : Int) < 2147483587 by decide), ?_⟩
    exact ⟨.int (m8b a b), rfl, m8b a b, 65536, rfl, rfl, (show (0 : Int) < 65536 by decide), _, _, rfl, rfl, .inr ⟨by decide, by decide⟩, .int (m8b a b), rfl, m8b a b, 65536, rfl, rfl, ⟨by decide, by decide⟩, _, _, rfl, rfl, _, _, rfl, rfl, .inr ⟨by decide, by decide⟩, _, _, rfl, rfl, (show (0 : Int) < 2147483563 by decide), q⟩
abbrev s_w_deck : Stmt := topS 4
abbrev N_w_deck : List Str := ["_law_script", "_law_cells"]
theorem sc_w_deck : FnScope N_w_deck ["_law_script"] (defScope s_w_deck) := ⟨rfl, rfl, rfl, by decide +kernel, rfl, by decide +kernel, by decide +kernel⟩
def spDeck (K : PySem.W.Frag) : Sp := fun vs H Q _ => ∃ (a : Addr) (ns : List Int), vs = [.ref a] ∧ SqL K H a (ns.map V.int) ∧ ∀ d H' s, Same H H' → Dk8 d H' s → H d = none → Q (.ref d) H'
theorem ok_w_deck {k : Nat} (F : Fun K "_law_deck" "_law_deck" s_w_deck f fd) (m_list : mg "list" = none) (m_sum : mg "sum" = none) : FnOk P w K mg base CX0 (k + 1) f fd ["_law_script"] (spDeck K) := by
  refine F.ok sc_w_deck (fun vs H Q E h => ?_) (fun cdv A outer s H vs Q E hr h => ?_)
  · obtain ⟨a, ns, rfl, _⟩ := h
    rfl
  · obtain ⟨a, ns, rfl, hS, q⟩ := h
    refine ⟨_, (pss_cons (ps_set (i := 1) sc_w_deck.nd rfl (.inl rfl) (pe_callTy call_list_of (by rfl) m_list (by decide +kernel) (pa_cons (pe_slice sl_list (pv 0) po_none (po_some pe_int)) pa_nil)))
      (pss_one (ps_ret (pe_op op_cat (pe_lst (pa_cons pe_int (pa_cons (pe_op op_mod (pe_callB (cr_sum rfl) (by rfl) m_sum (by decide +kernel) (pa_cons (pv 1) pa_nil)) pe_int) pa_nil))) (pe_revL (pv 1)))))), ?_⟩
    have ec : cutV (ns.map V.int) none (some 63) = (ns.take 63).map V.int := by
      rw [show (63 : Int) = ((63 : Nat) : Int) from rfl, Lc.cut_to, List.map_take]
    have l63 : (ns.take 63).length ≤ 63 := by
      rw [List.length_take]
      omega
    generalize ns.take 63 = nt at ec l63
    refine ⟨.ref a, rfl, _, rfl, a, _, rfl, hS, fun p np => ?_⟩
    rw [ec]
    have s1 := Lc.same_new (o := .lst (nt.map V.int)) np
    have h1 : (upd H p (.lst (nt.map V.int))) p = some (.lst (nt.map V.int)) := upd_same
    generalize upd H p (.lst (nt.map V.int)) = H1 at s1 h1 ⊢
    refine ⟨p, _, rfl, .inl (SqL.of h1), fun c nc => ?_⟩
    have s2 := s1.trans (Lc.same_new (o := .lst (nt.map V.int)) nc)
    have hc : (upd H1 c (.lst (nt.map V.int))) c = some (.lst (nt.map V.int)) := upd_same
    generalize upd H1 c (.lst (nt.map V.int)) = H2 at s2 hc ⊢
    refine ⟨.ref c, rfl, c, nt, rfl, SqL.of hc, _, _, rfl, rfl, (show (0 : Int) < 2147483647 by decide), Lc.sz (by show 2 ≤ 100000; decide), fun t nt' => ?_⟩
    have s3 := s2.trans (Lc.same_new (o := .lst [.int 0, .int (nt.sum % 2147483647)]) nt')
    have hc3 := Lc.same_new (o := .lst [.int 0, .int (nt.sum % 2147483647)]) nt' _ _ hc
    have h3 : (upd H2 t (.lst [.int 0, .int (nt.sum % 2147483647)])) t = some (.lst [.int 0, .int (nt.sum % 2147483647)]) := upd_same
    generalize upd H2 t (.lst [.int 0, .int (nt.sum % 2147483647)]) = H3 at s3 hc3 h3 ⊢
    refine ⟨.ref c, rfl, c, _, rfl, SqL.of hc3, fun r nr => ?_⟩
    rw [← List.map_reverse]
    have s4 := s3.trans (Lc.same_new (o := .lst (nt.reverse.map V.int)) nr)
    have h4 := Lc.same_new (o := .lst (nt.reverse.map V.int)) nr _ _ h3
    have hr4 : (upd H3 r (.lst (nt.reverse.map V.int))) r = some (.lst (nt.reverse.map V.int)) := upd_same
    generalize upd H3 r (.lst (nt.reverse.map V.int)) = H4 at s4 h4 hr4 ⊢
    refine ⟨t, r, _, _, rfl, rfl, h4, hr4, ?_, fun d nd => ?_⟩
    · rw [List.length_map, List.length_reverse]
      exact Lc.sz (by show 2 + nt.length ≤ 100000; omega)
    · exact q d _ (nt.reverse, nt.sum % 2147483647, 0) (s4.trans (Lc.same_new nd)) ⟨upd_same, by rw [List.length_reverse]; exact l63⟩ (s4.free nd)
abbrev s_w_draw : Stmt := topS 5
abbrev N_w_draw : List Str := ["_law_deck_here", "_law_most", "_law_cell"]
theorem sc_w_draw : FnScope N_w_draw ["_law_deck_here", "_law_most"] (defScope s_w_draw) := ⟨rfl, rfl, rfl, by decide +kernel, rfl, by decide +kernel, by decide +kernel⟩
def spDraw : Sp := fun vs H Q _ => ∃ (d : Addr) (s : DS) (m : Int), vs = [.ref d, .int m] ∧ Dk8 d H s ∧ 0 < m ∧ m < 1073741824 ∧ ∀ H', Lc.Fr (fun a => a = d) H H' → Dk8 d H' (drawG s m).2 → Q (.int (drawG s m).1) H'
theorem ok_w_draw {k : Nat} (F : Fun K "_law_draw" "_law_draw" s_w_draw f fd) (m_len : mg "len" = none) (C_w_mixed : Lc.Dn P w K mg base "_law_mixed" ["_law_cell", "_law_k"] 1 spMixed) : FnOk P w K mg base CX0 (k + 2) f fd ["_law_deck_here", "_law_most"] spDraw := by
  refine F.ok sc_w_draw (fun vs H Q E h => ?_) (fun cdv A outer s H vs Q E hr h => ?_)
  · obtain ⟨d, s, m, rfl, _⟩ := h
    rfl
  · obtain ⟨d, ⟨cells, n, sm⟩, m, rfl, ⟨hd, hl⟩, hm, hm2, q⟩ := h
    simp only at hd hl
    refine ⟨_, (pss_cons (ps_asg (pe_op op_add (pe_ix ix_list (pv 0) pe_int (fun _ _ => rfl)) pe_int) (pg_sub (pv 0) pe_int set_list))
      (pss_cons (ps_if (pt_cmpR op_lt (pe_callB call_len_seq (by rfl) m_len (by decide +kernel) (pa_cons (pv 0) pa_nil)) pe_int (nomark _))
      (pss_one (ps_ret (pe_op op_mod (Lc.pe_dn C_w_mixed (hr.mono (by omega)) (by rfl) (pa_cons (pe_ix ix_list (pv 0) pe_int (fun _ _ => rfl)) (pa_cons (pe_ix ix_list (pv 0) pe_int (fun _ _ => rfl)) pa_nil))) (pv 1))))
      pss_nil)
      (pss_cons (ps_set (i := 2) sc_w_draw.nd rfl (.inl rfl) (pe_bm0 PySem.F.plainAttrs_list PySem.F.slot_list_pop PySem.F.type_list_pop mt_pop (pv 0)))
      (pss_cons (ps_if (pt_cmpR op_lt (pv 2) (pe_op op_pow pe_int pe_int) (nomark _))
      (pss_one (ps_ret (pe_op op_mod (Lc.pe_dn C_w_mixed (hr.mono (by omega)) (by rfl) (pa_cons (pv 2) (pa_cons (pe_ix ix_list (pv 0) pe_int (fun _ _ => rfl)) pa_nil))) (pv 1))))
      pss_nil)
      (pss_cons (ps_expr (pe_bm PySem.F.plainAttrs_list PySem.F.slot_list_append PySem.F.type_list_append mt_append (pv 0) (pa_cons (pe_op op_fdiv (pv 2) (pv 1)) pa_nil)))
      (pss_one (ps_ret (pe_op op_mod (pv 2) (pv 1))))))))), ?_⟩
    have ix0 : ∀ (x : V) (r : List V), atI (x :: r) 0 = some x := fun x r => atI_nat (j := 0) rfl
    have ix1 : ∀ (x y : V) (r : List V), atI (x :: y :: r) 1 = some y := fun x y r => atI_nat (j := 1) rfl
    have st0 : ∀ (x y : V) (r : List V), ixN (x :: y :: r).length 0 = some 0 := fun x y r => by
      unfold ixN
      rw [if_pos (by decide), if_pos (by rw [List.length_cons]; omega)]
      rfl
    refine ⟨.ref d, rfl, d, _, 0, .int sm, rfl, rfl, SqL.of hd, ix0 _ _, sm, 1, rfl, rfl, .ref d, rfl, d, _, 0, 0, rfl, rfl, hd, st0 _ _ _, ?_⟩
    have hd1 : (upd H d (.lst ((.int sm :: .int n :: cells.map V.int).set 0 (.int (sm + 1))))) d = some (.lst (.int (sm + 1) :: .int n :: cells.map V.int)) := upd_same
    have f1 : Lc.Fr (fun a => a = d) H (upd H d (.lst ((.int sm :: .int n :: cells.map V.int).set 0 (.int (sm + 1))))) := Lc.Fr.mut rfl
    show tSeq _ _ _ _ (upd H d (.lst ((.int sm :: .int n :: cells.map V.int).set 0 (.int (sm + 1)))))
    generalize (upd H d (.lst ((.int sm :: .int n :: cells.map V.int).set 0 (.int (sm + 1))))) = H1 at hd1 f1 ⊢
    refine ⟨.ref d, rfl, d, _, rfl, .inl (SqL.of hd1), _, 3, rfl, rfl, _, rfl, ?_⟩
    rcases List.eq_nil_or_concat cells with e | ⟨ini, x, e⟩
    · subst e
      refine iteT ?_
      refine ⟨.ref d, rfl, d, _, 1, .int n, rfl, rfl, SqL.of hd1, ix1 _ _ _, .ref d, rfl, d, _, 0, .int (sm + 1), rfl, rfl, SqL.of hd1, ix0 _ _, n, sm + 1, rfl, ?_⟩
      exact ⟨.int m, rfl, _, m, rfl, rfl, hm, q H1 f1 ⟨hd1, Nat.zero_le _⟩⟩
    · have e : cells = ini ++ [x] := by rw [e, List.concat_eq_append]
      subst e
      have eg : (ini ++ [x]).getLast? = some x := by simp
      have edl : (ini ++ [x]).dropLast = ini := List.dropLast_concat
      have hl' : ini.length + 1 ≤ 63 := by simpa using hl
      have el : (V.int (sm + 1) :: V.int n :: (ini ++ [x]).map V.int).length = ini.length + 3 := by simp
      have e0 : decide ((((V.int (sm + 1) :: V.int n :: (ini ++ [x]).map V.int).length : Nat) : Int) < 3) = false := by
        rw [el]
        exact decide_eq_false (by omega)
      rw [e0]
      refine iteF ?_
      refine ⟨.ref d, rfl, .inl ⟨rfl, _, SqL.of hd1⟩, d, _, .int x, rfl, rfl, hd1, ?_, ?_⟩
      · rw [el]
        show (V.int (sm + 1) :: V.int n :: (ini ++ [x]).map V.int)[ini.length + 2]? = _
        simp
      have ed : (V.int (sm + 1) :: V.int n :: (ini ++ [x]).map V.int).dropLast = V.int (sm + 1) :: V.int n :: ini.map V.int := by
        rw [List.map_append]
        show ((V.int (sm + 1) :: V.int n :: ini.map V.int) ++ [V.int x]).dropLast = _
        exact List.dropLast_concat
      rw [ed]
      have hd3 : (upd H1 d (.lst (V.int (sm + 1) :: V.int n :: ini.map V.int))) d = some (.lst (V.int (sm + 1) :: V.int n :: ini.map V.int)) := upd_same
      have f3 : Lc.Fr (fun a => a = d) H (upd H1 d (.lst (V.int (sm + 1) :: V.int n :: ini.map V.int))) := f1.trans (Lc.Fr.mut rfl)
      show tSeq _ _ _ _ (upd H1 d (.lst (V.int (sm + 1) :: V.int n :: ini.map V.int)))
      generalize upd H1 d (.lst (V.int (sm + 1) :: V.int n :: ini.map V.int)) = H3 at hd3 f3 ⊢
      refine ⟨.int x, rfl, 10, 18, rfl, rfl, ⟨by decide, by decide, by decide⟩, _, _, rfl, rfl, _, rfl, ite2 (fun e => ?_) (fun e => ?_)⟩
      · refine ⟨.int x, rfl, .ref d, rfl, d, _, 0, .int (sm + 1), rfl, rfl, SqL.of hd3, ix0 _ _, x, sm + 1, rfl, ?_⟩
        have e9 : drawG (ini ++ [x], n, sm) m = (m8F x (sm + 1) % m, (ini, n, sm + 1)) := by
          unfold drawG
          simp only [eg, edl]
          exact if_pos (of_decide_eq_true e)
        rw [e9] at q
        exact ⟨.int m, rfl, _, m, rfl, rfl, hm, q H3 f3 ⟨hd3, by show ini.length ≤ 63; omega⟩⟩
      · refine ⟨.ref d, rfl, .inl ⟨rfl, _, SqL.of hd3⟩, .int x, rfl, .int m, rfl, x, m, rfl, rfl, ⟨hm, hm2⟩, d, _, _, rfl, rfl, hd3, ?_, ?_⟩
        · simp only [List.length_cons, List.length_map]
          exact Lc.szl (by omega)
        · have hd4 : (upd H3 d (.lst ((V.int (sm + 1) :: V.int n :: ini.map V.int) ++ [.int (x / m)]))) d = some (.lst (V.int (sm + 1) :: V.int n :: (ini ++ [x / m]).map V.int)) := by
            rw [upd_same, List.map_append]
            rfl
          refine ⟨.int x, rfl, .int m, rfl, x, m, rfl, rfl, hm, ?_⟩
          have e9 : drawG (ini ++ [x], n, sm) m = (x % m, (ini ++ [x / m], n, sm + 1)) := by
            unfold drawG
            simp only [eg, edl]
            rw [if_neg (show ¬ x < 10 ^ 18 from fun z => e (decide_eq_true z))]
          rw [e9] at q
          exact q _ (f3.trans (Lc.Fr.mut rfl)) ⟨hd4, by simpa using hl'⟩
/-- the draw by its function on data -/
theorem D_draw {d : Addr} {k : Nat} {f : Addr} {fd : FuncData} (F : Fun K "_law_draw" "_law_draw" s_w_draw f fd) (m_len : mg "len" = none) (C_w_mixed : Lc.Dn P w K mg base "_law_mixed" ["_law_cell", "_law_k"] 1 spMixed) : FnOk P w K mg base CX0 (k + 2) f fd ["_law_deck_here", "_law_most"] (spD ⟨K, hdD d⟩ (Zd8 d) 2 Fdraw8) := by
  have h := ok_w_draw (P := P) (w := w) (K := K) (mg := mg) (base := base) (k := k) F m_len C_w_mixed
  refine ⟨fun vs H Q E h => ?_, fun A outer s H args us vs Q E hr he hb hv hsp => h.run A outer s H args us vs Q E hr he hb hv ?_⟩
  · obtain ⟨B, ds, s, d, s', h1, _, _, h2, _⟩ := h
    rw [h2.len, h1]
    rfl
  · obtain ⟨B, ds, s, x, s', h1, bd, mb, h2, R, hF, q⟩ := hsp
    unfold Fdraw8 at hF
    split at hF
    · split at hF
      · rename_i m hm
        cases hF
        simp only [Reps, Rep] at h2
        obtain ⟨v, r, rfl, ⟨a, rfl, ⟨n, e1, _, rfl⟩ | ⟨e1, _⟩⟩, v2, r2, rfl, rfl, rfl⟩ := h2
        rotate_left
        · cases e1
        exact ⟨a, s, m, rfl, R, hm.1, hm.2, fun H' f1 k1 => q _ H' f1 (by simp only [Rep]) k1⟩
      · cases hF
    · cases hF
end
end K41
set_option Elab.async false
set_option linter.all false
set_option maxRecDepth 100000
set_option maxHeartbeats 4000000
/-! zip of a text and a tuple -/
namespace Dl
open PySem PySem.Spec PyProof.Rows L2
def ItzS (K : PySem.W.Frag) (x : Str) (b : Addr) : It :=
  ⟨fun i H => ∃ (ys : List V) (y : V), SqT K H b ys ∧ i < x.cps.size ∧ ys[i]? = some y,
    fun i H v H' => ∃ (T : Addr) (c : Nat) (y : V), v = .ref T ∧ H T = none ∧ H' = upd H T (.tup [.str ⟨#[c]⟩, y]) ∧ x.cps[i]? = some c ∧ ∀ ys, SqT K H b ys → ys[i]? = some y,
    fun i H => ∃ ys : List V, SqT K H b ys ∧ i ≤ x.cps.size ∧ i ≤ ys.length ∧ (x.cps.size ≤ i ∨ ys.length ≤ i)⟩
theorem turn_zipS {P : Program} {w : World} {K : PySem.W.Frag} {elts : List Expr} {kk : Nat} {tpos : Pos} {b z TI TO i1 i2 : Addr} {x : Str} {t : Tok} (S : ZipSep2 z TI TO i1 i2 [i1] [i2, b]) (hb : b ≠ i2) :
    Turn P w K (.Tuple elts kk tpos) (ItzS K x b) [z, TI, TO, i1, i2] z (fun i h => IsZip h z TI TO .none ∧ IsTupOf2 h TI (.ref i1) (.ref i2) ∧ (∃ x y, IsTupOf2 h TO x y) ∧ h.IsStrIter i1 (strIterType x) x t i ∧ h.IsTupleIter i2 b i) where
  mem := by simp
  obj := fun i h st c hc => by
    obtain ⟨s1, s2, ⟨_, _, s3⟩, ⟨o, s4, _, s5⟩, ⟨o', s6, _, s7⟩⟩ := st
    simp only [List.mem_cons, List.not_mem_nil, or_false] at hc
    obtain rfl | rfl | rfl | rfl | rfl := hc
    · exact ⟨_, s1, fun _ n => nomatch n⟩
    · exact ⟨_, s2, fun _ n => nomatch n⟩
    · exact ⟨_, s3, fun _ n => nomatch n⟩
    · exact ⟨o, s4, fun _ n => nomatch s5.symm.trans n⟩
    · exact ⟨o', s6, fun _ n => nomatch s7.symm.trans n⟩
  keep := fun i h h' st stays => by
    obtain ⟨s1, s2, ⟨u, v, s3⟩, ⟨o, s4, s5⟩, s6⟩ := st
    have of {q : Addr} (hq : q ∈ [z, TI, TO, i1, i2] := by simp) {ob : Obj} (e : h.get? q = some ob) : h'.get? q = some ob := stays q hq ob e
    exact ⟨of (by simp) s1, of (by simp) s2, ⟨u, v, of (by simp) s3⟩, ⟨o, of (by simp) s4, s5⟩, s6.at fun ob e => of (by simp) e⟩
  item := by
    intro X hP hw hK hc i pins s σ H E I hf st hg
    subst hP hw hK
    obtain ⟨hz, hTI, ⟨x0, y0, hTO⟩, h1, h2⟩ := st
    obtain ⟨ys, y, hqy, hi, hy⟩ := hg
    obtain ⟨its2, rv2, p2, _⟩ := I.tuple hqy
    obtain ⟨u2, hu2, ru2⟩ := rv2.get hy
    have hzl : z < s.heap.objs.size := Heap.lt_size hz
    have hh : X.A.in1.handled = none := I.ok.hd hc
    have hi2 : i < its2.toArray.size := by
      have := (List.getElem?_eq_some_iff.mp hu2).1
      simpa using this
    refine wpAny_pyNext_zipD2_item S (Draws.text hh i1 x t) (Draws.tuple hh i2 b hb its2.toArray) hz hTI hTO h1 ⟨h2, p2⟩ hi hi2 fun x1 x2 h' tk y1 y2 z' TO' s1' s2' hT hsz hk => ?_
    obtain ⟨c, u, hcx, rfl⟩ := y1
    have ex2 : x2 = u2 := by
      have : its2.toArray[i]? = some u2 := by simpa using hu2
      rw [this] at y2
      exact (Option.some.inj y2).symm
    subst ex2
    refine ⟨_, rfl, wpAny_letOwnedTupleGo_zip (s := { s with heap := h', toks := tk }) z' fun h'' z'' sb => ?_⟩
    have hT2 : h''.get? s.heap.objs.size = some { cls := .type "tuple", data := .seq #[.str ⟨#[c]⟩ u, x2] } := (sb.2 _ (Nat.ne_of_gt hzl)).trans hT
    have new : ObjOk X.prog X.w (upd H s.heap.objs.size (.tup [.str ⟨#[c]⟩, y])) h'' s.heap.objs.size (.tup [.str ⟨#[c]⟩, y]) :=
      ⟨by show 2 ≤ sizeLine; decide, [.str ⟨#[c]⟩ u, x2], .cons ⟨u, rfl⟩ (.cons ru2 .nil), ⟨_, hT2, rfl, _, rfl⟩⟩
    have I1 : Inv X pins σ (upd H s.heap.objs.size (.tup [.str ⟨#[c]⟩, y])) { s with heap := h'', toks := tk } :=
      I.turnedNew (t' := tk) (ch := [z, TI, TO, i1, i2]) (fun c o hb q => (sb.2 c (fun q' => hb (by simp [q']))).trans (hk c o (fun q' => hb (by simp [q'])) (fun q' => hb (by simp [q'])) (fun q' => hb (by simp [q'])) (fun q' => hb (by simp [q'])) q)) hf (Nat.le_refl _) new
    refine ⟨.ref s.heap.objs.size, _, I1, rfl, ⟨_, c, y, rfl, I.hok.fresh (Nat.le_refl _), rfl, hcx, fun l hl => by rw [I.tuple_inj hl hqy]; exact hy⟩, ⟨z'', ?_, ⟨.str ⟨#[c]⟩ u, x2, ?_⟩, ?_, ?_⟩, fun c hcm => ?_⟩
    · exact (sb.2 _ S.TIz).trans (hk _ _ S.TIz S.TITO S.TIi1 S.TIi2 hTI)
    · exact (sb.2 _ S.TOz).trans TO'
    · obtain ⟨o1, e1, r1⟩ := s1'
      exact ⟨o1, (sb.2 _ S.zi1.symm).trans e1, r1⟩
    · exact s2'.1.at fun o q => (sb.2 _ S.zi2.symm).trans q
    · have older : c < s.heap.objs.size := by
        simp only [List.mem_cons, List.not_mem_nil, or_false] at hcm
        obtain rfl | rfl | rfl | rfl | rfl := hcm
        · exact hzl
        · exact Heap.lt_size hTI
        · exact Heap.lt_size hTO
        · exact Heap.lt_size h1.choose_spec.1
        · exact Heap.lt_size h2.choose_spec.1
      rw [upd_ne (Nat.ne_of_lt older)]
      exact (hf c hcm).1
  done := by
    intro X hP hw hK hc i pins s σ H E I hf st hg
    subst hP hw hK
    obtain ⟨hz, hTI, ⟨x0, y0, hTO⟩, h1, h2⟩ := st
    obtain ⟨ys, hqy, l1, l2, hend⟩ := hg
    obtain ⟨its2, rv2, p2, _⟩ := I.tuple hqy
    have hl := rv2.length
    have hsz : its2.toArray.size = ys.length := by simp [hl]
    have hh : X.A.in1.handled = none := I.ok.hd hc
    refine wpAny_pyNext_zipD2_end S (Draws.text hh i1 x t) (Draws.tuple hh i2 b hb its2.toArray) hz hTI hTO h1 ⟨h2, p2⟩ l1 (by rw [hsz]; exact l2) (by rw [hsz]; omega) fun h' tk hk => ⟨rfl, I.turnedL (t' := tk) (ch := [z, TI, TO, i1, i2]) (fun c o hb q =>
      hk c o (fun q' => hb (by simp [q'])) (fun q' => hb (by simp [q'])) (fun q' => hb (by simp [q'])) (fun q' => hb (by simp [q'])) q) hf⟩
  self := fun A i s Q E st h => wpAny_pyIter_zip st.1 h
theorem walk_zipS {K : PySem.W.Frag} {x : Str} {b : Addr} {ys : List V} {n : Nat} (hn : n = min x.cps.size ys.length) : Walk (ItzS K x b) n (fun H => SqT K H b ys) (YPair (fun i => (x.cps[i]?).map fun c => .str ⟨#[c]⟩) (fun i => ys[i]?)) := by
  subst hn
  refine ⟨fun i _ hi q => ?_, fun _ q => ⟨ys, q, by omega, by omega, by omega⟩, fun i H v H' _ q y => ?_⟩
  · have h2 : i < ys.length := by omega
    exact ⟨ys, ys[i], q, by omega, by simp [h2]⟩
  · obtain ⟨T, c, z, h1, h2, h3, h4, h5⟩ := y
    exact ⟨T, .str ⟨#[c]⟩, z, h1, h2, h3, by simp [h4], h5 ys q⟩
def iZipS (K : PySem.W.Frag) (ta : TA) : TI := fun σ H R => ta σ H fun vs H1 => ∃ x b ys, vs = [.str x, .ref b] ∧ SqT K H1 b ys ∧ R (ItzS K x b) H1
theorem pi_zipS {X : Cx} {e e2 : Expr} {ta : TA} {p pos tpos : Pos} {elts : List Expr} {kk : Nat} (hg : Gl X "zip") (hm : X.mg "zip" = none) (ha : PA X [e, e2] ta)
    (hs : starEach [e, e2] X.env = (false, eval e X.env) :: starEach [e2] X.env := by rfl) (hpl : (backTo pos (starEach [e2] X.env)).any (·.1) = false := by rfl) :
    PI X (.Tuple elts kk tpos) (.Call (.Name "zip" p) [e, e2] [] pos) (iZipS X.K ta) := by
  refine ⟨fun pins s σ H R I h => ?_⟩
  refine Call_ (ld_blt I hg hm PyProof.Rows.boot_zip (PyProof.Rows.callWith_type1 (thn (ha.run pos pins s σ H _ I h) fun us s1 ⟨vs, H1, I1, r1, q1⟩ => ?_) hs hpl))
  obtain ⟨x, b, ys, ex, hqy, q⟩ := q1
  subst ex
  cases r1 with
  | cons r rr =>
    cases rr with
    | cons r' rr =>
      cases rr
      obtain ⟨t, rfl⟩ := r
      cases r'
      have young : ∀ c ∈ [s1.heap.objs.size + 4, s1.heap.objs.size + 2, s1.heap.objs.size + 3, s1.heap.objs.size, s1.heap.objs.size + 1], FpOk X pins H1 c := fun c hc => by
        have at_least : s1.heap.objs.size ≤ c := by
          simp only [List.mem_cons, List.not_mem_nil, or_false] at hc
          obtain rfl | rfl | rfl | rfl | rfl := hc
          · exact Nat.le_add_right _ _
          · exact Nat.le_add_right _ _
          · exact Nat.le_add_right _ _
          · exact Nat.le_refl _
          · exact Nat.le_add_right _ _
        exact I1.fpOk at_least (I1.hok.fresh at_least)
      obtain ⟨its2, rv2, p2, _⟩ := I1.tuple hqy
      obtain ⟨o2, ho2, _⟩ := id p2
      have hbl : b < s1.heap.objs.size := Heap.lt_size ho2
      refine zip_begins2 (begins_text x t) (begins_tuple b its2.toArray) trivial p2 fun h' hz hTI hTO g1 g2 hsz hk => wpAny_pyIter_zip hz ?_
      have I2 : Inv X pins σ H1 { s1 with heap := h' } := I1.kept (t' := s1.toks) hk
      have sep : ZipSep2 (s1.heap.objs.size + 4) (s1.heap.objs.size + 2) (s1.heap.objs.size + 3) s1.heap.objs.size (s1.heap.objs.size + 1) [s1.heap.objs.size] [s1.heap.objs.size + 1, b] :=
        zip_sep2 (N := s1.heap.objs.size) (fp1 := []) (fp2 := [b]) (fun _ h => nomatch h) (fun c h => by rw [List.mem_singleton.mp h]; exact hbl)
      exact ⟨s1.heap.objs.size + 4, [s1.heap.objs.size + 4, s1.heap.objs.size + 2, s1.heap.objs.size + 3, s1.heap.objs.size, s1.heap.objs.size + 1], _, _, H1, rfl, I2, turn_zipS (x := x) (t := t) sep (Nat.ne_of_lt (Nat.lt_succ_of_lt hbl)), ⟨hz, hTI, ⟨_, _, hTO⟩, ⟨_, g1, rfl, rfl⟩, ⟨_, g2, rfl, rfl⟩⟩, young, q⟩
/-- the signs of a text -/
def signsD (x : Str) : List D := x.cps.toList.map fun c => .str ⟨#[c]⟩
def pZipS : List D → Option (List D)
  | [.str x, .tuple b] => some (zipD (signsD x) b)
  | _ => none
theorem signs_get {x : Str} {i : Nat} {d : D} (h : (signsD x)[i]? = some d) : ∃ c, x.cps[i]? = some c ∧ d = .str ⟨#[c]⟩ := by
  unfold signsD at h
  rw [List.getElem?_map, Option.map_eq_some_iff] at h
  obtain ⟨c, h1, h2⟩ := h
  exact ⟨c, by rw [← Array.getElem?_toList]; exact h1, h2.symm⟩
section
variable {S : Type} {X : Cx} {G : Kx} {Z : Zk S} {W : List Nat} {fa : Ea S} {e e2 : Expr} {p pos : Pos}
theorem ei_zipS {elts : List Expr} {kk : Nat} {tpos : Pos} (h : PI X (.Tuple elts kk tpos) (.Call (.Name "zip" p) [e, e2] [] pos) (iZipS X.K (tEa G Z W fa))) (hK : X.K = G.K := by rfl) : PI X (.Tuple elts kk tpos) (.Call (.Name "zip" p) [e, e2] [] pos) (tIt G Z W (iOfA pZipS fa)) :=
  imp_pi h fun σ H Q ⟨B, O, ρ, s, d, s', eo, hR, hf, q⟩ => by
    unfold iOfA at hf
    obtain ⟨y, s1, h1, hf⟩ := bnd_some hf
    obtain ⟨h3, rfl⟩ := put_some hf
    refine ⟨B, O, ρ, s, y, _, eo, hR, h1, fun v H1 f1 r1 R1 => ?_⟩
    unfold pZipS at h3
    split at h3
    · cases h3
      simp only [Reps] at r1
      obtain ⟨v1, r, rfl, h4, v2, r', rfl, h5, rfl⟩ := r1
      simp only [Rep] at h4 h5
      subst h4
      obtain ⟨b, us, rfl, k1, k3⟩ := h5
      have sq : ∀ {H : Hp} {c : Addr} {ws : List V}, ((H c = some (.tup ws)) ∨ KT G.K c ws) → SqT G.K H c ws := fun z => z.elim (fun z => .inl (.inl z)) .inr
      rw [hK]
      refine ⟨_, b, us, rfl, sq (k1.imp (·.1) id), q _ H1 f1 ?_ R1⟩
      refine ⟨_, _, walk_zipS (ys := us) (by rw [zipD_len, k3.len]; simp [signsD]), fun B2 H2 st dm => ⟨sq (k1.imp (fun z => (st b _ z.1 z.2).1) id), fun i d x H3 hd y => ?_⟩⟩
      obtain ⟨T, u, v, rfl, hT, rfl, hu, hv⟩ := y
      obtain ⟨dx, dy, g1, g2, rfl⟩ := zipD_get hd
      obtain ⟨c, hc, rfl⟩ := signs_get g1
      obtain ⟨v', e2, q2⟩ := (k3.mv (B' := B2) (H' := H2) st).get g2
      have hv : us[i]? = some v := hv
      rw [hv] at e2
      cases e2
      simp only [hc, Option.map_some, Option.some.injEq] at hu
      subst hu
      exact ⟨Lc.same_new hT, pair_rep dm hT (by simp only [Rep]) q2⟩
    · cases h3
end
end Dl
set_option Elab.async false
set_option linter.all false
set_option maxRecDepth 100000
set_option maxHeartbeats 4000000
namespace Lc
open PySem PySem.W PySem.Calls PyProof.Rows PyProof.V PySem.Spec L2 RT
/-! ### list(reversed(x)), x a list: a new list -/
section
variable {prog : Program} {w : World} {A : Around} {E : Value → Shared → Prop} {s : Shared}
/-- the items of the reversed list -/
abbrev RevItems (items : Array Value) : Nat → Value → Prop := fun i v => items[items.size - 1 - i]? = some v
theorem ext_rev {S it l : Addr} {items : Array Value} {res : Value} {k : Nat} {R : Result → Shared → Prop} (hh : A.handled = none) (hit : s.heap.IsRevIter it l ((items.size : Int) - 1))
    (hl : s.heap.IsList l items) (hne : l ≠ it) (hn : items.size ≤ sizeLine) (hSi : S ≠ it) (hSl : S ≠ l) (hS : s.heap.get? S = some { cls := .type "list", data := .seq #[] k })
    (hR : ∀ (h' : Heap) (tk : Nat) (acc : Array Value) (c : Nat), (∀ b o, b ≠ S → b ≠ it → s.heap.get? b = some o → h'.get? b = some o) →
      h'.get? S = some { cls := .type "list", dict := none, data := .seq acc c, slots := #[] } → ItemsOf (RevItems items) acc items.size → R (.ok (.ret res)) { s with heap := h', toks := tk }) :
    wpAny (model prog w) A.in1 (Builtin.List.listExtendWith (.ref S) (.ref it) res)
      (fun fin s' => match fin with
        | .done f => R (.ok f) s'
        | .again c' => c'.quiet = true ∧ codeAny (model prog w) A c' R s')
      (fun e s' => R (.error e) s') s := by
  have W := (Walks.listRev (prog := prog) (w := w) (A := A.in1) hh it l hne items).toS
  have hSf : S ∉ [it, l] := by
    intro h
    rcases List.mem_cons.mp h with e | h
    · exact hSi e
    · exact hSl (List.mem_singleton.mp h)
  have hT : s.TypeIs (.ref it) "list_reverseiterator" := Heap.IsRevIter.typeIs hit
  have same : Builtin.List.listSameRef (.ref S) (.ref it) = false := by
    unfold Builtin.List.listSameRef
    simp [hSi]
  unfold Builtin.List.listExtendWith
  refine wpAny_bind (wpAny_typeOf hT ?_)
  rw [if_neg (by rw [same]; decide)]
  refine wpAny_bind (wpAny_pyIter_revIter hit ?_)
  refine wpAny_bind (wpAny_holding ?_)
  unfold Builtin.List.listLengthHint
  refine wpAny_bind (wpAny_specialOf hT nolen_lri ?_)
  show wpAny _ _ (specialOf (Value.ref it) (Str.ofString "__length_hint__") >>= _) _ _ _
  refine wpAny_bind (wpAny_specialOf hT hint_lri ?_)
  generalize hq : ("list_reverseiterator.__length_hint__" : String) = q0
  wp_delta
  rw [show splitId q0 = some ("list_reverseiterator", "__length_hint__") by subst hq; decide +kernel]
  subst hq
  refine wpAny_bind (wpAny_isInstance (b := true) hT (by rw [isSubtype_type]; kernel_rfl) ?_)
  refine wpAny_pure ?_
  rw [if_neg (by decide)]
  refine wpAny_pure ⟨plainId_quiet F.plain_extend_loop _, ?_⟩
  have start : s.heap.IsRevIter it l (((items.size : Nat) : Int) - 1 - ((0 : Nat) : Int)) := by
    rw [show ((items.size : Nat) : Int) - 1 - ((0 : Nat) : Int) = (items.size : Int) - 1 by omega]
    exact hit
  refine codeAny_extend_loopS W hn _ hSf _ items.size 0 _ _ _ rfl (Nat.zero_le _) ⟨Nat.zero_le _, start, hl⟩ hS (ItemsOf.nil _) fun s' acc' c' hm hS' hacc => ?_
  rw [Moved.eq_with hm]
  refine hR s'.heap s'.toks acc' c' (fun b o b1 b2 e => hm.heap b o (fun z => ?_) e) hS' hacc
  rcases List.mem_cons.mp z with z | z
  · exact b1 z
  · exact b2 (List.mem_singleton.mp z)
theorem call_list_rev {it l : Addr} {items : Array Value} {Q : Value → Shared → Prop} (hh : A.handled = none) (hit : s.heap.IsRevIter it l ((items.size : Int) - 1)) (hl : s.heap.IsList l items)
    (hne : l ≠ it) (hn : items.size ≤ sizeLine)
    (hQ : ∀ (h' : Heap) (tk : Nat) (acc : Array Value) (c : Nat), (∀ b o, b ≠ it → s.heap.get? b = some o → h'.get? b = some o) →
      h'.get? s.heap.objs.size = some { cls := .type "list", dict := none, data := .seq acc c, slots := #[] } → ItemsOf (RevItems items) acc items.size → Q (.ref s.heap.objs.size) { s with heap := h', toks := tk }) :
    wpAny (model prog w) A (call (.type "list") [.ref it]) Q E s := by
  obtain ⟨oi, hoi, _⟩ := id hit
  obtain ⟨ol, hol, _⟩ := id hl
  have gi : s.heap.objs.size ≠ it := Nat.ne_of_gt (Heap.lt_size hoi)
  have gl : s.heap.objs.size ≠ l := Nat.ne_of_gt (Heap.lt_size hol)
  refine callType_codes (Q₁ := fun obj s₁ => obj = .ref s.heap.objs.size ∧ s₁ = { s with heap := s.heap.push { cls := .type "list", data := .seq #[] } })
    PySem.F.called_list (PySem.F.typeCall_list_1 _) PySem.F.entry_list_init (code_list_new _ ⟨rfl, rfl⟩) fun obj s₁ h₁ => ?_
  obtain ⟨rfl, rfl⟩ := h₁
  have hS : (s.heap.push { cls := .type "list", data := .seq #[] }).get? s.heap.objs.size = some { cls := .type "list", data := .seq #[] } := Heap.get?_push_size _ rfl
  refine ⟨⟨_, hS, rfl⟩, PySem.F.args_list_init_2 _ _, ?_⟩
  show wpAny _ _ (do
    let old ← Builtin.List.listItems (.ref s.heap.objs.size)
    Builtin.List.listUpdate (.ref s.heap.objs.size) (fun _ => #[])
    letGo old.toList.reverse
    Builtin.List.listExtendWith (.ref s.heap.objs.size) (.ref it) .none) _ _ _
  refine wpAny_bind ?_
  unfold Builtin.List.listItems
  refine wpAny_bind (wpAny_seqItems hS rfl (wpAny_pure ?_))
  show wpAny _ _ (updateSeq s.heap.objs.size (fun _ => #[]) >>= fun _ => letGo (#[] : Array Value).toList.reverse >>= fun _ =>
    Builtin.List.listExtendWith (.ref s.heap.objs.size) (.ref it) .none) _ _ _
  refine wpAny_bind (wpAny_updateSeq hS rfl ?_)
  have hS₂ := Heap.get?_update_self (Obj.mapSeq (fun _ => (#[] : Array Value))) hS rfl
  have oth : ∀ b o, b ≠ s.heap.objs.size → s.heap.get? b = some o →
      ((s.heap.push { cls := .type "list", data := .seq #[] }).update s.heap.objs.size (Obj.mapSeq (fun _ => (#[] : Array Value)))).get? b = some o := fun b o hb e => by
    rw [Heap.get?_update_other _ _ (Ne.symm hb)]
    exact Heap.get?_push_of_some _ e
  refine wpAny_bind (wpAny_letGo ?_)
  refine ext_rev (l := l) (items := items) hh ?_ ?_ hne hn gi gl hS₂ (fun h' tk acc c hk hS' hacc => ?_)
  · exact hit.at fun o e => oth it o gi.symm e
  · obtain ⟨o, ho, hr⟩ := hl
    exact ⟨o, oth l o gl.symm ho, hr⟩
  · refine ⟨rfl, hQ h' tk acc c (fun b o hb e => ?_) hS' hacc⟩
    have bs : b ≠ s.heap.objs.size := Nat.ne_of_lt (Heap.lt_size e)
    exact hk b o bs hb (oth b o bs e)
end
section
variable {X : Cx}
/-- a new list of the items, the last one first -/
def tListRev (K : PySem.W.Frag) (te : TE) : TE := fun σ H Q => te σ H fun v H1 => ∃ (a : Addr) (xs : List V), v = .ref a ∧ SqL K H1 a xs ∧ ∀ q, H1 q = none → Q (.ref q) (upd H1 q (.lst xs.reverse))
theorem pe_listRev {e : Expr} {te : TE} {p p2 pos pos2 : Pos} (hc : X.calm = true) (hg : Gl X "list") (hm : X.mg "list" = none) (hg2 : Gl X "reversed") (hm2 : X.mg "reversed" = none) (he : PE X e te)
    (hs : starEach [e] X.env = (false, eval e X.env) :: starEach [] X.env := by rfl)
    (hs2 : starEach [.Call (.Name "reversed" p2) [e] [] pos2] X.env = (false, eval (.Call (.Name "reversed" p2) [e] [] pos2) X.env) :: starEach [] X.env := by rfl) :
    PE X (.Call (.Name "list" p) [.Call (.Name "reversed" p2) [e] [] pos2] [] pos) (tListRev X.K te) := by
  refine ⟨fun pins s σ H Q I h => ?_⟩
  refine Call_ (ld_blt I hg hm (u := .type "list") (by decide +kernel) (PyProof.Rows.callWith_type1 (args_cons (Call_ (ld_blt I hg2 hm2 PyProof.Rows.boot_reversed
    (PyProof.Rows.callWith_type1 (args_cons (thn (he.run pins s σ H _ I h) fun u s1 ⟨v, H1, I1, r1, q1⟩ => args_nil ?_) hs) hs rfl))) hs2) hs2 rfl))
  obtain ⟨a, xs, ev, hq, q⟩ := q1
  subst ev
  obtain rfl : u = Value.ref a := r1
  obtain ⟨its, rv, p', hz⟩ := I1.list hq
  refine call_reversed_list p'.isList (args_nil ?_)
  have hl := p'.isList
  obtain ⟨ol, hol, _⟩ := id hl
  have hn : its.toArray.size ≤ sizeLine := by
    rw [List.size_toArray, ← rv.length]
    exact hz
  refine call_list_rev (s := { s1 with heap := s1.heap.push (revObj a ((its.toArray.size : Int) - 1)) }) (I1.ok.hd hc) ⟨_, Heap.get?_push_size _ rfl, rfl, rfl⟩ (hl.push _)
    (Nat.ne_of_lt (Heap.lt_size hol)) hn fun h' tk acc c hk hS hi => ?_
  have big : s1.heap.objs.size ≤ (s1.heap.push (revObj a ((its.toArray.size : Int) - 1))).objs.size := by
    rw [Heap.size_push]
    omega
  refine ⟨.ref _, upd H1 _ (.lst xs.reverse), I1.laid (h' := h') (t' := tk) (fun b o e => hk b o (Nat.ne_of_lt (Heap.lt_size e)) (Heap.get?_push_of_some _ e)) big ?_, rfl, q _ (I1.hok.fresh big)⟩
  refine ⟨by rw [List.length_reverse]; exact hz, acc.toList, c, vals_rev rv hi, ?_⟩
  rw [Array.toArray_toList]
  exact hS
end
end Lc
set_option Elab.async false
set_option linter.all false
set_option maxRecDepth 100000
set_option maxHeartbeats 4000000
/-! the deck of the laws of words and forms: cells taken from the end -/
namespace Dl
open PySem PySem.Spec PyProof.Rows L2
def mixZ (a b : Int) : Int := ((a % 2147483629 + 7919 * b + 1) * 48271) % 2147483647
def mixY (a b : Int) : Int := (mixZ a b * mixZ a b + 69621 * b + 7) % 2147483587
def mixF (a b : Int) : Int := mixY a b * 2147483563 + (mixY a b * mixY a b + 16807 * mixY a b + b) % 2147483563
def takeF (s : DS) (m : Int) : Int × DS := match s.1.getLast? with
  | none => (mixF s.2.1 (s.2.2 + 1) % m, ([], s.2.1, s.2.2 + 1))
  | some x => if x < 10 ^ 18 then (mixF x (s.2.2 + 1) % m, (s.1.dropLast, s.2.1, s.2.2 + 1)) else
      if 0 < x / m then (x % m, (s.1.dropLast ++ [x / m], s.2.1, s.2.2 + 1)) else (x % m, (s.1.dropLast, s.2.1, s.2.2 + 1))
theorem takeF_range (s : DS) {m : Int} (hm : 0 < m) : 0 ≤ (takeF s m).1 ∧ (takeF s m).1 < m := by
  have fin : ∀ r : Int, 0 ≤ r % m ∧ r % m < m := fun r => ⟨Int.emod_nonneg _ (by omega), Int.emod_lt_of_pos _ hm⟩
  unfold takeF
  split
  · exact fin _
  · split
    · exact fin _
    · split
      · exact fin _
      · exact fin _
/-- a number below m -/
def Ftake : Fn DS := fun ds s => match ds with
  | [.dict [(.int 0, .none)], .int m] => if 0 < m ∧ m < 1073741824 then some (.int (takeF s m).1, (takeF s m).2) else none
  | _ => none
theorem ftake {s : DS} {m : Int} (h : 0 < m) (h2 : m < 1073741824) : Ftake [hnd 0, .int m] s = some (.int (takeF s m).1, (takeF s m).2) := by
  show (if 0 < m ∧ m < 1073741824 then some (PyData.int (takeF s m).1, (takeF s m).2) else none) = _
  rw [if_pos ⟨h, h2⟩]
end Dl
set_option Elab.async false
set_option linter.all false
set_option maxRecDepth 100000
set_option maxHeartbeats 4000000
namespace Lw01
open PySem PySem.Spec PyProof.Rows L2 Dl
def barW : List Str := ["absurd", "all", "an", "and", "any", "are", "as", "at", "be", "by", "false", "if", "is", "least", "many", "more", "no", "not", "only", "or", "same", "some", "than", "the", "then", "there", "every", "either", "unless"]
def d_BARRED : D := .tuple (barW.map .str)
-- rises: slots row 0, one 1, other 2
def B_rises {S : Type}  : Sv S :=
    (sRet (cQu false (iOfA pZip (aCons (cVar 0) (aCons (cSl pSl (cVar 0) (oOf (cK (.int 1))) oNo) aNil))) (gTp (gC (gNm 1) (gC (gNm 2) gN0))) qYes (cB pLt (cVar 1) (cVar 2)) [1, 2]))
def K_rises {S : Type}  : Fn S := fnD 3 (B_rises )

-- is_all_of: slots text 0, signs 1, sign 2; cells signs
def B_is_all_of {S : Type}  : Sv S :=
    (sRet (cQu false (iOf asS (cVar 0)) (gNm 2) qYes (cB pIn (cVar 2) (cVar 1)) [2]))
def K_is_all_of {S : Type}  : Fn S := fnD 3 (B_is_all_of )

-- is_small: slots thing 0, least 1, most 2
def B_is_small {S : Type} (F_is_all_of : Fn S) : Sv S :=
    (sRet (cAnd (cU (pIsi "str") (cVar 0)) (cAnd (cCh pLe pLe (cVar 1) (cN pLen (aCons (cVar 0) aNil)) (cVar 2)) (cCall 2 F_is_all_of (aCons (cVar 0) (aCons (cK (.str "abcdefghijklmnopqrstuvwxyz")) aNil))))))
def K_is_small {S : Type} (F_is_all_of : Fn S) : Fn S := fnD 3 (B_is_small F_is_all_of)

-- is_name: slots thing 0
def B_is_name {S : Type} (F_is_small : Fn S) : Sv S :=
    (sSeq (sIf (qOr (qNot (qT (cU (pIsi "str") (cVar 0)))) (qNot (qT (cVar 0))))
    (sRet (cK (.bool false)))
    sNx)
    (sRet (cAnd (cB pIn (cB pIx (cVar 0) (cK (.int 0))) (cK (.str "ABCDEFGHIJKLMNOPQRSTUVWXYZ"))) (cCall 3 F_is_small (aCons (cSl pSl (cVar 0) (oOf (cK (.int 1))) oNo) (aCons (cK (.int 0)) (aCons (cK (.int 7)) aNil)))))))
def K_is_name {S : Type} (F_is_small : Fn S) : Fn S := fnD 1 (B_is_name F_is_small)

-- is_kind: slots thing 0
def B_is_kind {S : Type} (F_is_small : Fn S) : Sv S :=
    (sRet (cAnd (cCall 3 F_is_small (aCons (cVar 0) (aCons (cK (.int 2)) (aCons (cK (.int 8)) aNil)))) (cB pNotIn (cVar 0) (cK d_BARRED))))
def K_is_kind {S : Type} (F_is_small : Fn S) : Fn S := fnD 1 (B_is_kind F_is_small)

-- is_row_of_names: slots thing 0, word 1
def B_is_row_of_names {S : Type} (F_rises : Fn S) (F_is_name : Fn S) : Sv S :=
    (sRet (cAnd (cU (pIsi "tuple") (cVar 0)) (cAnd (cQu false (iOf asT (cVar 0)) (gNm 1) qYes (cCall 1 F_is_name (aCons (cVar 1) aNil)) [1]) (cCall 1 F_rises (aCons (cVar 0) aNil)))))
def K_is_row_of_names {S : Type} (F_rises : Fn S) (F_is_name : Fn S) : Fn S := fnD 2 (B_is_row_of_names F_rises F_is_name)

-- is_row_of_kinds: slots thing 0, word 1
def B_is_row_of_kinds {S : Type} (F_rises : Fn S) (F_is_kind : Fn S) : Sv S :=
    (sRet (cAnd (cU (pIsi "tuple") (cVar 0)) (cAnd (cQu false (iOf asT (cVar 0)) (gNm 1) qYes (cCall 1 F_is_kind (aCons (cVar 1) aNil)) [1]) (cCall 1 F_rises (aCons (cVar 0) aNil)))))
def K_is_row_of_kinds {S : Type} (F_rises : Fn S) (F_is_kind : Fn S) : Fn S := fnD 2 (B_is_row_of_kinds F_rises F_is_kind)

-- is_vocabulary: slots thing 0, names 1, kinds 2, doings 3
def B_is_vocabulary {S : Type} (F_is_row_of_kinds : Fn S) (F_is_row_of_names : Fn S) : Sv S :=
    (sSeq (sIf (qOr (qNot (qT (cU (pIsi "tuple") (cVar 0)))) (qT (cB pNe (cN pLen (aCons (cVar 0) aNil)) (cK (.int 3)))))
    (sRet (cK (.bool false)))
    sNx)
    (sSeq (sAsg (cVar 0) (gTp (gC (gNm 1) (gC (gNm 2) (gC (gNm 3) gN0)))))
    (sSeq (sIf (qOr (qNot (qT (cCall 1 F_is_row_of_names (aCons (cVar 1) aNil)))) (qOr (qNot (qT (cCall 1 F_is_row_of_kinds (aCons (cVar 2) aNil)))) (qNot (qT (cCall 1 F_is_row_of_kinds (aCons (cVar 3) aNil))))))
    (sRet (cK (.bool false)))
    sNx)
    (sRet (cB pEq (cLenX (xAnd (xSet (cVar 2)) (xSet (cVar 3)))) (cK (.int 0)))))))
def K_is_vocabulary {S : Type} (F_is_row_of_kinds : Fn S) (F_is_row_of_names : Fn S) : Fn S := fnD 4 (B_is_vocabulary F_is_row_of_kinds F_is_row_of_names)

-- _law_tail: slots _law_deck_here 0, _law_size 1, _law_k 2; cells _law_deck_here
def B_w_tail {S : Type} (F_w_take : Fn S) : Sv S :=
    (sRet (cB pJoin (cK (.str "")) (cNl (lcF (iOfA pR1 (aCons (cVar 1) aNil)) (gNm 2) qYes (cB pIx (cK (.str "abcdefghijklmnopqrstuvwxyz")) (cCall 2 F_w_take (aCons (cVar 0) (aCons (cK (.int 26)) aNil)))) [2]))))
def K_w_tail {S : Type} (F_w_take : Fn S) : Fn S := fnD 3 (B_w_tail F_w_take)

-- _law_names: slots _law_deck_here 0, _law_many 1, _law_great 2, _law_first 3, _law_word 4, _law_k 5; cells _law_deck_here, _law_first, _law_great, _law_word
def B_w_names {S : Type} (F_w_take : Fn S) (F_w_tail : Fn S) : Sv S :=
    (sSeq (sSet 2 (cK (.str "ABCDEFGHIJKLMNOPQRSTUVWXYZ")))
    (sSeq (sSet 3 (cCall 2 F_w_take (aCons (cVar 0) (aCons (cK (.int 26)) aNil))))
    (sSeq (sIf (qT (cB pEq (cCall 2 F_w_take (aCons (cVar 0) (aCons (cK (.int 3)) aNil))) (cK (.int 0))))
    (sSeq (sSet 4 (cB pAdd (cB pIx (cVar 2) (cVar 3)) (cCall 2 F_w_tail (aCons (cVar 0) (aCons (cK (.int 7)) aNil)))))
      (sRet (cNl (lcF (iOfA pR1 (aCons (cVar 1) aNil)) (gNm 5) qYes (cSl pSl (cVar 4) oNo (oOf (cB pAdd (cK (.int 1)) (cVar 5)))) [5]))))
    sNx)
    (sRet (cNl (lcF (iOfA pR1 (aCons (cVar 1) aNil)) (gNm 5) qYes (cB pAdd (cB pIx (cVar 2) (cB pMod (cB pAdd (cVar 3) (cVar 5)) (cK (.int 26)))) (cCall 2 F_w_tail (aCons (cVar 0) (aCons (cCall 2 F_w_take (aCons (cVar 0) (aCons (cK (.int 8)) aNil))) aNil)))) [5]))))))
def K_w_names {S : Type} (F_w_take : Fn S) (F_w_tail : Fn S) : Fn S := fnD 6 (B_w_names F_w_take F_w_tail)

-- _law_words: slots _law_deck_here 0, _law_many 1, _law_small 2, _law_first 3, _law_word 4, _law_found 5, _law_k 6; cells _law_word; own [5]
def B_w_words {S : Type} (F_w_take : Fn S) (F_w_tail : Fn S) : Sv S :=
    (sSeq (sSet 2 (cK (.str "abcdefghijklmnopqrstuvwxyz")))
    (sSeq (sSet 3 (cCall 2 F_w_take (aCons (cVar 0) (aCons (cK (.int 26)) aNil))))
    (sSeq (sIf (qAnd (qT (cB pEq (cCall 2 F_w_take (aCons (cVar 0) (aCons (cK (.int 3)) aNil))) (cK (.int 0)))) (qT (cB pLt (cVar 1) (cK (.int 7)))))
    (sSeq (sSet 4 (cB pAdd (cB pAdd (cB pIx (cVar 2) (cVar 3)) (cB pIx (cK (.str "qzkj")) (cCall 2 F_w_take (aCons (cVar 0) (aCons (cK (.int 4)) aNil))))) (cCall 2 F_w_tail (aCons (cVar 0) (aCons (cK (.int 6)) aNil)))))
      (sRet (cNl (lcF (iOfA pR1 (aCons (cVar 1) aNil)) (gNm 6) qYes (cSl pSl (cVar 4) oNo (oOf (cB pAdd (cK (.int 2)) (cVar 6)))) [6]))))
    sNx)
    (sSeq (sOwn 5 (aN lenOk aNil))
    (sSeq (sFor (iOfA pR1 (aCons (cVar 1) aNil)) (gNm 6)
    (sApp 5 (cB pAdd (cB pAdd (cB pIx (cVar 2) (cB pMod (cB pAdd (cVar 3) (cVar 6)) (cK (.int 26)))) (cB pIx (cK (.str "qzkj")) (cCall 2 F_w_take (aCons (cVar 0) (aCons (cK (.int 4)) aNil))))) (cCall 2 F_w_tail (aCons (cVar 0) (aCons (cCall 2 F_w_take (aCons (cVar 0) (aCons (cK (.int 7)) aNil))) aNil))))))
    (sRet (cVar 5)))))))
def K_w_words {S : Type} (F_w_take : Fn S) (F_w_tail : Fn S) : Fn S := fnD 7 (B_w_words F_w_take F_w_tail)

-- _law_vocabulary: slots _law_deck_here 0, _law_most 1, _law_names_here 2, _law_lots 3, _law_words_here 4, _law_turn 5
def B_w_vocabulary {S : Type} (F_w_take : Fn S) (F_w_names : Fn S) (F_w_words : Fn S) : Sv S :=
    (sSeq (sSet 1 (cB pIx (cN pLst (aCons (cN pLst (aCons (cK (.int 3)) (aCons (cK (.int 4)) (aCons (cK (.int 2)) aNil)))) (aCons (cN pLst (aCons (cK (.int 6)) (aCons (cK (.int 6)) (aCons (cK (.int 3)) aNil)))) aNil))) (cN pInt (aCons (cB pEq (cCall 2 F_w_take (aCons (cVar 0) (aCons (cK (.int 8)) aNil))) (cK (.int 7))) aNil))))
    (sSeq (sSet 2 (cNl (aN pSorted (aCons (cCall 2 F_w_names (aCons (cVar 0) (aCons (cCall 2 F_w_take (aCons (cVar 0) (aCons (cB pAdd (cB pIx (cVar 1) (cK (.int 0))) (cK (.int 1))) aNil))) aNil))) aNil))))
    (sSeq (sSet 3 (cCall 2 F_w_take (aCons (cVar 0) (aCons (cB pAdd (cB pIx (cVar 1) (cK (.int 1))) (cK (.int 1))) aNil))))
    (sSeq (sSet 4 (cCall 2 F_w_words (aCons (cVar 0) (aCons (cB pAdd (cVar 3) (cCall 2 F_w_take (aCons (cVar 0) (aCons (cB pAdd (cB pIx (cVar 1) (cK (.int 2))) (cK (.int 1))) aNil)))) aNil))))
    (sSeq (sSet 5 (cCall 2 F_w_take (aCons (cVar 0) (aCons (cB pAdd (cN pLen (aCons (cVar 4) aNil)) (cK (.int 1))) aNil))))
    (sSeq (sSet 4 (cB pAdd (cSl pSl (cVar 4) (oOf (cVar 5)) oNo) (cSl pSl (cVar 4) oNo (oOf (cVar 5)))))
    (sRet (cN pTup (aCons (cN pTuple (aCons (cVar 2) aNil)) (aCons (cN pTuple (aCons (cNl (aN pSorted (aCons (cSl pSl (cVar 4) oNo (oOf (cVar 3))) aNil))) aNil)) (aCons (cN pTuple (aCons (cNl (aN pSorted (aCons (cSl pSl (cVar 4) (oOf (cVar 3)) oNo) aNil))) aNil)) aNil)))))))))))
def K_w_vocabulary {S : Type} (F_w_take : Fn S) (F_w_names : Fn S) (F_w_words : Fn S) : Fn S := fnD 6 (B_w_vocabulary F_w_take F_w_names F_w_words)

-- _law_all_in: slots _law_text 0, _law_signs 1, _law_sign 2; cells _law_signs
def B_w_all_in {S : Type}  : Sv S :=
    (sRet (cB pEq (cNl (lcF (iOf asS (cVar 0)) (gNm 2) (qT (cB pNotIn (cVar 2) (cVar 1))) (cVar 2) [2])) (cN pLst aNil)))
def K_w_all_in {S : Type}  : Fn S := fnD 3 (B_w_all_in )

-- _law_is_word: slots _law_thing 0, _law_great 1, _law_own 2, _law_small 3
def B_w_is_word {S : Type} (F_w_all_in : Fn S) : Sv S :=
    (sSeq (sSet 2 (cK (.str "absurd all an and any are as at be by false if is least many more no not only")))
    (sSeq (sSet 2 (cB pAdd (cVar 2) (cK (.str " or same some than the then"))))
    (sSeq (sSet 3 (cK (.str "abcdefghijklmnopqrstuvwxyz")))
    (sSeq (sIf (qOr (qNot (qT (cU (pIsi "str") (cVar 0)))) (qOr (qT (cB pEq (cVar 0) (cK (.str "")))) (qT (cB pGt (cN pLen (aCons (cVar 0) aNil)) (cK (.int 8))))))
    (sRet (cK (.bool false)))
    sNx)
    (sSeq (sIf (qT (cVar 1))
    (sRet (cAnd (cB pIn (cB pIx (cVar 0) (cK (.int 0))) (cK (.str "ABCDEFGHIJKLMNOPQRSTUVWXYZ"))) (cCall 2 F_w_all_in (aCons (cSl pSl (cVar 0) (oOf (cK (.int 1))) oNo) (aCons (cVar 3) aNil)))))
    sNx)
    (sSeq (sSet 2 (cNl (aSplit (cB pAdd (cVar 2) (cK (.str " there every either unless"))) (cK (.str " ")))))
    (sRet (cAnd (cB pGt (cN pLen (aCons (cVar 0) aNil)) (cK (.int 1))) (cAnd (cCall 2 F_w_all_in (aCons (cVar 0) (aCons (cVar 3) aNil))) (cB pNotIn (cVar 0) (cVar 2)))))))))))
def K_w_is_word {S : Type} (F_w_all_in : Fn S) : Fn S := fnD 4 (B_w_is_word F_w_all_in)

-- _law_is: slots _law_thing 0, _law_k 1, _law_row 2, _law_word 3; cells _law_k, _law_thing
def B_w_is {S : Type} (F_w_is_word : Fn S) : Sv S :=
    (sSeq (sIf (qOr (qNot (qT (cU (pIsi "tuple") (cVar 0)))) (qT (cB pNe (cN pLen (aCons (cVar 0) aNil)) (cK (.int 3)))))
    (sRet (cK (.bool false)))
    sNx)
    (sSeq (sFor (iOfA pEnumT (aCons (cVar 0) aNil)) (gTp (gC (gNm 1) (gC (gNm 2) gN0)))
    (sSeq (sIf (qOr (qNot (qT (cU (pIsi "tuple") (cVar 2)))) (qT (cB pNe (cNl (lcF (iOf asT (cVar 2)) (gNm 3) (qNot (qT (cCall 2 F_w_is_word (aCons (cVar 3) (aCons (cB pEq (cVar 1) (cK (.int 0))) aNil))))) (cVar 3) [3])) (cN pLst aNil))))
      (sRet (cK (.bool false)))
      sNx)
      (sIf (qT (cB pNe (cNl (aN pList (aCons (cVar 2) aNil))) (cNl (aSortX (xSet (cVar 2))))))
      (sRet (cK (.bool false)))
      sNx)))
    (sRet (cB pEq (cNl (lcF (iOf asT (cB pIx (cVar 0) (cK (.int 1)))) (gNm 3) (qT (cB pIn (cVar 3) (cB pIx (cVar 0) (cK (.int 2))))) (cVar 3) [3])) (cN pLst aNil)))))
def K_w_is {S : Type} (F_w_is_word : Fn S) : Fn S := fnD 4 (B_w_is F_w_is_word)

-- _law_bent_row: slots _law_deck_here 0, _law_row 1, _law_voc 2, _law_way 3, _law_at 4, _law_odd 5, _law_every 6
def B_w_bent_row {S : Type} (F_w_take : Fn S) : Sv S :=
    (sSeq (sSet 3 (cCall 2 F_w_take (aCons (cVar 0) (aCons (cK (.int 7)) aNil))))
    (sSeq (sSet 4 (cCall 2 F_w_take (aCons (cVar 0) (aCons (cB pAdd (cN pLen (aCons (cVar 1) aNil)) (cK (.int 1))) aNil))))
    (sSeq (sSet 5 (cN pLst (aCons (cK (.str "")) (aCons (cK (.str "T")) (aCons (cK (.str "zq")) (aCons (cK (.str "Ann")) (aCons (cK (.str "some")) (aCons (cK (.str "false")) (aCons (cK (.str "ninesigns")) (aCons (cK (.str "a")) (aCons (cK (.str "A1")) (aCons (cK .none) (aCons (cK (.bool true)) (aCons (cK (.int 7)) (aCons (cN pTup (aCons (cK (.str "zq")) aNil)) (aCons (cK (.str "zQ")) (aCons (cK (.str "z q")) aNil)))))))))))))))))
    (sSeq (sSet 6 (cB pAdd (cB pAdd (cB pAdd (cNl (aN pList (aCons (cB pIx (cVar 2) (cK (.int 0))) aNil))) (cNl (aN pList (aCons (cB pIx (cVar 2) (cK (.int 1))) aNil)))) (cNl (aN pList (aCons (cB pIx (cVar 2) (cK (.int 2))) aNil)))) (cVar 5)))
    (sSeq (sIf (qT (cB pEq (cVar 3) (cK (.int 0))))
    (sRet (cU pBack (cVar 1)))
    sNx)
    (sSeq (sIf (qT (cB pEq (cVar 3) (cK (.int 1))))
    (sRet (cB pAdd (cB pAdd (cSl pSl (cVar 1) oNo (oOf (cVar 4))) (cSl pSl (cVar 1) (oOf (cVar 4)) (oOf (cB pAdd (cVar 4) (cK (.int 1)))))) (cSl pSl (cVar 1) (oOf (cVar 4)) oNo)))
    sNx)
    (sSeq (sIf (qT (cB pLt (cVar 3) (cK (.int 4))))
    (sRet (cB pAdd (cB pAdd (cSl pSl (cVar 1) oNo (oOf (cVar 4))) (cN pTup (aCons (cB pIx (cVar 6) (cCall 2 F_w_take (aCons (cVar 0) (aCons (cN pLen (aCons (cVar 6) aNil)) aNil)))) aNil))) (cSl pSl (cVar 1) (oOf (cVar 4)) oNo)))
    sNx)
    (sSeq (sIf (qT (cB pEq (cVar 3) (cK (.int 4))))
    (sRet (cB pAdd (cB pAdd (cSl pSl (cVar 1) oNo (oOf (cVar 4))) (cN pTup (aCons (cB pIx (cVar 5) (cCall 2 F_w_take (aCons (cVar 0) (aCons (cK (.int 15)) aNil)))) aNil))) (cSl pSl (cVar 1) (oOf (cB pAdd (cVar 4) (cK (.int 1)))) oNo)))
    sNx)
    (sSeq (sIf (qT (cB pEq (cVar 3) (cK (.int 5))))
    (sRet (cNl (aN pList (aCons (cVar 1) aNil))))
    sNx)
    (sRet (cB pAdd (cSl pSl (cVar 1) oNo (oOf (cVar 4))) (cSl pSl (cVar 1) (oOf (cB pAdd (cVar 4) (cK (.int 1)))) oNo))))))))))))
def K_w_bent_row {S : Type} (F_w_take : Fn S) : Fn S := fnD 7 (B_w_bent_row F_w_take)

end Lw01
set_option Elab.async false
set_option linter.all false
set_option maxRecDepth 100000
set_option maxHeartbeats 4000000
namespace Dl
open PySem PySem.Spec L2
section
variable {S : Type} {t : Tg} {q : Et S} {f : Ev S} {ρ : Rho} {s : S}
theorem quF_all (c p : D → Bool) : ∀ ds : List D, (∀ d ∈ ds, ∃ ρ1, t d ρ = some ρ1 ∧ q ρ1 s = some (c d, s) ∧ (c d = true → f ρ1 s = some (.bool (p d), s))) → quF false t q f ρ ds s = some ((ds.filter c).all p, s)
  | [], _ => rfl
  | d :: ds, h => by
    obtain ⟨ρ1, h1, h2, h3⟩ := h d List.mem_cons_self
    have ih := quF_all c p ds fun x hx => h x (List.mem_cons_of_mem _ hx)
    unfold quF
    rw [h1]
    show bnd (q ρ1 s) _ = _
    rw [h2]
    cases hc : c d with
    | false =>
      rw [List.filter_cons_of_neg (by rw [hc]; decide)]
      exact ih
    | true =>
      rw [List.filter_cons_of_pos hc, List.all_cons]
      show bnd (f ρ1 s) _ = _
      rw [h3 hc]
      cases hp : p d with
      | false => rfl
      | true =>
        rw [Bool.true_and]
        exact ih
theorem quF_any (c p : D → Bool) : ∀ ds : List D, (∀ d ∈ ds, ∃ ρ1, t d ρ = some ρ1 ∧ q ρ1 s = some (c d, s) ∧ (c d = true → f ρ1 s = some (.bool (p d), s))) → quF true t q f ρ ds s = some ((ds.filter c).any p, s)
  | [], _ => rfl
  | d :: ds, h => by
    obtain ⟨ρ1, h1, h2, h3⟩ := h d List.mem_cons_self
    have ih := quF_any c p ds fun x hx => h x (List.mem_cons_of_mem _ hx)
    unfold quF
    rw [h1]
    show bnd (q ρ1 s) _ = _
    rw [h2]
    cases hc : c d with
    | false =>
      rw [List.filter_cons_of_neg (by rw [hc]; decide)]
      exact ih
    | true =>
      rw [List.filter_cons_of_pos hc, List.any_cons]
      show bnd (f ρ1 s) _ = _
      rw [h3 hc]
      cases hp : p d with
      | true => rfl
      | false =>
        rw [Bool.false_or]
        exact ih
theorem k_all {fi : Ea S} {vs : List Nat} {ds : List D} (c p : D → Bool) (hi : fi ρ s = some (ds, s)) (h : ∀ d ∈ ds, ∃ ρ1, t d (wipeR ρ vs) = some ρ1 ∧ q ρ1 s = some (c d, s) ∧ (c d = true → f ρ1 s = some (.bool (p d), s))) :
    cQu false fi t q f vs ρ s = some (.bool ((ds.filter c).all p), s) := by
  unfold cQu
  rw [hi]
  show bnd (quF false t q f (wipeR ρ vs) ds s) _ = _
  rw [quF_all c p ds h]
  rfl
theorem k_any {fi : Ea S} {vs : List Nat} {ds : List D} (c p : D → Bool) (hi : fi ρ s = some (ds, s)) (h : ∀ d ∈ ds, ∃ ρ1, t d (wipeR ρ vs) = some ρ1 ∧ q ρ1 s = some (c d, s) ∧ (c d = true → f ρ1 s = some (.bool (p d), s))) :
    cQu true fi t q f vs ρ s = some (.bool ((ds.filter c).any p), s) := by
  unfold cQu
  rw [hi]
  show bnd (quF true t q f (wipeR ρ vs) ds s) _ = _
  rw [quF_any c p ds h]
  rfl
end
end Dl
set_option Elab.async false
set_option linter.all false
set_option maxRecDepth 100000
set_option maxHeartbeats 1000000
/-! small facts for the mathematics of a law -/
namespace Mx
open PySem PySem.Spec L2 Dl
theorem szL {n : Nat} (h : n ≤ 100000) : n ≤ sizeLine := Nat.le_trans h (by decide)
theorem szl {n : Nat} (h : n < 100000) : n < sizeLine := Nat.lt_of_lt_of_le h (by decide)
theorem rng_len (lo : Int) (n : Nat) : (rngD lo n).length = n := by simp [rngD]
theorem rng_get {n j : Nat} {lo : Int} {d : D} (h : (rngD lo n)[j]? = some d) : j < n ∧ d = .int (lo + j) := by
  unfold rngD at h
  rw [List.getElem?_map] at h
  by_cases hj : j < n
  · rw [List.getElem?_range hj] at h
    cases h
    exact ⟨hj, rfl⟩
  · rw [List.getElem?_eq_none (by simpa using hj)] at h
    cases h
theorem pr1 {j : Int} (h : -(2 ^ 62) ≤ j) (h2 : j < 2 ^ 62) : pR1 [.int j] = some (rngD 0 j.toNat) := by simp only [pR1]; rw [if_pos ⟨h, h2⟩]
section
variable {S : Type} {s : S}
theorem ok_eq {o : Option (D × S)} {d : D} (h : Ok o fun a b => a = d ∧ b = s) : o = some (d, s) := by
  obtain ⟨a, b, e, rfl, rfl⟩ := h
  exact e
theorem ok_eqL {o : Option (List D × S)} {d : List D} (h : Ok o fun a b => a = d ∧ b = s) : o = some (d, s) := by
  obtain ⟨a, b, e, rfl, rfl⟩ := h
  exact e
theorem ok_eqB {o : Option (Bool × S)} {d : Bool} (h : Ok o fun a b => a = d ∧ b = s) : o = some (d, s) := by
  obtain ⟨a, b, e, rfl, rfl⟩ := h
  exact e
end
theorem k_keep {S : Type} {ds : List D} {q : Et S} {f : Ev S} {fi : Ea S} {t : Tg} {vs : List Nat} {ρ : Rho} {s : S} (c : D → Bool) (g : D → D) (hl : ds.length ≤ sizeLine) (hi : fi ρ s = some (ds, s))
    (hq : ∀ d ∈ ds, ∃ ρ1, t d (wipeR ρ vs) = some ρ1 ∧ q ρ1 s = some (c d, s) ∧ (c d = true → f ρ1 s = some (g d, s))) : lcF fi t q f vs ρ s = some ((ds.filter c).map g, s) := by
  unfold lcF
  rw [hi]
  show (if ds.length ≤ sizeLine then compF t q f (wipeR ρ vs) ds s else none) = _
  rw [if_pos hl]
  clear hl hi
  induction ds with
  | nil => rfl
  | cons d ds ih =>
    obtain ⟨ρ1, h1, h2, h3⟩ := hq d List.mem_cons_self
    have ih := ih fun x hx => hq x (List.mem_cons_of_mem _ hx)
    unfold compF
    rw [h1]
    show bnd (q ρ1 s) _ = _
    rw [h2]
    cases hc : c d with
    | false =>
      rw [List.filter_cons_of_neg (by rw [hc]; decide)]
      exact ih
    | true =>
      rw [List.filter_cons_of_pos hc, List.map_cons]
      show bnd (f ρ1 s) _ = _
      rw [h3 hc]
      show bnd (compF t q f (wipeR ρ vs) ds s) _ = _
      rw [ih]
      rfl
theorem mem_strs (w : Str) (ns : List Str) : memD (.str w) (ns.map .str) = some (decide (w ∈ ns)) := by
  unfold memD
  rw [if_pos ⟨rfl, by rw [List.all_map]; exact List.all_eq_true.mpr fun _ _ => rfl⟩]
  congr 1
  rw [List.any_map, Bool.eq_iff_iff, List.any_eq_true, decide_eq_true_eq]
  constructor
  · rintro ⟨x, hx, e⟩
    have e : decide (x = w) = true := e
    rw [← of_decide_eq_true e]
    exact hx
  · intro h
    exact ⟨w, h, decide_eq_true rfl⟩
theorem in_strs (w : Str) (ns : List Str) : pIn (.str w) (.tuple (ns.map .str)) = some (.bool (decide (w ∈ ns))) := by
  simp only [pIn, inD, mem_strs, Option.map_some]
theorem notIn_strs (w : Str) (ns : List Str) : pNotIn (.str w) (.tuple (ns.map .str)) = some (.bool (!decide (w ∈ ns))) := by
  simp only [pNotIn, inD, mem_strs, Option.map_some]
theorem in_strsL (w : Str) (ns : List Str) : pIn (.str w) (.list (ns.map .str)) = some (.bool (decide (w ∈ ns))) := by
  simp only [pIn, inD, mem_strs, Option.map_some]
theorem notIn_strsL (w : Str) (ns : List Str) : pNotIn (.str w) (.list (ns.map .str)) = some (.bool (!decide (w ∈ ns))) := by
  simp only [pNotIn, inD, mem_strs, Option.map_some]
theorem in_sign (c : Nat) (z : Str) : pIn (.str ⟨#[c]⟩) (.str z) = some (.bool (decide (c ∈ z.cps.toList))) := rfl
theorem notIn_sign (c : Nat) (z : Str) : pNotIn (.str ⟨#[c]⟩) (.str z) = some (.bool (!decide (c ∈ z.cps.toList))) := rfl
theorem cps_inj {a b : Str} (h : a.cps = b.cps) : a = b := by
  cases a
  cases b
  cases h
  rfl
theorem cpl_inj {a b : Str} (h : a.cps.toList = b.cps.toList) : a = b := cps_inj (Array.toList_inj.mp h)
theorem v_slT {ds : List D} {lo hi : Option Int} : pSl (.tuple ds) lo hi = some (.tuple (cutD ds lo hi)) := rfl
theorem v_slL {ds : List D} {lo hi : Option Int} : pSl (.list ds) lo hi = some (.list (cutD ds lo hi)) := rfl
theorem v_slS {z : Str} {lo hi : Option Int} (h : z.length ≤ sizeLine) : pSl (.str z) lo hi = some (.str (cutS z lo hi)) := by simp only [pSl]; rw [if_pos h]
theorem cutD_to (xs : List D) (k : Nat) : cutD xs none (some (k : Int)) = xs.take k := by
  unfold cutD
  rw [HT.sIx_none, HT.sIx_nat, List.drop_zero, Nat.sub_zero]
  by_cases h : k ≤ xs.length
  · rw [Nat.min_eq_left h]
  · rw [Nat.min_eq_right (by omega), List.take_length, List.take_of_length_le (by omega)]
theorem cutD_from (xs : List D) (k : Nat) : cutD xs (some (k : Int)) none = xs.drop k := by
  unfold cutD
  rw [HT.sIx_nat, HT.sIx_none]
  by_cases h : k ≤ xs.length
  · rw [Nat.min_eq_left h, List.take_of_length_le (by rw [List.length_drop]; exact Nat.le_refl _)]
  · rw [Nat.min_eq_right (by omega), Nat.sub_self, List.take_zero, List.drop_of_length_le (by omega)]
theorem lay_strs : ∀ ns : List Str, (∀ n ∈ ns, PyData.strOk n = true) → PyData.canLayAll0 (ns.map .str) = true
  | [], _ => by simp [PyData.canLayAll0]
  | n :: ns, h => by simp [PyData.canLayAll0, PyData.canLay0, lay_strs ns (fun x hx => h x (List.mem_cons_of_mem _ hx)), h n List.mem_cons_self]
theorem dep_strs : ∀ ns : List Str, PyData.depthAll (ns.map .str) = 0
  | [] => by simp [PyData.depthAll]
  | n :: ns => by simp [PyData.depthAll, PyData.depth, dep_strs ns]
theorem strs_shape {ns : List Str} (h : ∀ n ∈ ns, PyData.strOk n = true) : SeqAt.shaped (.list (ns.map .str)) = true := by
  have h1 : PyData.canLay0 (.list (ns.map PyData.str)) = true := by simpa [PyData.canLay0] using lay_strs ns h
  have h2 : PyData.depth (.list (ns.map PyData.str)) = 1 := by
    show PyData.depthAll (ns.map PyData.str) + 1 = 1
    rw [dep_strs]
  unfold SeqAt.shaped
  rw [h1, h2]
  rfl
theorem eqvAll_strs : ∀ a b : List Str, PyData.eqvAll (a.map .str) (b.map .str) = decide (a = b)
  | [], [] => by simp [PyData.eqvAll]
  | [], b :: bs => by simp [PyData.eqvAll]
  | a :: as, [] => by simp [PyData.eqvAll]
  | a :: as, b :: bs => by
    have ih := eqvAll_strs as bs
    simp only [List.map_cons, PyData.eqvAll, PyData.eqv, ih]
    rw [Bool.eq_iff_iff]
    simp
theorem ne_strs {a b : List Str} (ha : ∀ n ∈ a, PyData.strOk n = true) (hb : ∀ n ∈ b, PyData.strOk n = true) : pNe (.list (a.map .str)) (.list (b.map .str)) = some (.bool (!decide (a = b))) := by
  unfold pNe
  cases b with
  | nil =>
    rw [List.map_nil, v_eq0]
    cases a <;> simp
  | cons y ys =>
    have e : pEq (.list (a.map .str)) (.list ((y :: ys).map .str)) = some (.bool (decide (a = y :: ys))) := by
      show (if SeqAt.shaped (.list (a.map .str)) = true ∧ SeqAt.shaped (.list ((y :: ys).map .str)) = true then some (PyData.bool (PyData.eqv (.list (a.map .str)) (.list ((y :: ys).map .str)))) else none) = _
      rw [if_pos ⟨strs_shape ha, strs_shape hb⟩]
      show some (PyData.bool (PyData.eqvAll _ _)) = _
      rw [eqvAll_strs]
    rw [e]
end Mx
set_option Elab.async false
set_option linter.all false
set_option maxRecDepth 100000
set_option maxHeartbeats 1000000
namespace Lw01
open PySem PySem.Spec L2 Dl Mx Ds
section
variable {S : Type} {s : S}
/-! ### the program's functions, as equations -/
def inAll (l : List Nat) (b : Str) : Bool := l.all fun c => decide (c ∈ b.cps.toList)
def sgD (c : Nat) : D := .str ⟨#[c]⟩
def sgC (p : Nat → Bool) : D → Bool
  | .str x => match sign1 x with
    | some c => p c
    | none => false
  | _ => false
theorem sgC_sg (p : Nat → Bool) (c : Nat) : sgC p (sgD c) = p c := rfl
theorem all_of_eq {a b : Str} : K_is_all_of [.str a, .str b] s = some (.bool (inAll a.cps.toList b), s) := by
  apply ok_eq
  unfold K_is_all_of B_is_all_of
  refine k_fn (k_ret ?_)
  have h : cQu false (iOf asS (cVar 0)) (gNm 2) qYes (cB pIn (cVar 2) (cVar 1)) [2] (startR 3 [.str a, .str b]) s = some (.bool (((a.cps.toList.map sgD).filter fun _ => true).all (sgC fun c => decide (c ∈ b.cps.toList))), s) := by
    refine k_all (fun _ => true) _ rfl fun d hd => ?_
    obtain ⟨c, _, rfl⟩ := List.mem_map.mp hd
    exact ⟨_, rfl, rfl, fun _ => rfl⟩
  refine Ok.of h ⟨?_, rfl⟩
  rw [List.filter_eq_self.mpr (fun _ _ => rfl), List.all_map]
  rfl
def smallB (lo hi : Int) : D → Bool
  | .str z => decide (lo ≤ (z.length : Int)) && (decide ((z.length : Int) ≤ hi) && inAll z.cps.toList "abcdefghijklmnopqrstuvwxyz")
  | _ => false
/-- a thing of which the laws ask: a text that isn't long, or no text -/
def Dec : D → Prop
  | .str z => z.length ≤ 1000
  | .dict kvs => kvs = []
  | _ => True
theorem isi_str : ∀ {d : D}, Dec d → pIsi "str" d = some (.bool (match d with | .str _ => true | _ => false))
  | .none, _ => rfl
  | .bool _, _ => by rfl
  | .int _, _ => by rfl
  | .str _, _ => by rfl
  | .list _, _ => by rfl
  | .tuple _, _ => by rfl
  | .dict kvs, h => by
    have h : kvs = [] := h
    subst h
    rfl
theorem isi_tup : ∀ {d : D}, Dec d → pIsi "tuple" d = some (.bool (match d with | .tuple _ => true | _ => false))
  | .none, _ => rfl
  | .bool _, _ => by rfl
  | .int _, _ => by rfl
  | .str _, _ => by rfl
  | .list _, _ => by rfl
  | .tuple _, _ => by rfl
  | .dict kvs, h => by
    have h : kvs = [] := h
    subst h
    rfl
theorem small_eq {d : D} {lo hi : Int} (h : Dec d) : K_is_small K_is_all_of [d, .int lo, .int hi] s = some (.bool (smallB lo hi d), s) := by
  apply ok_eq
  unfold K_is_small B_is_small
  refine k_fn (k_ret ?_)
  simp only [ok_V0, ok_Vs, ok_K, ok_B, ok_U, ok_nil, ok_cons, ok_N, ok_aN, ok_call, ok_nl, ok_fl, ok_afl, ok_T, ok_qNot, ok_qAnd, ok_qOr, ok_and, ok_or, ok_not, ok_if, ok_Sl, ok_oNo, ok_oOf, ok_Ch, ok_it, ok_itA, ok_yes, v_addI, v_sub, v_neg, v_eqI, v_eqS, v_eqB, v_eq0, v_eqT0, v_neI, v_neS, v_neB, v_ne0, v_neT0, v_ltI, v_leI, v_gtI, v_geI, v_is, v_isNot, v_nn, v_ns, v_ni, v_nl, v_nt, v_tb, v_tl, v_tt, v_tn, v_ti, v_asB, v_asI, v_asL, v_asT, v_asS, v_lenL, v_lenT, v_tupL, v_tupT, v_listL, v_listT, v_intB, v_tup0, v_tup1, v_tup2, v_tup3, v_tup4, v_tup5, v_lst0, v_lst1, v_lst2, v_lst3, v_lst4, v_lst5, v_ok0, v_ok1, v_ok2, v_ix0L, v_ix0, v_ix1, v_ix2, v_ix3, v_fs, v_fi, v_fb, v_fn, v_ft, v_f0, v_fc, startR, List.map_cons, List.map_nil, List.length_cons, List.length_nil, List.replicate, List.cons_append, List.nil_append, List.set_cons_zero, List.set_cons_succ, Option.some.injEq, exists_eq_left', Nat.reduceAdd, Nat.reduceSub, Nat.sub_zero, Nat.sub_self, Nat.zero_add, Nat.reduceEqDiff, Bool.not_true, Bool.not_false, if_true, if_false, Bool.and_self, Bool.true_and, Bool.and_true, Bool.false_eq_true, ↓reduceIte, true_and, and_true, decide_true, decide_false, wipeR, isi_str h]
  cases d with
  | str z =>
    have hz : z.length ≤ sizeLine := szL (Nat.le_trans h (by decide))
    simp only [ok_V0, ok_Vs, ok_K, ok_B, ok_U, ok_nil, ok_cons, ok_N, ok_aN, ok_call, ok_nl, ok_fl, ok_afl, ok_T, ok_qNot, ok_qAnd, ok_qOr, ok_and, ok_or, ok_not, ok_if, ok_Sl, ok_oNo, ok_oOf, ok_Ch, ok_it, ok_itA, ok_yes, v_addI, v_sub, v_neg, v_eqI, v_eqS, v_eqB, v_eq0, v_eqT0, v_neI, v_neS, v_neB, v_ne0, v_neT0, v_ltI, v_leI, v_gtI, v_geI, v_is, v_isNot, v_nn, v_ns, v_ni, v_nl, v_nt, v_tb, v_tl, v_tt, v_tn, v_ti, v_asB, v_asI, v_asL, v_asT, v_asS, v_lenL, v_lenT, v_tupL, v_tupT, v_listL, v_listT, v_intB, v_tup0, v_tup1, v_tup2, v_tup3, v_tup4, v_tup5, v_lst0, v_lst1, v_lst2, v_lst3, v_lst4, v_lst5, v_ok0, v_ok1, v_ok2, v_ix0L, v_ix0, v_ix1, v_ix2, v_ix3, v_fs, v_fi, v_fb, v_fn, v_ft, v_f0, v_fc, startR, List.map_cons, List.map_nil, List.length_cons, List.length_nil, List.replicate, List.cons_append, List.nil_append, List.set_cons_zero, List.set_cons_succ, Option.some.injEq, exists_eq_left', Nat.reduceAdd, Nat.reduceSub, Nat.sub_zero, Nat.sub_self, Nat.zero_add, Nat.reduceEqDiff, Bool.not_true, Bool.not_false, if_true, if_false, Bool.and_self, Bool.true_and, Bool.and_true, Bool.false_eq_true, ↓reduceIte, true_and, and_true, decide_true, decide_false, wipeR, v_lenS hz, all_of_eq, ok_some]
    unfold smallB
    by_cases h1 : lo ≤ (z.length : Int)
    · by_cases h2 : (z.length : Int) ≤ hi
      · simp [h1, h2]
      · simp [h1, h2]
    · simp [h1]
  | _ => simp only [ok_V0, ok_Vs, ok_K, ok_B, ok_U, ok_nil, ok_cons, ok_N, ok_aN, ok_call, ok_nl, ok_fl, ok_afl, ok_T, ok_qNot, ok_qAnd, ok_qOr, ok_and, ok_or, ok_not, ok_if, ok_Sl, ok_oNo, ok_oOf, ok_Ch, ok_it, ok_itA, ok_yes, v_addI, v_sub, v_neg, v_eqI, v_eqS, v_eqB, v_eq0, v_eqT0, v_neI, v_neS, v_neB, v_ne0, v_neT0, v_ltI, v_leI, v_gtI, v_geI, v_is, v_isNot, v_nn, v_ns, v_ni, v_nl, v_nt, v_tb, v_tl, v_tt, v_tn, v_ti, v_asB, v_asI, v_asL, v_asT, v_asS, v_lenL, v_lenT, v_tupL, v_tupT, v_listL, v_listT, v_intB, v_tup0, v_tup1, v_tup2, v_tup3, v_tup4, v_tup5, v_lst0, v_lst1, v_lst2, v_lst3, v_lst4, v_lst5, v_ok0, v_ok1, v_ok2, v_ix0L, v_ix0, v_ix1, v_ix2, v_ix3, v_fs, v_fi, v_fb, v_fn, v_ft, v_f0, v_fc, startR, List.map_cons, List.map_nil, List.length_cons, List.length_nil, List.replicate, List.cons_append, List.nil_append, List.set_cons_zero, List.set_cons_succ, Option.some.injEq, exists_eq_left', Nat.reduceAdd, Nat.reduceSub, Nat.sub_zero, Nat.sub_self, Nat.zero_add, Nat.reduceEqDiff, Bool.not_true, Bool.not_false, if_true, if_false, Bool.and_self, Bool.true_and, Bool.and_true, Bool.false_eq_true, ↓reduceIte, true_and, and_true, decide_true, decide_false, wipeR]; rfl
def nameL : List Nat → Bool
  | [] => false
  | c :: r => decide (c ∈ (Str.ofString "ABCDEFGHIJKLMNOPQRSTUVWXYZ").cps.toList) && (decide (r.length ≤ 7) && inAll r "abcdefghijklmnopqrstuvwxyz")
def nameB : D → Bool
  | .str z => nameL z.cps.toList
  | _ => false
theorem nameB_str (z : Str) : nameB (.str z) = nameL z.cps.toList := rfl
theorem smallB_str (lo hi : Int) (z : Str) : smallB lo hi (.str z) = (decide (lo ≤ (z.length : Int)) && (decide ((z.length : Int) ≤ hi) && inAll z.cps.toList "abcdefghijklmnopqrstuvwxyz")) := rfl
def kindB : D → Bool
  | .str z => smallB 2 8 (.str z) && !decide (z ∈ barW)
  | _ => false
theorem kindB_str (z : Str) : kindB (.str z) = (smallB 2 8 (.str z) && !decide (z ∈ barW)) := rfl
theorem cut1 {c : Nat} {r : List Nat} {z : Str} (e : z.cps.toList = c :: r) : (cutS z (some 1) none).cps.toList = r := by
  unfold cutS
  rw [HT.sIx_none]
  have hl : z.length = r.length + 1 := by
    show z.cps.size = _
    rw [← Array.length_toList, e]
    rfl
  rw [show (1 : Int) = ((1 : Nat) : Int) from rfl, HT.sIx_nat, hl, Nat.min_eq_left (by omega), e]
  simp
theorem name_eq {d : D} (h : Dec d) : K_is_name (K_is_small K_is_all_of) [d] s = some (.bool (nameB d), s) := by
  apply ok_eq
  unfold K_is_name B_is_name
  cases d with
  | str z =>
    have hl : z.length ≤ 1000 := h
    have hz : z.length ≤ sizeLine := szL (Nat.le_trans hl (by decide))
    refine k_fn (k_seq (k_sIf ?_))
    have ht : truth (.str z) = some ((z.length : Int) != 0) := by
      show (if z.length ≤ sizeLine then some ((z.length : Int) != 0) else none) = _
      rw [if_pos hz]
    simp only [ok_V0, ok_Vs, ok_K, ok_B, ok_U, ok_nil, ok_cons, ok_N, ok_aN, ok_call, ok_nl, ok_fl, ok_afl, ok_T, ok_qNot, ok_qAnd, ok_qOr, ok_and, ok_or, ok_not, ok_if, ok_Sl, ok_oNo, ok_oOf, ok_Ch, ok_it, ok_itA, ok_yes, v_addI, v_sub, v_neg, v_eqI, v_eqS, v_eqB, v_eq0, v_eqT0, v_neI, v_neS, v_neB, v_ne0, v_neT0, v_ltI, v_leI, v_gtI, v_geI, v_is, v_isNot, v_nn, v_ns, v_ni, v_nl, v_nt, v_tb, v_tl, v_tt, v_tn, v_ti, v_asB, v_asI, v_asL, v_asT, v_asS, v_lenL, v_lenT, v_tupL, v_tupT, v_listL, v_listT, v_intB, v_tup0, v_tup1, v_tup2, v_tup3, v_tup4, v_tup5, v_lst0, v_lst1, v_lst2, v_lst3, v_lst4, v_lst5, v_ok0, v_ok1, v_ok2, v_ix0L, v_ix0, v_ix1, v_ix2, v_ix3, v_fs, v_fi, v_fb, v_fn, v_ft, v_f0, v_fc, startR, List.map_cons, List.map_nil, List.length_cons, List.length_nil, List.replicate, List.cons_append, List.nil_append, List.set_cons_zero, List.set_cons_succ, Option.some.injEq, exists_eq_left', Nat.reduceAdd, Nat.reduceSub, Nat.sub_zero, Nat.sub_self, Nat.zero_add, Nat.reduceEqDiff, Bool.not_true, Bool.not_false, if_true, if_false, Bool.and_self, Bool.true_and, Bool.and_true, Bool.false_eq_true, ↓reduceIte, true_and, and_true, decide_true, decide_false, wipeR, isi_str h, ht]
    have hzl : z.length = z.cps.toList.length := (Array.length_toList).symm
    cases e : z.cps.toList with
    | nil =>
      rw [e] at hzl
      have hzl : z.length = 0 := hzl
      rw [hzl]
      simp only [ok_V0, ok_Vs, ok_K, ok_B, ok_U, ok_nil, ok_cons, ok_N, ok_aN, ok_call, ok_nl, ok_fl, ok_afl, ok_T, ok_qNot, ok_qAnd, ok_qOr, ok_and, ok_or, ok_not, ok_if, ok_Sl, ok_oNo, ok_oOf, ok_Ch, ok_it, ok_itA, ok_yes, v_addI, v_sub, v_neg, v_eqI, v_eqS, v_eqB, v_eq0, v_eqT0, v_neI, v_neS, v_neB, v_ne0, v_neT0, v_ltI, v_leI, v_gtI, v_geI, v_is, v_isNot, v_nn, v_ns, v_ni, v_nl, v_nt, v_tb, v_tl, v_tt, v_tn, v_ti, v_asB, v_asI, v_asL, v_asT, v_asS, v_lenL, v_lenT, v_tupL, v_tupT, v_listL, v_listT, v_intB, v_tup0, v_tup1, v_tup2, v_tup3, v_tup4, v_tup5, v_lst0, v_lst1, v_lst2, v_lst3, v_lst4, v_lst5, v_ok0, v_ok1, v_ok2, v_ix0L, v_ix0, v_ix1, v_ix2, v_ix3, v_fs, v_fi, v_fb, v_fn, v_ft, v_f0, v_fc, startR, List.map_cons, List.map_nil, List.length_cons, List.length_nil, List.replicate, List.cons_append, List.nil_append, List.set_cons_zero, List.set_cons_succ, Option.some.injEq, exists_eq_left', Nat.reduceAdd, Nat.reduceSub, Nat.sub_zero, Nat.sub_self, Nat.zero_add, Nat.reduceEqDiff, Bool.not_true, Bool.not_false, if_true, if_false, Bool.and_self, Bool.true_and, Bool.and_true, Bool.false_eq_true, ↓reduceIte, true_and, and_true, decide_true, decide_false, wipeR, show (((0 : Nat) : Int) != 0) = false from rfl]
      refine k_ret ?_
      simp only [ok_V0, ok_Vs, ok_K, ok_B, ok_U, ok_nil, ok_cons, ok_N, ok_aN, ok_call, ok_nl, ok_fl, ok_afl, ok_T, ok_qNot, ok_qAnd, ok_qOr, ok_and, ok_or, ok_not, ok_if, ok_Sl, ok_oNo, ok_oOf, ok_Ch, ok_it, ok_itA, ok_yes, v_addI, v_sub, v_neg, v_eqI, v_eqS, v_eqB, v_eq0, v_eqT0, v_neI, v_neS, v_neB, v_ne0, v_neT0, v_ltI, v_leI, v_gtI, v_geI, v_is, v_isNot, v_nn, v_ns, v_ni, v_nl, v_nt, v_tb, v_tl, v_tt, v_tn, v_ti, v_asB, v_asI, v_asL, v_asT, v_asS, v_lenL, v_lenT, v_tupL, v_tupT, v_listL, v_listT, v_intB, v_tup0, v_tup1, v_tup2, v_tup3, v_tup4, v_tup5, v_lst0, v_lst1, v_lst2, v_lst3, v_lst4, v_lst5, v_ok0, v_ok1, v_ok2, v_ix0L, v_ix0, v_ix1, v_ix2, v_ix3, v_fs, v_fi, v_fb, v_fn, v_ft, v_f0, v_fc, startR, List.map_cons, List.map_nil, List.length_cons, List.length_nil, List.replicate, List.cons_append, List.nil_append, List.set_cons_zero, List.set_cons_succ, Option.some.injEq, exists_eq_left', Nat.reduceAdd, Nat.reduceSub, Nat.sub_zero, Nat.sub_self, Nat.zero_add, Nat.reduceEqDiff, Bool.not_true, Bool.not_false, if_true, if_false, Bool.and_self, Bool.true_and, Bool.and_true, Bool.false_eq_true, ↓reduceIte, true_and, and_true, decide_true, decide_false, wipeR]
      rw [nameB_str, e]
      rfl
    | cons c r =>
      rw [e] at hzl
      have hzl : z.length = r.length + 1 := hzl
      have hn : ((z.length : Int) != 0) = true := by
        rw [bne_iff_ne]
        omega
      rw [hn]
      simp only [ok_V0, ok_Vs, ok_K, ok_B, ok_U, ok_nil, ok_cons, ok_N, ok_aN, ok_call, ok_nl, ok_fl, ok_afl, ok_T, ok_qNot, ok_qAnd, ok_qOr, ok_and, ok_or, ok_not, ok_if, ok_Sl, ok_oNo, ok_oOf, ok_Ch, ok_it, ok_itA, ok_yes, v_addI, v_sub, v_neg, v_eqI, v_eqS, v_eqB, v_eq0, v_eqT0, v_neI, v_neS, v_neB, v_ne0, v_neT0, v_ltI, v_leI, v_gtI, v_geI, v_is, v_isNot, v_nn, v_ns, v_ni, v_nl, v_nt, v_tb, v_tl, v_tt, v_tn, v_ti, v_asB, v_asI, v_asL, v_asT, v_asS, v_lenL, v_lenT, v_tupL, v_tupT, v_listL, v_listT, v_intB, v_tup0, v_tup1, v_tup2, v_tup3, v_tup4, v_tup5, v_lst0, v_lst1, v_lst2, v_lst3, v_lst4, v_lst5, v_ok0, v_ok1, v_ok2, v_ix0L, v_ix0, v_ix1, v_ix2, v_ix3, v_fs, v_fi, v_fb, v_fn, v_ft, v_f0, v_fc, startR, List.map_cons, List.map_nil, List.length_cons, List.length_nil, List.replicate, List.cons_append, List.nil_append, List.set_cons_zero, List.set_cons_succ, Option.some.injEq, exists_eq_left', Nat.reduceAdd, Nat.reduceSub, Nat.sub_zero, Nat.sub_self, Nat.zero_add, Nat.reduceEqDiff, Bool.not_true, Bool.not_false, if_true, if_false, Bool.and_self, Bool.true_and, Bool.and_true, Bool.false_eq_true, ↓reduceIte, true_and, and_true, decide_true, decide_false, wipeR]
      refine k_nx (k_ret ?_)
      have hix : pIx (.str z) (.int 0) = some (.str ⟨#[c]⟩) := by
        simp only [pIx]
        rw [if_pos hz, e, show atI (c :: r) 0 = some c from atI_nat (j := 0) rfl]
        rfl
      have hc := cut1 e
      have hcl : (cutS z (some 1) none).length = r.length := by
        show (cutS z (some 1) none).cps.size = _
        rw [← Array.length_toList, hc]
      have hd : Dec (.str (cutS z (some 1) none)) := by
        show (cutS z (some 1) none).length ≤ 1000
        omega
      simp only [ok_V0, ok_Vs, ok_K, ok_B, ok_U, ok_nil, ok_cons, ok_N, ok_aN, ok_call, ok_nl, ok_fl, ok_afl, ok_T, ok_qNot, ok_qAnd, ok_qOr, ok_and, ok_or, ok_not, ok_if, ok_Sl, ok_oNo, ok_oOf, ok_Ch, ok_it, ok_itA, ok_yes, v_addI, v_sub, v_neg, v_eqI, v_eqS, v_eqB, v_eq0, v_eqT0, v_neI, v_neS, v_neB, v_ne0, v_neT0, v_ltI, v_leI, v_gtI, v_geI, v_is, v_isNot, v_nn, v_ns, v_ni, v_nl, v_nt, v_tb, v_tl, v_tt, v_tn, v_ti, v_asB, v_asI, v_asL, v_asT, v_asS, v_lenL, v_lenT, v_tupL, v_tupT, v_listL, v_listT, v_intB, v_tup0, v_tup1, v_tup2, v_tup3, v_tup4, v_tup5, v_lst0, v_lst1, v_lst2, v_lst3, v_lst4, v_lst5, v_ok0, v_ok1, v_ok2, v_ix0L, v_ix0, v_ix1, v_ix2, v_ix3, v_fs, v_fi, v_fb, v_fn, v_ft, v_f0, v_fc, startR, List.map_cons, List.map_nil, List.length_cons, List.length_nil, List.replicate, List.cons_append, List.nil_append, List.set_cons_zero, List.set_cons_succ, Option.some.injEq, exists_eq_left', Nat.reduceAdd, Nat.reduceSub, Nat.sub_zero, Nat.sub_self, Nat.zero_add, Nat.reduceEqDiff, Bool.not_true, Bool.not_false, if_true, if_false, Bool.and_self, Bool.true_and, Bool.and_true, Bool.false_eq_true, ↓reduceIte, true_and, and_true, decide_true, decide_false, wipeR, hix, in_sign, v_slS hz, small_eq hd, ok_some]
      rw [nameB_str, smallB_str, e, hc, hcl]
      unfold nameL
      by_cases h1 : c ∈ (Str.ofString "ABCDEFGHIJKLMNOPQRSTUVWXYZ").cps.toList
      · rw [decide_eq_true h1]
        simp only [ok_V0, ok_Vs, ok_K, ok_B, ok_U, ok_nil, ok_cons, ok_N, ok_aN, ok_call, ok_nl, ok_fl, ok_afl, ok_T, ok_qNot, ok_qAnd, ok_qOr, ok_and, ok_or, ok_not, ok_if, ok_Sl, ok_oNo, ok_oOf, ok_Ch, ok_it, ok_itA, ok_yes, v_addI, v_sub, v_neg, v_eqI, v_eqS, v_eqB, v_eq0, v_eqT0, v_neI, v_neS, v_neB, v_ne0, v_neT0, v_ltI, v_leI, v_gtI, v_geI, v_is, v_isNot, v_nn, v_ns, v_ni, v_nl, v_nt, v_tb, v_tl, v_tt, v_tn, v_ti, v_asB, v_asI, v_asL, v_asT, v_asS, v_lenL, v_lenT, v_tupL, v_tupT, v_listL, v_listT, v_intB, v_tup0, v_tup1, v_tup2, v_tup3, v_tup4, v_tup5, v_lst0, v_lst1, v_lst2, v_lst3, v_lst4, v_lst5, v_ok0, v_ok1, v_ok2, v_ix0L, v_ix0, v_ix1, v_ix2, v_ix3, v_fs, v_fi, v_fb, v_fn, v_ft, v_f0, v_fc, startR, List.map_cons, List.map_nil, List.length_cons, List.length_nil, List.replicate, List.cons_append, List.nil_append, List.set_cons_zero, List.set_cons_succ, Option.some.injEq, exists_eq_left', Nat.reduceAdd, Nat.reduceSub, Nat.sub_zero, Nat.sub_self, Nat.zero_add, Nat.reduceEqDiff, Bool.not_true, Bool.not_false, if_true, if_false, Bool.and_self, Bool.true_and, Bool.and_true, Bool.false_eq_true, ↓reduceIte, true_and, and_true, decide_true, decide_false, wipeR, show (0 : Int) ≤ (r.length : Int) from Int.natCast_nonneg _]
        by_cases h2 : r.length ≤ 7
        · rw [decide_eq_true h2, decide_eq_true (show (r.length : Int) ≤ 7 by omega), decide_eq_true h1]
          rfl
        · rw [decide_eq_false h2, decide_eq_false (show ¬ (r.length : Int) ≤ 7 by omega), decide_eq_true h1]
          rfl
      · rw [decide_eq_false h1]
        simp only [ok_V0, ok_Vs, ok_K, ok_B, ok_U, ok_nil, ok_cons, ok_N, ok_aN, ok_call, ok_nl, ok_fl, ok_afl, ok_T, ok_qNot, ok_qAnd, ok_qOr, ok_and, ok_or, ok_not, ok_if, ok_Sl, ok_oNo, ok_oOf, ok_Ch, ok_it, ok_itA, ok_yes, v_addI, v_sub, v_neg, v_eqI, v_eqS, v_eqB, v_eq0, v_eqT0, v_neI, v_neS, v_neB, v_ne0, v_neT0, v_ltI, v_leI, v_gtI, v_geI, v_is, v_isNot, v_nn, v_ns, v_ni, v_nl, v_nt, v_tb, v_tl, v_tt, v_tn, v_ti, v_asB, v_asI, v_asL, v_asT, v_asS, v_lenL, v_lenT, v_tupL, v_tupT, v_listL, v_listT, v_intB, v_tup0, v_tup1, v_tup2, v_tup3, v_tup4, v_tup5, v_lst0, v_lst1, v_lst2, v_lst3, v_lst4, v_lst5, v_ok0, v_ok1, v_ok2, v_ix0L, v_ix0, v_ix1, v_ix2, v_ix3, v_fs, v_fi, v_fb, v_fn, v_ft, v_f0, v_fc, startR, List.map_cons, List.map_nil, List.length_cons, List.length_nil, List.replicate, List.cons_append, List.nil_append, List.set_cons_zero, List.set_cons_succ, Option.some.injEq, exists_eq_left', Nat.reduceAdd, Nat.reduceSub, Nat.sub_zero, Nat.sub_self, Nat.zero_add, Nat.reduceEqDiff, Bool.not_true, Bool.not_false, if_true, if_false, Bool.and_self, Bool.true_and, Bool.and_true, Bool.false_eq_true, ↓reduceIte, true_and, and_true, decide_true, decide_false, wipeR]
        rw [decide_eq_false h1]
        rfl
  | _ =>
    refine k_fn (k_seq (k_sIf ?_))
    simp only [ok_V0, ok_Vs, ok_K, ok_B, ok_U, ok_nil, ok_cons, ok_N, ok_aN, ok_call, ok_nl, ok_fl, ok_afl, ok_T, ok_qNot, ok_qAnd, ok_qOr, ok_and, ok_or, ok_not, ok_if, ok_Sl, ok_oNo, ok_oOf, ok_Ch, ok_it, ok_itA, ok_yes, v_addI, v_sub, v_neg, v_eqI, v_eqS, v_eqB, v_eq0, v_eqT0, v_neI, v_neS, v_neB, v_ne0, v_neT0, v_ltI, v_leI, v_gtI, v_geI, v_is, v_isNot, v_nn, v_ns, v_ni, v_nl, v_nt, v_tb, v_tl, v_tt, v_tn, v_ti, v_asB, v_asI, v_asL, v_asT, v_asS, v_lenL, v_lenT, v_tupL, v_tupT, v_listL, v_listT, v_intB, v_tup0, v_tup1, v_tup2, v_tup3, v_tup4, v_tup5, v_lst0, v_lst1, v_lst2, v_lst3, v_lst4, v_lst5, v_ok0, v_ok1, v_ok2, v_ix0L, v_ix0, v_ix1, v_ix2, v_ix3, v_fs, v_fi, v_fb, v_fn, v_ft, v_f0, v_fc, startR, List.map_cons, List.map_nil, List.length_cons, List.length_nil, List.replicate, List.cons_append, List.nil_append, List.set_cons_zero, List.set_cons_succ, Option.some.injEq, exists_eq_left', Nat.reduceAdd, Nat.reduceSub, Nat.sub_zero, Nat.sub_self, Nat.zero_add, Nat.reduceEqDiff, Bool.not_true, Bool.not_false, if_true, if_false, Bool.and_self, Bool.true_and, Bool.and_true, Bool.false_eq_true, ↓reduceIte, true_and, and_true, decide_true, decide_false, wipeR, isi_str h]
    refine k_ret ?_
    simp only [ok_V0, ok_Vs, ok_K, ok_B, ok_U, ok_nil, ok_cons, ok_N, ok_aN, ok_call, ok_nl, ok_fl, ok_afl, ok_T, ok_qNot, ok_qAnd, ok_qOr, ok_and, ok_or, ok_not, ok_if, ok_Sl, ok_oNo, ok_oOf, ok_Ch, ok_it, ok_itA, ok_yes, v_addI, v_sub, v_neg, v_eqI, v_eqS, v_eqB, v_eq0, v_eqT0, v_neI, v_neS, v_neB, v_ne0, v_neT0, v_ltI, v_leI, v_gtI, v_geI, v_is, v_isNot, v_nn, v_ns, v_ni, v_nl, v_nt, v_tb, v_tl, v_tt, v_tn, v_ti, v_asB, v_asI, v_asL, v_asT, v_asS, v_lenL, v_lenT, v_tupL, v_tupT, v_listL, v_listT, v_intB, v_tup0, v_tup1, v_tup2, v_tup3, v_tup4, v_tup5, v_lst0, v_lst1, v_lst2, v_lst3, v_lst4, v_lst5, v_ok0, v_ok1, v_ok2, v_ix0L, v_ix0, v_ix1, v_ix2, v_ix3, v_fs, v_fi, v_fb, v_fn, v_ft, v_f0, v_fc, startR, List.map_cons, List.map_nil, List.length_cons, List.length_nil, List.replicate, List.cons_append, List.nil_append, List.set_cons_zero, List.set_cons_succ, Option.some.injEq, exists_eq_left', Nat.reduceAdd, Nat.reduceSub, Nat.sub_zero, Nat.sub_self, Nat.zero_add, Nat.reduceEqDiff, Bool.not_true, Bool.not_false, if_true, if_false, Bool.and_self, Bool.true_and, Bool.and_true, Bool.false_eq_true, ↓reduceIte, true_and, and_true, decide_true, decide_false, wipeR]
    rfl
theorem kind_eq {d : D} (h : Dec d) : K_is_kind (K_is_small K_is_all_of) [d] s = some (.bool (kindB d), s) := by
  apply ok_eq
  unfold K_is_kind B_is_kind
  refine k_fn (k_ret ?_)
  simp only [ok_V0, ok_Vs, ok_K, ok_B, ok_U, ok_nil, ok_cons, ok_N, ok_aN, ok_call, ok_nl, ok_fl, ok_afl, ok_T, ok_qNot, ok_qAnd, ok_qOr, ok_and, ok_or, ok_not, ok_if, ok_Sl, ok_oNo, ok_oOf, ok_Ch, ok_it, ok_itA, ok_yes, v_addI, v_sub, v_neg, v_eqI, v_eqS, v_eqB, v_eq0, v_eqT0, v_neI, v_neS, v_neB, v_ne0, v_neT0, v_ltI, v_leI, v_gtI, v_geI, v_is, v_isNot, v_nn, v_ns, v_ni, v_nl, v_nt, v_tb, v_tl, v_tt, v_tn, v_ti, v_asB, v_asI, v_asL, v_asT, v_asS, v_lenL, v_lenT, v_tupL, v_tupT, v_listL, v_listT, v_intB, v_tup0, v_tup1, v_tup2, v_tup3, v_tup4, v_tup5, v_lst0, v_lst1, v_lst2, v_lst3, v_lst4, v_lst5, v_ok0, v_ok1, v_ok2, v_ix0L, v_ix0, v_ix1, v_ix2, v_ix3, v_fs, v_fi, v_fb, v_fn, v_ft, v_f0, v_fc, startR, List.map_cons, List.map_nil, List.length_cons, List.length_nil, List.replicate, List.cons_append, List.nil_append, List.set_cons_zero, List.set_cons_succ, Option.some.injEq, exists_eq_left', Nat.reduceAdd, Nat.reduceSub, Nat.sub_zero, Nat.sub_self, Nat.zero_add, Nat.reduceEqDiff, Bool.not_true, Bool.not_false, if_true, if_false, Bool.and_self, Bool.true_and, Bool.and_true, Bool.false_eq_true, ↓reduceIte, true_and, and_true, decide_true, decide_false, wipeR, small_eq h, ok_some]
  cases d with
  | str z =>
    rw [kindB_str]
    cases e : smallB 2 8 (.str z) with
    | true =>
      simp only [ok_V0, ok_Vs, ok_K, ok_B, ok_U, ok_nil, ok_cons, ok_N, ok_aN, ok_call, ok_nl, ok_fl, ok_afl, ok_T, ok_qNot, ok_qAnd, ok_qOr, ok_and, ok_or, ok_not, ok_if, ok_Sl, ok_oNo, ok_oOf, ok_Ch, ok_it, ok_itA, ok_yes, v_addI, v_sub, v_neg, v_eqI, v_eqS, v_eqB, v_eq0, v_eqT0, v_neI, v_neS, v_neB, v_ne0, v_neT0, v_ltI, v_leI, v_gtI, v_geI, v_is, v_isNot, v_nn, v_ns, v_ni, v_nl, v_nt, v_tb, v_tl, v_tt, v_tn, v_ti, v_asB, v_asI, v_asL, v_asT, v_asS, v_lenL, v_lenT, v_tupL, v_tupT, v_listL, v_listT, v_intB, v_tup0, v_tup1, v_tup2, v_tup3, v_tup4, v_tup5, v_lst0, v_lst1, v_lst2, v_lst3, v_lst4, v_lst5, v_ok0, v_ok1, v_ok2, v_ix0L, v_ix0, v_ix1, v_ix2, v_ix3, v_fs, v_fi, v_fb, v_fn, v_ft, v_f0, v_fc, startR, List.map_cons, List.map_nil, List.length_cons, List.length_nil, List.replicate, List.cons_append, List.nil_append, List.set_cons_zero, List.set_cons_succ, Option.some.injEq, exists_eq_left', Nat.reduceAdd, Nat.reduceSub, Nat.sub_zero, Nat.sub_self, Nat.zero_add, Nat.reduceEqDiff, Bool.not_true, Bool.not_false, if_true, if_false, Bool.and_self, Bool.true_and, Bool.and_true, Bool.false_eq_true, ↓reduceIte, true_and, and_true, decide_true, decide_false, wipeR]
      unfold d_BARRED
      simp only [notIn_strs, ok_V0, ok_Vs, ok_K, ok_B, ok_U, ok_nil, ok_cons, ok_N, ok_aN, ok_call, ok_nl, ok_fl, ok_afl, ok_T, ok_qNot, ok_qAnd, ok_qOr, ok_and, ok_or, ok_not, ok_if, ok_Sl, ok_oNo, ok_oOf, ok_Ch, ok_it, ok_itA, ok_yes, v_addI, v_sub, v_neg, v_eqI, v_eqS, v_eqB, v_eq0, v_eqT0, v_neI, v_neS, v_neB, v_ne0, v_neT0, v_ltI, v_leI, v_gtI, v_geI, v_is, v_isNot, v_nn, v_ns, v_ni, v_nl, v_nt, v_tb, v_tl, v_tt, v_tn, v_ti, v_asB, v_asI, v_asL, v_asT, v_asS, v_lenL, v_lenT, v_tupL, v_tupT, v_listL, v_listT, v_intB, v_tup0, v_tup1, v_tup2, v_tup3, v_tup4, v_tup5, v_lst0, v_lst1, v_lst2, v_lst3, v_lst4, v_lst5, v_ok0, v_ok1, v_ok2, v_ix0L, v_ix0, v_ix1, v_ix2, v_ix3, v_fs, v_fi, v_fb, v_fn, v_ft, v_f0, v_fc, startR, List.map_cons, List.map_nil, List.length_cons, List.length_nil, List.replicate, List.cons_append, List.nil_append, List.set_cons_zero, List.set_cons_succ, Option.some.injEq, exists_eq_left', Nat.reduceAdd, Nat.reduceSub, Nat.sub_zero, Nat.sub_self, Nat.zero_add, Nat.reduceEqDiff, Bool.not_true, Bool.not_false, if_true, if_false, Bool.and_self, Bool.true_and, Bool.and_true, Bool.false_eq_true, ↓reduceIte, true_and, and_true, decide_true, decide_false, wipeR]
    | false => simp only [ok_V0, ok_Vs, ok_K, ok_B, ok_U, ok_nil, ok_cons, ok_N, ok_aN, ok_call, ok_nl, ok_fl, ok_afl, ok_T, ok_qNot, ok_qAnd, ok_qOr, ok_and, ok_or, ok_not, ok_if, ok_Sl, ok_oNo, ok_oOf, ok_Ch, ok_it, ok_itA, ok_yes, v_addI, v_sub, v_neg, v_eqI, v_eqS, v_eqB, v_eq0, v_eqT0, v_neI, v_neS, v_neB, v_ne0, v_neT0, v_ltI, v_leI, v_gtI, v_geI, v_is, v_isNot, v_nn, v_ns, v_ni, v_nl, v_nt, v_tb, v_tl, v_tt, v_tn, v_ti, v_asB, v_asI, v_asL, v_asT, v_asS, v_lenL, v_lenT, v_tupL, v_tupT, v_listL, v_listT, v_intB, v_tup0, v_tup1, v_tup2, v_tup3, v_tup4, v_tup5, v_lst0, v_lst1, v_lst2, v_lst3, v_lst4, v_lst5, v_ok0, v_ok1, v_ok2, v_ix0L, v_ix0, v_ix1, v_ix2, v_ix3, v_fs, v_fi, v_fb, v_fn, v_ft, v_f0, v_fc, startR, List.map_cons, List.map_nil, List.length_cons, List.length_nil, List.replicate, List.cons_append, List.nil_append, List.set_cons_zero, List.set_cons_succ, Option.some.injEq, exists_eq_left', Nat.reduceAdd, Nat.reduceSub, Nat.sub_zero, Nat.sub_self, Nat.zero_add, Nat.reduceEqDiff, Bool.not_true, Bool.not_false, if_true, if_false, Bool.and_self, Bool.true_and, Bool.and_true, Bool.false_eq_true, ↓reduceIte, true_and, and_true, decide_true, decide_false, wipeR, Bool.false_and]
  | _ => simp only [ok_V0, ok_Vs, ok_K, ok_B, ok_U, ok_nil, ok_cons, ok_N, ok_aN, ok_call, ok_nl, ok_fl, ok_afl, ok_T, ok_qNot, ok_qAnd, ok_qOr, ok_and, ok_or, ok_not, ok_if, ok_Sl, ok_oNo, ok_oOf, ok_Ch, ok_it, ok_itA, ok_yes, v_addI, v_sub, v_neg, v_eqI, v_eqS, v_eqB, v_eq0, v_eqT0, v_neI, v_neS, v_neB, v_ne0, v_neT0, v_ltI, v_leI, v_gtI, v_geI, v_is, v_isNot, v_nn, v_ns, v_ni, v_nl, v_nt, v_tb, v_tl, v_tt, v_tn, v_ti, v_asB, v_asI, v_asL, v_asT, v_asS, v_lenL, v_lenT, v_tupL, v_tupT, v_listL, v_listT, v_intB, v_tup0, v_tup1, v_tup2, v_tup3, v_tup4, v_tup5, v_lst0, v_lst1, v_lst2, v_lst3, v_lst4, v_lst5, v_ok0, v_ok1, v_ok2, v_ix0L, v_ix0, v_ix1, v_ix2, v_ix3, v_fs, v_fi, v_fb, v_fn, v_ft, v_f0, v_fc, startR, List.map_cons, List.map_nil, List.length_cons, List.length_nil, List.replicate, List.cons_append, List.nil_append, List.set_cons_zero, List.set_cons_succ, Option.some.injEq, exists_eq_left', Nat.reduceAdd, Nat.reduceSub, Nat.sub_zero, Nat.sub_self, Nat.zero_add, Nat.reduceEqDiff, Bool.not_true, Bool.not_false, if_true, if_false, Bool.and_self, Bool.true_and, Bool.and_true, Bool.false_eq_true, ↓reduceIte, true_and, and_true, decide_true, decide_false, wipeR, smallB]; rfl
/-! rows -/
def txt : D → Str
  | .str z => z
  | _ => Str.empty
def ltS (a b : Str) : Bool := decide (a.cps.toList < b.cps.toList)
def risS : List Str → Bool
  | a :: b :: r => ltS a b && risS (b :: r)
  | _ => true
theorem zip_ris : ∀ xs : List Str, ((zipD (xs.map .str) ((xs.map PyData.str).drop 1)).all fun d => match d with | .tuple [.str a, .str b] => ltS a b | _ => false) = risS xs
  | [] => rfl
  | [a] => rfl
  | a :: b :: r => by
    have ih := zip_ris (b :: r)
    unfold risS
    rw [← ih]
    rfl
theorem rises_eq {xs : List Str} : K_rises [.tuple (xs.map .str)] s = some (.bool (risS xs), s) := by
  apply ok_eq
  unfold K_rises B_rises
  refine k_fn (k_ret ?_)
  have hi : (iOfA pZip (aCons (cVar 0) (aCons (cSl pSl (cVar 0) (oOf (cK (.int 1))) oNo) aNil))) (startR 3 [.tuple (xs.map PyData.str)]) s = some (zipD (xs.map .str) ((xs.map PyData.str).drop 1), s) := by
    apply ok_eqL
    simp only [ok_V0, ok_Vs, ok_K, ok_B, ok_U, ok_nil, ok_cons, ok_N, ok_aN, ok_call, ok_nl, ok_fl, ok_afl, ok_T, ok_qNot, ok_qAnd, ok_qOr, ok_and, ok_or, ok_not, ok_if, ok_Sl, ok_oNo, ok_oOf, ok_Ch, ok_it, ok_itA, ok_yes, v_addI, v_sub, v_neg, v_eqI, v_eqS, v_eqB, v_eq0, v_eqT0, v_neI, v_neS, v_neB, v_ne0, v_neT0, v_ltI, v_leI, v_gtI, v_geI, v_is, v_isNot, v_nn, v_ns, v_ni, v_nl, v_nt, v_tb, v_tl, v_tt, v_tn, v_ti, v_asB, v_asI, v_asL, v_asT, v_asS, v_lenL, v_lenT, v_tupL, v_tupT, v_listL, v_listT, v_intB, v_tup0, v_tup1, v_tup2, v_tup3, v_tup4, v_tup5, v_lst0, v_lst1, v_lst2, v_lst3, v_lst4, v_lst5, v_ok0, v_ok1, v_ok2, v_ix0L, v_ix0, v_ix1, v_ix2, v_ix3, v_fs, v_fi, v_fb, v_fn, v_ft, v_f0, v_fc, startR, List.map_cons, List.map_nil, List.length_cons, List.length_nil, List.replicate, List.cons_append, List.nil_append, List.set_cons_zero, List.set_cons_succ, Option.some.injEq, exists_eq_left', Nat.reduceAdd, Nat.reduceSub, Nat.sub_zero, Nat.sub_self, Nat.zero_add, Nat.reduceEqDiff, Bool.not_true, Bool.not_false, if_true, if_false, Bool.and_self, Bool.true_and, Bool.and_true, Bool.false_eq_true, ↓reduceIte, true_and, and_true, decide_true, decide_false, wipeR, v_slT]
    rw [show (1 : Int) = ((1 : Nat) : Int) from rfl, cutD_from]
    first | exact ⟨_, rfl, rfl, rfl⟩ | exact ⟨_, rfl, rfl⟩ | rfl
  have h := k_all (S := S) (t := gTp (gC (gNm 1) (gC (gNm 2) gN0))) (q := qYes) (f := cB pLt (cVar 1) (cVar 2)) (vs := [1, 2]) (fun _ => true) (fun d => match d with | .tuple [.str a, .str b] => ltS a b | _ => false) hi (fun d hd => by
    obtain ⟨a, b, rfl⟩ : ∃ a b : Str, d = .tuple [.str a, .str b] := by
      clear hi
      revert hd
      generalize hys : (xs.map PyData.str).drop 1 = ys
      have hy : ∀ y ∈ ys, ∃ b : Str, y = .str b := fun y hy => by
        rw [← hys] at hy
        obtain ⟨b, _, e⟩ := List.mem_map.mp (List.mem_of_mem_drop hy)
        exact ⟨b, e.symm⟩
      clear hys
      induction xs generalizing ys with
      | nil => intro hd; simp [zipD] at hd
      | cons x xs ih =>
        cases ys with
        | nil => intro hd; simp [zipD] at hd
        | cons y ys =>
          intro hd
          have hd : d = .tuple [.str x, y] ∨ d ∈ zipD (xs.map .str) ys := by simpa [zipD, pairD] using hd
          rcases hd with hd | hd
          · obtain ⟨b, rfl⟩ := hy y List.mem_cons_self
            exact ⟨x, b, hd⟩
          · exact ih ys (fun z hz => hy z (List.mem_cons_of_mem _ hz)) hd
    exact ⟨_, rfl, rfl, fun _ => rfl⟩)
  refine Ok.of h ⟨?_, rfl⟩
  rw [List.filter_eq_self.mpr (fun _ _ => rfl), zip_ris]
def rowB (p : D → Bool) : D → Bool
  | .tuple ds => ds.all p && risS (ds.map txt)
  | _ => false
theorem name_str {d : D} (h : nameB d = true) : d = .str (txt d) := by
  cases d <;> first | rfl | cases h
theorem kind_str {d : D} (h : kindB d = true) : d = .str (txt d) := by
  cases d <;> first | rfl | cases h
theorem strs_of {p : D → Bool} (hp : ∀ d, p d = true → d = .str (txt d)) {ds : List D} (h : ds.all p = true) : ds = (ds.map txt).map .str := by
  induction ds with
  | nil => rfl
  | cons d ds ih =>
    rw [List.all_cons, Bool.and_eq_true] at h
    rw [List.map_cons, List.map_cons, ← hp d h.1, ← ih h.2]
def DecL (d : D) : Prop := Dec d ∧ ∀ ds, d = .tuple ds → ∀ x ∈ ds, Dec x
theorem rowN_eq {d : D} (h : DecL d) : K_is_row_of_names K_rises (K_is_name (K_is_small K_is_all_of)) [d] s = some (.bool (rowB nameB d), s) := by
  apply ok_eq
  unfold K_is_row_of_names B_is_row_of_names
  refine k_fn (k_ret ?_)
  simp only [ok_V0, ok_Vs, ok_K, ok_B, ok_U, ok_nil, ok_cons, ok_N, ok_aN, ok_call, ok_nl, ok_fl, ok_afl, ok_T, ok_qNot, ok_qAnd, ok_qOr, ok_and, ok_or, ok_not, ok_if, ok_Sl, ok_oNo, ok_oOf, ok_Ch, ok_it, ok_itA, ok_yes, v_addI, v_sub, v_neg, v_eqI, v_eqS, v_eqB, v_eq0, v_eqT0, v_neI, v_neS, v_neB, v_ne0, v_neT0, v_ltI, v_leI, v_gtI, v_geI, v_is, v_isNot, v_nn, v_ns, v_ni, v_nl, v_nt, v_tb, v_tl, v_tt, v_tn, v_ti, v_asB, v_asI, v_asL, v_asT, v_asS, v_lenL, v_lenT, v_tupL, v_tupT, v_listL, v_listT, v_intB, v_tup0, v_tup1, v_tup2, v_tup3, v_tup4, v_tup5, v_lst0, v_lst1, v_lst2, v_lst3, v_lst4, v_lst5, v_ok0, v_ok1, v_ok2, v_ix0L, v_ix0, v_ix1, v_ix2, v_ix3, v_fs, v_fi, v_fb, v_fn, v_ft, v_f0, v_fc, startR, List.map_cons, List.map_nil, List.length_cons, List.length_nil, List.replicate, List.cons_append, List.nil_append, List.set_cons_zero, List.set_cons_succ, Option.some.injEq, exists_eq_left', Nat.reduceAdd, Nat.reduceSub, Nat.sub_zero, Nat.sub_self, Nat.zero_add, Nat.reduceEqDiff, Bool.not_true, Bool.not_false, if_true, if_false, Bool.and_self, Bool.true_and, Bool.and_true, Bool.false_eq_true, ↓reduceIte, true_and, and_true, decide_true, decide_false, wipeR, isi_tup h.1]
  cases d with
  | tuple ds =>
    have ha : cQu false (iOf asT (cVar 0)) (gNm 1) qYes (cCall 1 (K_is_name (K_is_small K_is_all_of)) (aCons (cVar 1) aNil)) [1] [some (.tuple ds), none] s = some (.bool ((ds.filter fun _ => true).all nameB), s) := by
      refine k_all (fun _ => true) _ rfl fun d hd => ⟨_, rfl, rfl, fun _ => ?_⟩
      exact name_eq (h.2 ds rfl d hd)
    rw [List.filter_eq_self.mpr (fun _ _ => rfl)] at ha
    simp only [ok_V0, ok_Vs, ok_K, ok_B, ok_U, ok_nil, ok_cons, ok_N, ok_aN, ok_call, ok_nl, ok_fl, ok_afl, ok_T, ok_qNot, ok_qAnd, ok_qOr, ok_and, ok_or, ok_not, ok_if, ok_Sl, ok_oNo, ok_oOf, ok_Ch, ok_it, ok_itA, ok_yes, v_addI, v_sub, v_neg, v_eqI, v_eqS, v_eqB, v_eq0, v_eqT0, v_neI, v_neS, v_neB, v_ne0, v_neT0, v_ltI, v_leI, v_gtI, v_geI, v_is, v_isNot, v_nn, v_ns, v_ni, v_nl, v_nt, v_tb, v_tl, v_tt, v_tn, v_ti, v_asB, v_asI, v_asL, v_asT, v_asS, v_lenL, v_lenT, v_tupL, v_tupT, v_listL, v_listT, v_intB, v_tup0, v_tup1, v_tup2, v_tup3, v_tup4, v_tup5, v_lst0, v_lst1, v_lst2, v_lst3, v_lst4, v_lst5, v_ok0, v_ok1, v_ok2, v_ix0L, v_ix0, v_ix1, v_ix2, v_ix3, v_fs, v_fi, v_fb, v_fn, v_ft, v_f0, v_fc, startR, List.map_cons, List.map_nil, List.length_cons, List.length_nil, List.replicate, List.cons_append, List.nil_append, List.set_cons_zero, List.set_cons_succ, Option.some.injEq, exists_eq_left', Nat.reduceAdd, Nat.reduceSub, Nat.sub_zero, Nat.sub_self, Nat.zero_add, Nat.reduceEqDiff, Bool.not_true, Bool.not_false, if_true, if_false, Bool.and_self, Bool.true_and, Bool.and_true, Bool.false_eq_true, ↓reduceIte, true_and, and_true, decide_true, decide_false, wipeR, ha, ok_some]
    show if ds.all nameB = true then _ else _
    unfold rowB
    cases e : ds.all nameB with
    | true =>
      simp only [ok_V0, ok_Vs, ok_K, ok_B, ok_U, ok_nil, ok_cons, ok_N, ok_aN, ok_call, ok_nl, ok_fl, ok_afl, ok_T, ok_qNot, ok_qAnd, ok_qOr, ok_and, ok_or, ok_not, ok_if, ok_Sl, ok_oNo, ok_oOf, ok_Ch, ok_it, ok_itA, ok_yes, v_addI, v_sub, v_neg, v_eqI, v_eqS, v_eqB, v_eq0, v_eqT0, v_neI, v_neS, v_neB, v_ne0, v_neT0, v_ltI, v_leI, v_gtI, v_geI, v_is, v_isNot, v_nn, v_ns, v_ni, v_nl, v_nt, v_tb, v_tl, v_tt, v_tn, v_ti, v_asB, v_asI, v_asL, v_asT, v_asS, v_lenL, v_lenT, v_tupL, v_tupT, v_listL, v_listT, v_intB, v_tup0, v_tup1, v_tup2, v_tup3, v_tup4, v_tup5, v_lst0, v_lst1, v_lst2, v_lst3, v_lst4, v_lst5, v_ok0, v_ok1, v_ok2, v_ix0L, v_ix0, v_ix1, v_ix2, v_ix3, v_fs, v_fi, v_fb, v_fn, v_ft, v_f0, v_fc, startR, List.map_cons, List.map_nil, List.length_cons, List.length_nil, List.replicate, List.cons_append, List.nil_append, List.set_cons_zero, List.set_cons_succ, Option.some.injEq, exists_eq_left', Nat.reduceAdd, Nat.reduceSub, Nat.sub_zero, Nat.sub_self, Nat.zero_add, Nat.reduceEqDiff, Bool.not_true, Bool.not_false, if_true, if_false, Bool.and_self, Bool.true_and, Bool.and_true, Bool.false_eq_true, ↓reduceIte, true_and, and_true, decide_true, decide_false, wipeR]
      have e2 := strs_of (fun d => name_str) e
      rw [e2, rises_eq, ← e2]
      simp only [ok_V0, ok_Vs, ok_K, ok_B, ok_U, ok_nil, ok_cons, ok_N, ok_aN, ok_call, ok_nl, ok_fl, ok_afl, ok_T, ok_qNot, ok_qAnd, ok_qOr, ok_and, ok_or, ok_not, ok_if, ok_Sl, ok_oNo, ok_oOf, ok_Ch, ok_it, ok_itA, ok_yes, v_addI, v_sub, v_neg, v_eqI, v_eqS, v_eqB, v_eq0, v_eqT0, v_neI, v_neS, v_neB, v_ne0, v_neT0, v_ltI, v_leI, v_gtI, v_geI, v_is, v_isNot, v_nn, v_ns, v_ni, v_nl, v_nt, v_tb, v_tl, v_tt, v_tn, v_ti, v_asB, v_asI, v_asL, v_asT, v_asS, v_lenL, v_lenT, v_tupL, v_tupT, v_listL, v_listT, v_intB, v_tup0, v_tup1, v_tup2, v_tup3, v_tup4, v_tup5, v_lst0, v_lst1, v_lst2, v_lst3, v_lst4, v_lst5, v_ok0, v_ok1, v_ok2, v_ix0L, v_ix0, v_ix1, v_ix2, v_ix3, v_fs, v_fi, v_fb, v_fn, v_ft, v_f0, v_fc, startR, List.map_cons, List.map_nil, List.length_cons, List.length_nil, List.replicate, List.cons_append, List.nil_append, List.set_cons_zero, List.set_cons_succ, Option.some.injEq, exists_eq_left', Nat.reduceAdd, Nat.reduceSub, Nat.sub_zero, Nat.sub_self, Nat.zero_add, Nat.reduceEqDiff, Bool.not_true, Bool.not_false, if_true, if_false, Bool.and_self, Bool.true_and, Bool.and_true, Bool.false_eq_true, ↓reduceIte, true_and, and_true, decide_true, decide_false, wipeR, ok_some]
      rw [e]
      rfl
    | false =>
      simp only [ok_V0, ok_Vs, ok_K, ok_B, ok_U, ok_nil, ok_cons, ok_N, ok_aN, ok_call, ok_nl, ok_fl, ok_afl, ok_T, ok_qNot, ok_qAnd, ok_qOr, ok_and, ok_or, ok_not, ok_if, ok_Sl, ok_oNo, ok_oOf, ok_Ch, ok_it, ok_itA, ok_yes, v_addI, v_sub, v_neg, v_eqI, v_eqS, v_eqB, v_eq0, v_eqT0, v_neI, v_neS, v_neB, v_ne0, v_neT0, v_ltI, v_leI, v_gtI, v_geI, v_is, v_isNot, v_nn, v_ns, v_ni, v_nl, v_nt, v_tb, v_tl, v_tt, v_tn, v_ti, v_asB, v_asI, v_asL, v_asT, v_asS, v_lenL, v_lenT, v_tupL, v_tupT, v_listL, v_listT, v_intB, v_tup0, v_tup1, v_tup2, v_tup3, v_tup4, v_tup5, v_lst0, v_lst1, v_lst2, v_lst3, v_lst4, v_lst5, v_ok0, v_ok1, v_ok2, v_ix0L, v_ix0, v_ix1, v_ix2, v_ix3, v_fs, v_fi, v_fb, v_fn, v_ft, v_f0, v_fc, startR, List.map_cons, List.map_nil, List.length_cons, List.length_nil, List.replicate, List.cons_append, List.nil_append, List.set_cons_zero, List.set_cons_succ, Option.some.injEq, exists_eq_left', Nat.reduceAdd, Nat.reduceSub, Nat.sub_zero, Nat.sub_self, Nat.zero_add, Nat.reduceEqDiff, Bool.not_true, Bool.not_false, if_true, if_false, Bool.and_self, Bool.true_and, Bool.and_true, Bool.false_eq_true, ↓reduceIte, true_and, and_true, decide_true, decide_false, wipeR]
      rw [e]
      rfl
  | _ => simp only [ok_V0, ok_Vs, ok_K, ok_B, ok_U, ok_nil, ok_cons, ok_N, ok_aN, ok_call, ok_nl, ok_fl, ok_afl, ok_T, ok_qNot, ok_qAnd, ok_qOr, ok_and, ok_or, ok_not, ok_if, ok_Sl, ok_oNo, ok_oOf, ok_Ch, ok_it, ok_itA, ok_yes, v_addI, v_sub, v_neg, v_eqI, v_eqS, v_eqB, v_eq0, v_eqT0, v_neI, v_neS, v_neB, v_ne0, v_neT0, v_ltI, v_leI, v_gtI, v_geI, v_is, v_isNot, v_nn, v_ns, v_ni, v_nl, v_nt, v_tb, v_tl, v_tt, v_tn, v_ti, v_asB, v_asI, v_asL, v_asT, v_asS, v_lenL, v_lenT, v_tupL, v_tupT, v_listL, v_listT, v_intB, v_tup0, v_tup1, v_tup2, v_tup3, v_tup4, v_tup5, v_lst0, v_lst1, v_lst2, v_lst3, v_lst4, v_lst5, v_ok0, v_ok1, v_ok2, v_ix0L, v_ix0, v_ix1, v_ix2, v_ix3, v_fs, v_fi, v_fb, v_fn, v_ft, v_f0, v_fc, startR, List.map_cons, List.map_nil, List.length_cons, List.length_nil, List.replicate, List.cons_append, List.nil_append, List.set_cons_zero, List.set_cons_succ, Option.some.injEq, exists_eq_left', Nat.reduceAdd, Nat.reduceSub, Nat.sub_zero, Nat.sub_self, Nat.zero_add, Nat.reduceEqDiff, Bool.not_true, Bool.not_false, if_true, if_false, Bool.and_self, Bool.true_and, Bool.and_true, Bool.false_eq_true, ↓reduceIte, true_and, and_true, decide_true, decide_false, wipeR]; rfl
theorem rowK_eq {d : D} (h : DecL d) : K_is_row_of_kinds K_rises (K_is_kind (K_is_small K_is_all_of)) [d] s = some (.bool (rowB kindB d), s) := by
  apply ok_eq
  unfold K_is_row_of_kinds B_is_row_of_kinds
  refine k_fn (k_ret ?_)
  simp only [ok_V0, ok_Vs, ok_K, ok_B, ok_U, ok_nil, ok_cons, ok_N, ok_aN, ok_call, ok_nl, ok_fl, ok_afl, ok_T, ok_qNot, ok_qAnd, ok_qOr, ok_and, ok_or, ok_not, ok_if, ok_Sl, ok_oNo, ok_oOf, ok_Ch, ok_it, ok_itA, ok_yes, v_addI, v_sub, v_neg, v_eqI, v_eqS, v_eqB, v_eq0, v_eqT0, v_neI, v_neS, v_neB, v_ne0, v_neT0, v_ltI, v_leI, v_gtI, v_geI, v_is, v_isNot, v_nn, v_ns, v_ni, v_nl, v_nt, v_tb, v_tl, v_tt, v_tn, v_ti, v_asB, v_asI, v_asL, v_asT, v_asS, v_lenL, v_lenT, v_tupL, v_tupT, v_listL, v_listT, v_intB, v_tup0, v_tup1, v_tup2, v_tup3, v_tup4, v_tup5, v_lst0, v_lst1, v_lst2, v_lst3, v_lst4, v_lst5, v_ok0, v_ok1, v_ok2, v_ix0L, v_ix0, v_ix1, v_ix2, v_ix3, v_fs, v_fi, v_fb, v_fn, v_ft, v_f0, v_fc, startR, List.map_cons, List.map_nil, List.length_cons, List.length_nil, List.replicate, List.cons_append, List.nil_append, List.set_cons_zero, List.set_cons_succ, Option.some.injEq, exists_eq_left', Nat.reduceAdd, Nat.reduceSub, Nat.sub_zero, Nat.sub_self, Nat.zero_add, Nat.reduceEqDiff, Bool.not_true, Bool.not_false, if_true, if_false, Bool.and_self, Bool.true_and, Bool.and_true, Bool.false_eq_true, ↓reduceIte, true_and, and_true, decide_true, decide_false, wipeR, isi_tup h.1]
  cases d with
  | tuple ds =>
    have ha : cQu false (iOf asT (cVar 0)) (gNm 1) qYes (cCall 1 (K_is_kind (K_is_small K_is_all_of)) (aCons (cVar 1) aNil)) [1] [some (.tuple ds), none] s = some (.bool ((ds.filter fun _ => true).all kindB), s) := by
      refine k_all (fun _ => true) _ rfl fun d hd => ⟨_, rfl, rfl, fun _ => ?_⟩
      exact kind_eq (h.2 ds rfl d hd)
    rw [List.filter_eq_self.mpr (fun _ _ => rfl)] at ha
    simp only [ok_V0, ok_Vs, ok_K, ok_B, ok_U, ok_nil, ok_cons, ok_N, ok_aN, ok_call, ok_nl, ok_fl, ok_afl, ok_T, ok_qNot, ok_qAnd, ok_qOr, ok_and, ok_or, ok_not, ok_if, ok_Sl, ok_oNo, ok_oOf, ok_Ch, ok_it, ok_itA, ok_yes, v_addI, v_sub, v_neg, v_eqI, v_eqS, v_eqB, v_eq0, v_eqT0, v_neI, v_neS, v_neB, v_ne0, v_neT0, v_ltI, v_leI, v_gtI, v_geI, v_is, v_isNot, v_nn, v_ns, v_ni, v_nl, v_nt, v_tb, v_tl, v_tt, v_tn, v_ti, v_asB, v_asI, v_asL, v_asT, v_asS, v_lenL, v_lenT, v_tupL, v_tupT, v_listL, v_listT, v_intB, v_tup0, v_tup1, v_tup2, v_tup3, v_tup4, v_tup5, v_lst0, v_lst1, v_lst2, v_lst3, v_lst4, v_lst5, v_ok0, v_ok1, v_ok2, v_ix0L, v_ix0, v_ix1, v_ix2, v_ix3, v_fs, v_fi, v_fb, v_fn, v_ft, v_f0, v_fc, startR, List.map_cons, List.map_nil, List.length_cons, List.length_nil, List.replicate, List.cons_append, List.nil_append, List.set_cons_zero, List.set_cons_succ, Option.some.injEq, exists_eq_left', Nat.reduceAdd, Nat.reduceSub, Nat.sub_zero, Nat.sub_self, Nat.zero_add, Nat.reduceEqDiff, Bool.not_true, Bool.not_false, if_true, if_false, Bool.and_self, Bool.true_and, Bool.and_true, Bool.false_eq_true, ↓reduceIte, true_and, and_true, decide_true, decide_false, wipeR, ha, ok_some]
    show if ds.all kindB = true then _ else _
    unfold rowB
    cases e : ds.all kindB with
    | true =>
      simp only [ok_V0, ok_Vs, ok_K, ok_B, ok_U, ok_nil, ok_cons, ok_N, ok_aN, ok_call, ok_nl, ok_fl, ok_afl, ok_T, ok_qNot, ok_qAnd, ok_qOr, ok_and, ok_or, ok_not, ok_if, ok_Sl, ok_oNo, ok_oOf, ok_Ch, ok_it, ok_itA, ok_yes, v_addI, v_sub, v_neg, v_eqI, v_eqS, v_eqB, v_eq0, v_eqT0, v_neI, v_neS, v_neB, v_ne0, v_neT0, v_ltI, v_leI, v_gtI, v_geI, v_is, v_isNot, v_nn, v_ns, v_ni, v_nl, v_nt, v_tb, v_tl, v_tt, v_tn, v_ti, v_asB, v_asI, v_asL, v_asT, v_asS, v_lenL, v_lenT, v_tupL, v_tupT, v_listL, v_listT, v_intB, v_tup0, v_tup1, v_tup2, v_tup3, v_tup4, v_tup5, v_lst0, v_lst1, v_lst2, v_lst3, v_lst4, v_lst5, v_ok0, v_ok1, v_ok2, v_ix0L, v_ix0, v_ix1, v_ix2, v_ix3, v_fs, v_fi, v_fb, v_fn, v_ft, v_f0, v_fc, startR, List.map_cons, List.map_nil, List.length_cons, List.length_nil, List.replicate, List.cons_append, List.nil_append, List.set_cons_zero, List.set_cons_succ, Option.some.injEq, exists_eq_left', Nat.reduceAdd, Nat.reduceSub, Nat.sub_zero, Nat.sub_self, Nat.zero_add, Nat.reduceEqDiff, Bool.not_true, Bool.not_false, if_true, if_false, Bool.and_self, Bool.true_and, Bool.and_true, Bool.false_eq_true, ↓reduceIte, true_and, and_true, decide_true, decide_false, wipeR]
      have e2 := strs_of (fun d => kind_str) e
      rw [e2, rises_eq, ← e2]
      simp only [ok_V0, ok_Vs, ok_K, ok_B, ok_U, ok_nil, ok_cons, ok_N, ok_aN, ok_call, ok_nl, ok_fl, ok_afl, ok_T, ok_qNot, ok_qAnd, ok_qOr, ok_and, ok_or, ok_not, ok_if, ok_Sl, ok_oNo, ok_oOf, ok_Ch, ok_it, ok_itA, ok_yes, v_addI, v_sub, v_neg, v_eqI, v_eqS, v_eqB, v_eq0, v_eqT0, v_neI, v_neS, v_neB, v_ne0, v_neT0, v_ltI, v_leI, v_gtI, v_geI, v_is, v_isNot, v_nn, v_ns, v_ni, v_nl, v_nt, v_tb, v_tl, v_tt, v_tn, v_ti, v_asB, v_asI, v_asL, v_asT, v_asS, v_lenL, v_lenT, v_tupL, v_tupT, v_listL, v_listT, v_intB, v_tup0, v_tup1, v_tup2, v_tup3, v_tup4, v_tup5, v_lst0, v_lst1, v_lst2, v_lst3, v_lst4, v_lst5, v_ok0, v_ok1, v_ok2, v_ix0L, v_ix0, v_ix1, v_ix2, v_ix3, v_fs, v_fi, v_fb, v_fn, v_ft, v_f0, v_fc, startR, List.map_cons, List.map_nil, List.length_cons, List.length_nil, List.replicate, List.cons_append, List.nil_append, List.set_cons_zero, List.set_cons_succ, Option.some.injEq, exists_eq_left', Nat.reduceAdd, Nat.reduceSub, Nat.sub_zero, Nat.sub_self, Nat.zero_add, Nat.reduceEqDiff, Bool.not_true, Bool.not_false, if_true, if_false, Bool.and_self, Bool.true_and, Bool.and_true, Bool.false_eq_true, ↓reduceIte, true_and, and_true, decide_true, decide_false, wipeR, ok_some]
      rw [e]
      rfl
    | false =>
      simp only [ok_V0, ok_Vs, ok_K, ok_B, ok_U, ok_nil, ok_cons, ok_N, ok_aN, ok_call, ok_nl, ok_fl, ok_afl, ok_T, ok_qNot, ok_qAnd, ok_qOr, ok_and, ok_or, ok_not, ok_if, ok_Sl, ok_oNo, ok_oOf, ok_Ch, ok_it, ok_itA, ok_yes, v_addI, v_sub, v_neg, v_eqI, v_eqS, v_eqB, v_eq0, v_eqT0, v_neI, v_neS, v_neB, v_ne0, v_neT0, v_ltI, v_leI, v_gtI, v_geI, v_is, v_isNot, v_nn, v_ns, v_ni, v_nl, v_nt, v_tb, v_tl, v_tt, v_tn, v_ti, v_asB, v_asI, v_asL, v_asT, v_asS, v_lenL, v_lenT, v_tupL, v_tupT, v_listL, v_listT, v_intB, v_tup0, v_tup1, v_tup2, v_tup3, v_tup4, v_tup5, v_lst0, v_lst1, v_lst2, v_lst3, v_lst4, v_lst5, v_ok0, v_ok1, v_ok2, v_ix0L, v_ix0, v_ix1, v_ix2, v_ix3, v_fs, v_fi, v_fb, v_fn, v_ft, v_f0, v_fc, startR, List.map_cons, List.map_nil, List.length_cons, List.length_nil, List.replicate, List.cons_append, List.nil_append, List.set_cons_zero, List.set_cons_succ, Option.some.injEq, exists_eq_left', Nat.reduceAdd, Nat.reduceSub, Nat.sub_zero, Nat.sub_self, Nat.zero_add, Nat.reduceEqDiff, Bool.not_true, Bool.not_false, if_true, if_false, Bool.and_self, Bool.true_and, Bool.and_true, Bool.false_eq_true, ↓reduceIte, true_and, and_true, decide_true, decide_false, wipeR]
      rw [e]
      rfl
  | _ => simp only [ok_V0, ok_Vs, ok_K, ok_B, ok_U, ok_nil, ok_cons, ok_N, ok_aN, ok_call, ok_nl, ok_fl, ok_afl, ok_T, ok_qNot, ok_qAnd, ok_qOr, ok_and, ok_or, ok_not, ok_if, ok_Sl, ok_oNo, ok_oOf, ok_Ch, ok_it, ok_itA, ok_yes, v_addI, v_sub, v_neg, v_eqI, v_eqS, v_eqB, v_eq0, v_eqT0, v_neI, v_neS, v_neB, v_ne0, v_neT0, v_ltI, v_leI, v_gtI, v_geI, v_is, v_isNot, v_nn, v_ns, v_ni, v_nl, v_nt, v_tb, v_tl, v_tt, v_tn, v_ti, v_asB, v_asI, v_asL, v_asT, v_asS, v_lenL, v_lenT, v_tupL, v_tupT, v_listL, v_listT, v_intB, v_tup0, v_tup1, v_tup2, v_tup3, v_tup4, v_tup5, v_lst0, v_lst1, v_lst2, v_lst3, v_lst4, v_lst5, v_ok0, v_ok1, v_ok2, v_ix0L, v_ix0, v_ix1, v_ix2, v_ix3, v_fs, v_fi, v_fb, v_fn, v_ft, v_f0, v_fc, startR, List.map_cons, List.map_nil, List.length_cons, List.length_nil, List.replicate, List.cons_append, List.nil_append, List.set_cons_zero, List.set_cons_succ, Option.some.injEq, exists_eq_left', Nat.reduceAdd, Nat.reduceSub, Nat.sub_zero, Nat.sub_self, Nat.zero_add, Nat.reduceEqDiff, Bool.not_true, Bool.not_false, if_true, if_false, Bool.and_self, Bool.true_and, Bool.and_true, Bool.false_eq_true, ↓reduceIte, true_and, and_true, decide_true, decide_false, wipeR]; rfl
def disB (b c : D) : Bool := match b, c with
  | .tuple bs, .tuple cs => (bs.map txt).all fun x => !decide (x ∈ cs.map txt)
  | _, _ => false
def vocB : D → Bool
  | .tuple [a, b, c] => rowB nameB a && (rowB kindB b && (rowB kindB c && disB b c))
  | _ => false
abbrev Pvoc : Fn S := K_is_vocabulary (K_is_row_of_kinds K_rises (K_is_kind (K_is_small K_is_all_of))) (K_is_row_of_names K_rises (K_is_name (K_is_small K_is_all_of)))
def DecV (d : D) : Prop := Dec d ∧ ∀ ds, d = .tuple ds → (∀ x ∈ ds, DecL x ∧ ∀ es, x = .tuple es → es.length ≤ 1000) ∧ ds.length ≤ 1000
theorem dStrs_map : ∀ xs : List Str, dStrs (xs.map .str) = some xs
  | [] => rfl
  | x :: xs => by simp [dStrs, dStrs_map xs]
theorem row_tup {p : D → Bool} {d : D} (h : rowB p d = true) : ∃ ds, d = .tuple ds ∧ ds.all p = true ∧ risS (ds.map txt) = true := by
  cases d with
  | tuple ds =>
    unfold rowB at h
    rw [Bool.and_eq_true] at h
    exact ⟨ds, rfl, h.1, h.2⟩
  | _ => cases h
theorem dis_len {a b : List Str} : decide (((((gath a).filter fun k => decide (k ∈ gath b)).length : Nat) : Int) = 0) = a.all fun x => !decide (x ∈ b) := by
  rw [Bool.eq_iff_iff, decide_eq_true_eq, List.all_eq_true]
  constructor
  · intro h x hx
    have h0 : ((gath a).filter fun k => decide (k ∈ gath b)) = [] := List.length_eq_zero_iff.mp (by omega)
    have := List.filter_eq_nil_iff.mp h0 x (gath_mem.mpr hx)
    simpa [gath_mem] using this
  · intro h
    have h0 : ((gath a).filter fun k => decide (k ∈ gath b)) = [] := List.filter_eq_nil_iff.mpr fun x hx => by
      have := h x (gath_mem.mp hx)
      simpa [gath_mem] using this
    rw [h0]
    rfl
theorem voc_eq {d : D} (h : DecV d) : Pvoc [d] s = some (.bool (vocB d), s) := by
  apply ok_eq
  unfold Pvoc K_is_vocabulary B_is_vocabulary
  refine k_fn (k_seq (k_sIf ?_))
  simp only [ok_V0, ok_Vs, ok_K, ok_B, ok_U, ok_nil, ok_cons, ok_N, ok_aN, ok_call, ok_nl, ok_fl, ok_afl, ok_T, ok_qNot, ok_qAnd, ok_qOr, ok_and, ok_or, ok_not, ok_if, ok_Sl, ok_oNo, ok_oOf, ok_Ch, ok_it, ok_itA, ok_yes, v_addI, v_sub, v_neg, v_eqI, v_eqS, v_eqB, v_eq0, v_eqT0, v_neI, v_neS, v_neB, v_ne0, v_neT0, v_ltI, v_leI, v_gtI, v_geI, v_is, v_isNot, v_nn, v_ns, v_ni, v_nl, v_nt, v_tb, v_tl, v_tt, v_tn, v_ti, v_asB, v_asI, v_asL, v_asT, v_asS, v_lenL, v_lenT, v_tupL, v_tupT, v_listL, v_listT, v_intB, v_tup0, v_tup1, v_tup2, v_tup3, v_tup4, v_tup5, v_lst0, v_lst1, v_lst2, v_lst3, v_lst4, v_lst5, v_ok0, v_ok1, v_ok2, v_ix0L, v_ix0, v_ix1, v_ix2, v_ix3, v_fs, v_fi, v_fb, v_fn, v_ft, v_f0, v_fc, startR, List.map_cons, List.map_nil, List.length_cons, List.length_nil, List.replicate, List.cons_append, List.nil_append, List.set_cons_zero, List.set_cons_succ, Option.some.injEq, exists_eq_left', Nat.reduceAdd, Nat.reduceSub, Nat.sub_zero, Nat.sub_self, Nat.zero_add, Nat.reduceEqDiff, Bool.not_true, Bool.not_false, if_true, if_false, Bool.and_self, Bool.true_and, Bool.and_true, Bool.false_eq_true, ↓reduceIte, true_and, and_true, decide_true, decide_false, wipeR, isi_tup h.1]
  cases d with
  | tuple ds =>
    simp only [ok_V0, ok_Vs, ok_K, ok_B, ok_U, ok_nil, ok_cons, ok_N, ok_aN, ok_call, ok_nl, ok_fl, ok_afl, ok_T, ok_qNot, ok_qAnd, ok_qOr, ok_and, ok_or, ok_not, ok_if, ok_Sl, ok_oNo, ok_oOf, ok_Ch, ok_it, ok_itA, ok_yes, v_addI, v_sub, v_neg, v_eqI, v_eqS, v_eqB, v_eq0, v_eqT0, v_neI, v_neS, v_neB, v_ne0, v_neT0, v_ltI, v_leI, v_gtI, v_geI, v_is, v_isNot, v_nn, v_ns, v_ni, v_nl, v_nt, v_tb, v_tl, v_tt, v_tn, v_ti, v_asB, v_asI, v_asL, v_asT, v_asS, v_lenL, v_lenT, v_tupL, v_tupT, v_listL, v_listT, v_intB, v_tup0, v_tup1, v_tup2, v_tup3, v_tup4, v_tup5, v_lst0, v_lst1, v_lst2, v_lst3, v_lst4, v_lst5, v_ok0, v_ok1, v_ok2, v_ix0L, v_ix0, v_ix1, v_ix2, v_ix3, v_fs, v_fi, v_fb, v_fn, v_ft, v_f0, v_fc, startR, List.map_cons, List.map_nil, List.length_cons, List.length_nil, List.replicate, List.cons_append, List.nil_append, List.set_cons_zero, List.set_cons_succ, Option.some.injEq, exists_eq_left', Nat.reduceAdd, Nat.reduceSub, Nat.sub_zero, Nat.sub_self, Nat.zero_add, Nat.reduceEqDiff, Bool.not_true, Bool.not_false, if_true, if_false, Bool.and_self, Bool.true_and, Bool.and_true, Bool.false_eq_true, ↓reduceIte, true_and, and_true, decide_true, decide_false, wipeR]
    match ds, h with
    | [], h => simp only [ok_V0, ok_Vs, ok_K, ok_B, ok_U, ok_nil, ok_cons, ok_N, ok_aN, ok_call, ok_nl, ok_fl, ok_afl, ok_T, ok_qNot, ok_qAnd, ok_qOr, ok_and, ok_or, ok_not, ok_if, ok_Sl, ok_oNo, ok_oOf, ok_Ch, ok_it, ok_itA, ok_yes, v_addI, v_sub, v_neg, v_eqI, v_eqS, v_eqB, v_eq0, v_eqT0, v_neI, v_neS, v_neB, v_ne0, v_neT0, v_ltI, v_leI, v_gtI, v_geI, v_is, v_isNot, v_nn, v_ns, v_ni, v_nl, v_nt, v_tb, v_tl, v_tt, v_tn, v_ti, v_asB, v_asI, v_asL, v_asT, v_asS, v_lenL, v_lenT, v_tupL, v_tupT, v_listL, v_listT, v_intB, v_tup0, v_tup1, v_tup2, v_tup3, v_tup4, v_tup5, v_lst0, v_lst1, v_lst2, v_lst3, v_lst4, v_lst5, v_ok0, v_ok1, v_ok2, v_ix0L, v_ix0, v_ix1, v_ix2, v_ix3, v_fs, v_fi, v_fb, v_fn, v_ft, v_f0, v_fc, startR, List.map_cons, List.map_nil, List.length_cons, List.length_nil, List.replicate, List.cons_append, List.nil_append, List.set_cons_zero, List.set_cons_succ, Option.some.injEq, exists_eq_left', Nat.reduceAdd, Nat.reduceSub, Nat.sub_zero, Nat.sub_self, Nat.zero_add, Nat.reduceEqDiff, Bool.not_true, Bool.not_false, if_true, if_false, Bool.and_self, Bool.true_and, Bool.and_true, Bool.false_eq_true, ↓reduceIte, true_and, and_true, decide_true, decide_false, wipeR, show ((((0 : Nat) : Int) = 3)) = False by simp]; exact k_ret (by simp only [ok_V0, ok_Vs, ok_K, ok_B, ok_U, ok_nil, ok_cons, ok_N, ok_aN, ok_call, ok_nl, ok_fl, ok_afl, ok_T, ok_qNot, ok_qAnd, ok_qOr, ok_and, ok_or, ok_not, ok_if, ok_Sl, ok_oNo, ok_oOf, ok_Ch, ok_it, ok_itA, ok_yes, v_addI, v_sub, v_neg, v_eqI, v_eqS, v_eqB, v_eq0, v_eqT0, v_neI, v_neS, v_neB, v_ne0, v_neT0, v_ltI, v_leI, v_gtI, v_geI, v_is, v_isNot, v_nn, v_ns, v_ni, v_nl, v_nt, v_tb, v_tl, v_tt, v_tn, v_ti, v_asB, v_asI, v_asL, v_asT, v_asS, v_lenL, v_lenT, v_tupL, v_tupT, v_listL, v_listT, v_intB, v_tup0, v_tup1, v_tup2, v_tup3, v_tup4, v_tup5, v_lst0, v_lst1, v_lst2, v_lst3, v_lst4, v_lst5, v_ok0, v_ok1, v_ok2, v_ix0L, v_ix0, v_ix1, v_ix2, v_ix3, v_fs, v_fi, v_fb, v_fn, v_ft, v_f0, v_fc, startR, List.map_cons, List.map_nil, List.length_cons, List.length_nil, List.replicate, List.cons_append, List.nil_append, List.set_cons_zero, List.set_cons_succ, Option.some.injEq, exists_eq_left', Nat.reduceAdd, Nat.reduceSub, Nat.sub_zero, Nat.sub_self, Nat.zero_add, Nat.reduceEqDiff, Bool.not_true, Bool.not_false, if_true, if_false, Bool.and_self, Bool.true_and, Bool.and_true, Bool.false_eq_true, ↓reduceIte, true_and, and_true, decide_true, decide_false, wipeR]; rfl)
    | [a], h => simp only [ok_V0, ok_Vs, ok_K, ok_B, ok_U, ok_nil, ok_cons, ok_N, ok_aN, ok_call, ok_nl, ok_fl, ok_afl, ok_T, ok_qNot, ok_qAnd, ok_qOr, ok_and, ok_or, ok_not, ok_if, ok_Sl, ok_oNo, ok_oOf, ok_Ch, ok_it, ok_itA, ok_yes, v_addI, v_sub, v_neg, v_eqI, v_eqS, v_eqB, v_eq0, v_eqT0, v_neI, v_neS, v_neB, v_ne0, v_neT0, v_ltI, v_leI, v_gtI, v_geI, v_is, v_isNot, v_nn, v_ns, v_ni, v_nl, v_nt, v_tb, v_tl, v_tt, v_tn, v_ti, v_asB, v_asI, v_asL, v_asT, v_asS, v_lenL, v_lenT, v_tupL, v_tupT, v_listL, v_listT, v_intB, v_tup0, v_tup1, v_tup2, v_tup3, v_tup4, v_tup5, v_lst0, v_lst1, v_lst2, v_lst3, v_lst4, v_lst5, v_ok0, v_ok1, v_ok2, v_ix0L, v_ix0, v_ix1, v_ix2, v_ix3, v_fs, v_fi, v_fb, v_fn, v_ft, v_f0, v_fc, startR, List.map_cons, List.map_nil, List.length_cons, List.length_nil, List.replicate, List.cons_append, List.nil_append, List.set_cons_zero, List.set_cons_succ, Option.some.injEq, exists_eq_left', Nat.reduceAdd, Nat.reduceSub, Nat.sub_zero, Nat.sub_self, Nat.zero_add, Nat.reduceEqDiff, Bool.not_true, Bool.not_false, if_true, if_false, Bool.and_self, Bool.true_and, Bool.and_true, Bool.false_eq_true, ↓reduceIte, true_and, and_true, decide_true, decide_false, wipeR, show ((((1 : Nat) : Int) = 3)) = False by simp]; exact k_ret (by simp only [ok_V0, ok_Vs, ok_K, ok_B, ok_U, ok_nil, ok_cons, ok_N, ok_aN, ok_call, ok_nl, ok_fl, ok_afl, ok_T, ok_qNot, ok_qAnd, ok_qOr, ok_and, ok_or, ok_not, ok_if, ok_Sl, ok_oNo, ok_oOf, ok_Ch, ok_it, ok_itA, ok_yes, v_addI, v_sub, v_neg, v_eqI, v_eqS, v_eqB, v_eq0, v_eqT0, v_neI, v_neS, v_neB, v_ne0, v_neT0, v_ltI, v_leI, v_gtI, v_geI, v_is, v_isNot, v_nn, v_ns, v_ni, v_nl, v_nt, v_tb, v_tl, v_tt, v_tn, v_ti, v_asB, v_asI, v_asL, v_asT, v_asS, v_lenL, v_lenT, v_tupL, v_tupT, v_listL, v_listT, v_intB, v_tup0, v_tup1, v_tup2, v_tup3, v_tup4, v_tup5, v_lst0, v_lst1, v_lst2, v_lst3, v_lst4, v_lst5, v_ok0, v_ok1, v_ok2, v_ix0L, v_ix0, v_ix1, v_ix2, v_ix3, v_fs, v_fi, v_fb, v_fn, v_ft, v_f0, v_fc, startR, List.map_cons, List.map_nil, List.length_cons, List.length_nil, List.replicate, List.cons_append, List.nil_append, List.set_cons_zero, List.set_cons_succ, Option.some.injEq, exists_eq_left', Nat.reduceAdd, Nat.reduceSub, Nat.sub_zero, Nat.sub_self, Nat.zero_add, Nat.reduceEqDiff, Bool.not_true, Bool.not_false, if_true, if_false, Bool.and_self, Bool.true_and, Bool.and_true, Bool.false_eq_true, ↓reduceIte, true_and, and_true, decide_true, decide_false, wipeR]; rfl)
    | [a, b], h => simp only [ok_V0, ok_Vs, ok_K, ok_B, ok_U, ok_nil, ok_cons, ok_N, ok_aN, ok_call, ok_nl, ok_fl, ok_afl, ok_T, ok_qNot, ok_qAnd, ok_qOr, ok_and, ok_or, ok_not, ok_if, ok_Sl, ok_oNo, ok_oOf, ok_Ch, ok_it, ok_itA, ok_yes, v_addI, v_sub, v_neg, v_eqI, v_eqS, v_eqB, v_eq0, v_eqT0, v_neI, v_neS, v_neB, v_ne0, v_neT0, v_ltI, v_leI, v_gtI, v_geI, v_is, v_isNot, v_nn, v_ns, v_ni, v_nl, v_nt, v_tb, v_tl, v_tt, v_tn, v_ti, v_asB, v_asI, v_asL, v_asT, v_asS, v_lenL, v_lenT, v_tupL, v_tupT, v_listL, v_listT, v_intB, v_tup0, v_tup1, v_tup2, v_tup3, v_tup4, v_tup5, v_lst0, v_lst1, v_lst2, v_lst3, v_lst4, v_lst5, v_ok0, v_ok1, v_ok2, v_ix0L, v_ix0, v_ix1, v_ix2, v_ix3, v_fs, v_fi, v_fb, v_fn, v_ft, v_f0, v_fc, startR, List.map_cons, List.map_nil, List.length_cons, List.length_nil, List.replicate, List.cons_append, List.nil_append, List.set_cons_zero, List.set_cons_succ, Option.some.injEq, exists_eq_left', Nat.reduceAdd, Nat.reduceSub, Nat.sub_zero, Nat.sub_self, Nat.zero_add, Nat.reduceEqDiff, Bool.not_true, Bool.not_false, if_true, if_false, Bool.and_self, Bool.true_and, Bool.and_true, Bool.false_eq_true, ↓reduceIte, true_and, and_true, decide_true, decide_false, wipeR, show ((((2 : Nat) : Int) = 3)) = False by simp]; exact k_ret (by simp only [ok_V0, ok_Vs, ok_K, ok_B, ok_U, ok_nil, ok_cons, ok_N, ok_aN, ok_call, ok_nl, ok_fl, ok_afl, ok_T, ok_qNot, ok_qAnd, ok_qOr, ok_and, ok_or, ok_not, ok_if, ok_Sl, ok_oNo, ok_oOf, ok_Ch, ok_it, ok_itA, ok_yes, v_addI, v_sub, v_neg, v_eqI, v_eqS, v_eqB, v_eq0, v_eqT0, v_neI, v_neS, v_neB, v_ne0, v_neT0, v_ltI, v_leI, v_gtI, v_geI, v_is, v_isNot, v_nn, v_ns, v_ni, v_nl, v_nt, v_tb, v_tl, v_tt, v_tn, v_ti, v_asB, v_asI, v_asL, v_asT, v_asS, v_lenL, v_lenT, v_tupL, v_tupT, v_listL, v_listT, v_intB, v_tup0, v_tup1, v_tup2, v_tup3, v_tup4, v_tup5, v_lst0, v_lst1, v_lst2, v_lst3, v_lst4, v_lst5, v_ok0, v_ok1, v_ok2, v_ix0L, v_ix0, v_ix1, v_ix2, v_ix3, v_fs, v_fi, v_fb, v_fn, v_ft, v_f0, v_fc, startR, List.map_cons, List.map_nil, List.length_cons, List.length_nil, List.replicate, List.cons_append, List.nil_append, List.set_cons_zero, List.set_cons_succ, Option.some.injEq, exists_eq_left', Nat.reduceAdd, Nat.reduceSub, Nat.sub_zero, Nat.sub_self, Nat.zero_add, Nat.reduceEqDiff, Bool.not_true, Bool.not_false, if_true, if_false, Bool.and_self, Bool.true_and, Bool.and_true, Bool.false_eq_true, ↓reduceIte, true_and, and_true, decide_true, decide_false, wipeR]; rfl)
    | [a, b, c], h =>
      simp only [ok_V0, ok_Vs, ok_K, ok_B, ok_U, ok_nil, ok_cons, ok_N, ok_aN, ok_call, ok_nl, ok_fl, ok_afl, ok_T, ok_qNot, ok_qAnd, ok_qOr, ok_and, ok_or, ok_not, ok_if, ok_Sl, ok_oNo, ok_oOf, ok_Ch, ok_it, ok_itA, ok_yes, v_addI, v_sub, v_neg, v_eqI, v_eqS, v_eqB, v_eq0, v_eqT0, v_neI, v_neS, v_neB, v_ne0, v_neT0, v_ltI, v_leI, v_gtI, v_geI, v_is, v_isNot, v_nn, v_ns, v_ni, v_nl, v_nt, v_tb, v_tl, v_tt, v_tn, v_ti, v_asB, v_asI, v_asL, v_asT, v_asS, v_lenL, v_lenT, v_tupL, v_tupT, v_listL, v_listT, v_intB, v_tup0, v_tup1, v_tup2, v_tup3, v_tup4, v_tup5, v_lst0, v_lst1, v_lst2, v_lst3, v_lst4, v_lst5, v_ok0, v_ok1, v_ok2, v_ix0L, v_ix0, v_ix1, v_ix2, v_ix3, v_fs, v_fi, v_fb, v_fn, v_ft, v_f0, v_fc, startR, List.map_cons, List.map_nil, List.length_cons, List.length_nil, List.replicate, List.cons_append, List.nil_append, List.set_cons_zero, List.set_cons_succ, Option.some.injEq, exists_eq_left', Nat.reduceAdd, Nat.reduceSub, Nat.sub_zero, Nat.sub_self, Nat.zero_add, Nat.reduceEqDiff, Bool.not_true, Bool.not_false, if_true, if_false, Bool.and_self, Bool.true_and, Bool.and_true, Bool.false_eq_true, ↓reduceIte, true_and, and_true, decide_true, decide_false, wipeR, show ((((3 : Nat) : Int) = 3)) = True by simp]
      obtain ⟨_, h2⟩ := h
      obtain ⟨h2, _⟩ := h2 _ rfl
      obtain ⟨ha, _⟩ := h2 a (by simp)
      obtain ⟨hb, hbl⟩ := h2 b (by simp)
      obtain ⟨hc, hcl⟩ := h2 c (by simp)
      refine k_nx (k_seq (k_asg ?_))
      simp only [ok_V0, ok_Vs, ok_K, ok_B, ok_U, ok_nil, ok_cons, ok_N, ok_aN, ok_call, ok_nl, ok_fl, ok_afl, ok_T, ok_qNot, ok_qAnd, ok_qOr, ok_and, ok_or, ok_not, ok_if, ok_Sl, ok_oNo, ok_oOf, ok_Ch, ok_it, ok_itA, ok_yes, v_addI, v_sub, v_neg, v_eqI, v_eqS, v_eqB, v_eq0, v_eqT0, v_neI, v_neS, v_neB, v_ne0, v_neT0, v_ltI, v_leI, v_gtI, v_geI, v_is, v_isNot, v_nn, v_ns, v_ni, v_nl, v_nt, v_tb, v_tl, v_tt, v_tn, v_ti, v_asB, v_asI, v_asL, v_asT, v_asS, v_lenL, v_lenT, v_tupL, v_tupT, v_listL, v_listT, v_intB, v_tup0, v_tup1, v_tup2, v_tup3, v_tup4, v_tup5, v_lst0, v_lst1, v_lst2, v_lst3, v_lst4, v_lst5, v_ok0, v_ok1, v_ok2, v_ix0L, v_ix0, v_ix1, v_ix2, v_ix3, v_fs, v_fi, v_fb, v_fn, v_ft, v_f0, v_fc, startR, List.map_cons, List.map_nil, List.length_cons, List.length_nil, List.replicate, List.cons_append, List.nil_append, List.set_cons_zero, List.set_cons_succ, Option.some.injEq, exists_eq_left', Nat.reduceAdd, Nat.reduceSub, Nat.sub_zero, Nat.sub_self, Nat.zero_add, Nat.reduceEqDiff, Bool.not_true, Bool.not_false, if_true, if_false, Bool.and_self, Bool.true_and, Bool.and_true, Bool.false_eq_true, ↓reduceIte, true_and, and_true, decide_true, decide_false, wipeR]
      refine ⟨_, rfl, ?_⟩
      refine k_seq (k_sIf ?_)
      simp only [ok_V0, ok_Vs, ok_K, ok_B, ok_U, ok_nil, ok_cons, ok_N, ok_aN, ok_call, ok_nl, ok_fl, ok_afl, ok_T, ok_qNot, ok_qAnd, ok_qOr, ok_and, ok_or, ok_not, ok_if, ok_Sl, ok_oNo, ok_oOf, ok_Ch, ok_it, ok_itA, ok_yes, v_addI, v_sub, v_neg, v_eqI, v_eqS, v_eqB, v_eq0, v_eqT0, v_neI, v_neS, v_neB, v_ne0, v_neT0, v_ltI, v_leI, v_gtI, v_geI, v_is, v_isNot, v_nn, v_ns, v_ni, v_nl, v_nt, v_tb, v_tl, v_tt, v_tn, v_ti, v_asB, v_asI, v_asL, v_asT, v_asS, v_lenL, v_lenT, v_tupL, v_tupT, v_listL, v_listT, v_intB, v_tup0, v_tup1, v_tup2, v_tup3, v_tup4, v_tup5, v_lst0, v_lst1, v_lst2, v_lst3, v_lst4, v_lst5, v_ok0, v_ok1, v_ok2, v_ix0L, v_ix0, v_ix1, v_ix2, v_ix3, v_fs, v_fi, v_fb, v_fn, v_ft, v_f0, v_fc, startR, List.map_cons, List.map_nil, List.length_cons, List.length_nil, List.replicate, List.cons_append, List.nil_append, List.set_cons_zero, List.set_cons_succ, Option.some.injEq, exists_eq_left', Nat.reduceAdd, Nat.reduceSub, Nat.sub_zero, Nat.sub_self, Nat.zero_add, Nat.reduceEqDiff, Bool.not_true, Bool.not_false, if_true, if_false, Bool.and_self, Bool.true_and, Bool.and_true, Bool.false_eq_true, ↓reduceIte, true_and, and_true, decide_true, decide_false, wipeR, rowN_eq ha, rowK_eq hb, rowK_eq hc, ok_some]
      unfold vocB
      cases e1 : rowB nameB a with
      | false =>
        simp only [ok_V0, ok_Vs, ok_K, ok_B, ok_U, ok_nil, ok_cons, ok_N, ok_aN, ok_call, ok_nl, ok_fl, ok_afl, ok_T, ok_qNot, ok_qAnd, ok_qOr, ok_and, ok_or, ok_not, ok_if, ok_Sl, ok_oNo, ok_oOf, ok_Ch, ok_it, ok_itA, ok_yes, v_addI, v_sub, v_neg, v_eqI, v_eqS, v_eqB, v_eq0, v_eqT0, v_neI, v_neS, v_neB, v_ne0, v_neT0, v_ltI, v_leI, v_gtI, v_geI, v_is, v_isNot, v_nn, v_ns, v_ni, v_nl, v_nt, v_tb, v_tl, v_tt, v_tn, v_ti, v_asB, v_asI, v_asL, v_asT, v_asS, v_lenL, v_lenT, v_tupL, v_tupT, v_listL, v_listT, v_intB, v_tup0, v_tup1, v_tup2, v_tup3, v_tup4, v_tup5, v_lst0, v_lst1, v_lst2, v_lst3, v_lst4, v_lst5, v_ok0, v_ok1, v_ok2, v_ix0L, v_ix0, v_ix1, v_ix2, v_ix3, v_fs, v_fi, v_fb, v_fn, v_ft, v_f0, v_fc, startR, List.map_cons, List.map_nil, List.length_cons, List.length_nil, List.replicate, List.cons_append, List.nil_append, List.set_cons_zero, List.set_cons_succ, Option.some.injEq, exists_eq_left', Nat.reduceAdd, Nat.reduceSub, Nat.sub_zero, Nat.sub_self, Nat.zero_add, Nat.reduceEqDiff, Bool.not_true, Bool.not_false, if_true, if_false, Bool.and_self, Bool.true_and, Bool.and_true, Bool.false_eq_true, ↓reduceIte, true_and, and_true, decide_true, decide_false, wipeR]
        refine k_ret ?_
        simp only [ok_V0, ok_Vs, ok_K, ok_B, ok_U, ok_nil, ok_cons, ok_N, ok_aN, ok_call, ok_nl, ok_fl, ok_afl, ok_T, ok_qNot, ok_qAnd, ok_qOr, ok_and, ok_or, ok_not, ok_if, ok_Sl, ok_oNo, ok_oOf, ok_Ch, ok_it, ok_itA, ok_yes, v_addI, v_sub, v_neg, v_eqI, v_eqS, v_eqB, v_eq0, v_eqT0, v_neI, v_neS, v_neB, v_ne0, v_neT0, v_ltI, v_leI, v_gtI, v_geI, v_is, v_isNot, v_nn, v_ns, v_ni, v_nl, v_nt, v_tb, v_tl, v_tt, v_tn, v_ti, v_asB, v_asI, v_asL, v_asT, v_asS, v_lenL, v_lenT, v_tupL, v_tupT, v_listL, v_listT, v_intB, v_tup0, v_tup1, v_tup2, v_tup3, v_tup4, v_tup5, v_lst0, v_lst1, v_lst2, v_lst3, v_lst4, v_lst5, v_ok0, v_ok1, v_ok2, v_ix0L, v_ix0, v_ix1, v_ix2, v_ix3, v_fs, v_fi, v_fb, v_fn, v_ft, v_f0, v_fc, startR, List.map_cons, List.map_nil, List.length_cons, List.length_nil, List.replicate, List.cons_append, List.nil_append, List.set_cons_zero, List.set_cons_succ, Option.some.injEq, exists_eq_left', Nat.reduceAdd, Nat.reduceSub, Nat.sub_zero, Nat.sub_self, Nat.zero_add, Nat.reduceEqDiff, Bool.not_true, Bool.not_false, if_true, if_false, Bool.and_self, Bool.true_and, Bool.and_true, Bool.false_eq_true, ↓reduceIte, true_and, and_true, decide_true, decide_false, wipeR]
        rw [e1]
        rfl
      | true =>
        cases e2 : rowB kindB b with
        | false =>
          simp only [ok_V0, ok_Vs, ok_K, ok_B, ok_U, ok_nil, ok_cons, ok_N, ok_aN, ok_call, ok_nl, ok_fl, ok_afl, ok_T, ok_qNot, ok_qAnd, ok_qOr, ok_and, ok_or, ok_not, ok_if, ok_Sl, ok_oNo, ok_oOf, ok_Ch, ok_it, ok_itA, ok_yes, v_addI, v_sub, v_neg, v_eqI, v_eqS, v_eqB, v_eq0, v_eqT0, v_neI, v_neS, v_neB, v_ne0, v_neT0, v_ltI, v_leI, v_gtI, v_geI, v_is, v_isNot, v_nn, v_ns, v_ni, v_nl, v_nt, v_tb, v_tl, v_tt, v_tn, v_ti, v_asB, v_asI, v_asL, v_asT, v_asS, v_lenL, v_lenT, v_tupL, v_tupT, v_listL, v_listT, v_intB, v_tup0, v_tup1, v_tup2, v_tup3, v_tup4, v_tup5, v_lst0, v_lst1, v_lst2, v_lst3, v_lst4, v_lst5, v_ok0, v_ok1, v_ok2, v_ix0L, v_ix0, v_ix1, v_ix2, v_ix3, v_fs, v_fi, v_fb, v_fn, v_ft, v_f0, v_fc, startR, List.map_cons, List.map_nil, List.length_cons, List.length_nil, List.replicate, List.cons_append, List.nil_append, List.set_cons_zero, List.set_cons_succ, Option.some.injEq, exists_eq_left', Nat.reduceAdd, Nat.reduceSub, Nat.sub_zero, Nat.sub_self, Nat.zero_add, Nat.reduceEqDiff, Bool.not_true, Bool.not_false, if_true, if_false, Bool.and_self, Bool.true_and, Bool.and_true, Bool.false_eq_true, ↓reduceIte, true_and, and_true, decide_true, decide_false, wipeR]
          refine k_ret ?_
          simp only [ok_V0, ok_Vs, ok_K, ok_B, ok_U, ok_nil, ok_cons, ok_N, ok_aN, ok_call, ok_nl, ok_fl, ok_afl, ok_T, ok_qNot, ok_qAnd, ok_qOr, ok_and, ok_or, ok_not, ok_if, ok_Sl, ok_oNo, ok_oOf, ok_Ch, ok_it, ok_itA, ok_yes, v_addI, v_sub, v_neg, v_eqI, v_eqS, v_eqB, v_eq0, v_eqT0, v_neI, v_neS, v_neB, v_ne0, v_neT0, v_ltI, v_leI, v_gtI, v_geI, v_is, v_isNot, v_nn, v_ns, v_ni, v_nl, v_nt, v_tb, v_tl, v_tt, v_tn, v_ti, v_asB, v_asI, v_asL, v_asT, v_asS, v_lenL, v_lenT, v_tupL, v_tupT, v_listL, v_listT, v_intB, v_tup0, v_tup1, v_tup2, v_tup3, v_tup4, v_tup5, v_lst0, v_lst1, v_lst2, v_lst3, v_lst4, v_lst5, v_ok0, v_ok1, v_ok2, v_ix0L, v_ix0, v_ix1, v_ix2, v_ix3, v_fs, v_fi, v_fb, v_fn, v_ft, v_f0, v_fc, startR, List.map_cons, List.map_nil, List.length_cons, List.length_nil, List.replicate, List.cons_append, List.nil_append, List.set_cons_zero, List.set_cons_succ, Option.some.injEq, exists_eq_left', Nat.reduceAdd, Nat.reduceSub, Nat.sub_zero, Nat.sub_self, Nat.zero_add, Nat.reduceEqDiff, Bool.not_true, Bool.not_false, if_true, if_false, Bool.and_self, Bool.true_and, Bool.and_true, Bool.false_eq_true, ↓reduceIte, true_and, and_true, decide_true, decide_false, wipeR]
          rw [e1, e2]
          rfl
        | true =>
          cases e3 : rowB kindB c with
          | false =>
            simp only [ok_V0, ok_Vs, ok_K, ok_B, ok_U, ok_nil, ok_cons, ok_N, ok_aN, ok_call, ok_nl, ok_fl, ok_afl, ok_T, ok_qNot, ok_qAnd, ok_qOr, ok_and, ok_or, ok_not, ok_if, ok_Sl, ok_oNo, ok_oOf, ok_Ch, ok_it, ok_itA, ok_yes, v_addI, v_sub, v_neg, v_eqI, v_eqS, v_eqB, v_eq0, v_eqT0, v_neI, v_neS, v_neB, v_ne0, v_neT0, v_ltI, v_leI, v_gtI, v_geI, v_is, v_isNot, v_nn, v_ns, v_ni, v_nl, v_nt, v_tb, v_tl, v_tt, v_tn, v_ti, v_asB, v_asI, v_asL, v_asT, v_asS, v_lenL, v_lenT, v_tupL, v_tupT, v_listL, v_listT, v_intB, v_tup0, v_tup1, v_tup2, v_tup3, v_tup4, v_tup5, v_lst0, v_lst1, v_lst2, v_lst3, v_lst4, v_lst5, v_ok0, v_ok1, v_ok2, v_ix0L, v_ix0, v_ix1, v_ix2, v_ix3, v_fs, v_fi, v_fb, v_fn, v_ft, v_f0, v_fc, startR, List.map_cons, List.map_nil, List.length_cons, List.length_nil, List.replicate, List.cons_append, List.nil_append, List.set_cons_zero, List.set_cons_succ, Option.some.injEq, exists_eq_left', Nat.reduceAdd, Nat.reduceSub, Nat.sub_zero, Nat.sub_self, Nat.zero_add, Nat.reduceEqDiff, Bool.not_true, Bool.not_false, if_true, if_false, Bool.and_self, Bool.true_and, Bool.and_true, Bool.false_eq_true, ↓reduceIte, true_and, and_true, decide_true, decide_false, wipeR]
            refine k_ret ?_
            simp only [ok_V0, ok_Vs, ok_K, ok_B, ok_U, ok_nil, ok_cons, ok_N, ok_aN, ok_call, ok_nl, ok_fl, ok_afl, ok_T, ok_qNot, ok_qAnd, ok_qOr, ok_and, ok_or, ok_not, ok_if, ok_Sl, ok_oNo, ok_oOf, ok_Ch, ok_it, ok_itA, ok_yes, v_addI, v_sub, v_neg, v_eqI, v_eqS, v_eqB, v_eq0, v_eqT0, v_neI, v_neS, v_neB, v_ne0, v_neT0, v_ltI, v_leI, v_gtI, v_geI, v_is, v_isNot, v_nn, v_ns, v_ni, v_nl, v_nt, v_tb, v_tl, v_tt, v_tn, v_ti, v_asB, v_asI, v_asL, v_asT, v_asS, v_lenL, v_lenT, v_tupL, v_tupT, v_listL, v_listT, v_intB, v_tup0, v_tup1, v_tup2, v_tup3, v_tup4, v_tup5, v_lst0, v_lst1, v_lst2, v_lst3, v_lst4, v_lst5, v_ok0, v_ok1, v_ok2, v_ix0L, v_ix0, v_ix1, v_ix2, v_ix3, v_fs, v_fi, v_fb, v_fn, v_ft, v_f0, v_fc, startR, List.map_cons, List.map_nil, List.length_cons, List.length_nil, List.replicate, List.cons_append, List.nil_append, List.set_cons_zero, List.set_cons_succ, Option.some.injEq, exists_eq_left', Nat.reduceAdd, Nat.reduceSub, Nat.sub_zero, Nat.sub_self, Nat.zero_add, Nat.reduceEqDiff, Bool.not_true, Bool.not_false, if_true, if_false, Bool.and_self, Bool.true_and, Bool.and_true, Bool.false_eq_true, ↓reduceIte, true_and, and_true, decide_true, decide_false, wipeR]
            rw [e1, e2, e3]
            rfl
          | true =>
            simp only [ok_V0, ok_Vs, ok_K, ok_B, ok_U, ok_nil, ok_cons, ok_N, ok_aN, ok_call, ok_nl, ok_fl, ok_afl, ok_T, ok_qNot, ok_qAnd, ok_qOr, ok_and, ok_or, ok_not, ok_if, ok_Sl, ok_oNo, ok_oOf, ok_Ch, ok_it, ok_itA, ok_yes, v_addI, v_sub, v_neg, v_eqI, v_eqS, v_eqB, v_eq0, v_eqT0, v_neI, v_neS, v_neB, v_ne0, v_neT0, v_ltI, v_leI, v_gtI, v_geI, v_is, v_isNot, v_nn, v_ns, v_ni, v_nl, v_nt, v_tb, v_tl, v_tt, v_tn, v_ti, v_asB, v_asI, v_asL, v_asT, v_asS, v_lenL, v_lenT, v_tupL, v_tupT, v_listL, v_listT, v_intB, v_tup0, v_tup1, v_tup2, v_tup3, v_tup4, v_tup5, v_lst0, v_lst1, v_lst2, v_lst3, v_lst4, v_lst5, v_ok0, v_ok1, v_ok2, v_ix0L, v_ix0, v_ix1, v_ix2, v_ix3, v_fs, v_fi, v_fb, v_fn, v_ft, v_f0, v_fc, startR, List.map_cons, List.map_nil, List.length_cons, List.length_nil, List.replicate, List.cons_append, List.nil_append, List.set_cons_zero, List.set_cons_succ, Option.some.injEq, exists_eq_left', Nat.reduceAdd, Nat.reduceSub, Nat.sub_zero, Nat.sub_self, Nat.zero_add, Nat.reduceEqDiff, Bool.not_true, Bool.not_false, if_true, if_false, Bool.and_self, Bool.true_and, Bool.and_true, Bool.false_eq_true, ↓reduceIte, true_and, and_true, decide_true, decide_false, wipeR]
            refine k_nx (k_ret ?_)
            obtain ⟨bs, rfl, eb, _⟩ := row_tup e2
            obtain ⟨cs, rfl, ec, _⟩ := row_tup e3
            have sb := strs_of (fun d => kind_str) eb
            have sc := strs_of (fun d => kind_str) ec
            have hb1 := hbl bs rfl
            have hc1 := hcl cs rfl
            have x1 : asStrs (.tuple bs) = some (bs.map txt) := by
              unfold asStrs
              simp only
              rw [sb, dStrs_map]
              simp only [List.length_map]
              rw [if_pos hb1, ← sb]
            have x2 : asStrs (.tuple cs) = some (cs.map txt) := by
              unfold asStrs
              simp only
              rw [sc, dStrs_map]
              simp only [List.length_map]
              rw [if_pos hc1, ← sc]
            have hl : cLenX (xAnd (xSet (cVar 2)) (xSet (cVar 3))) [some (.tuple [a, .tuple bs, .tuple cs]), some a, some (.tuple bs), some (.tuple cs)] s = some (.int ((((gath (bs.map txt)).filter fun k => decide (k ∈ gath (cs.map txt))).length : Nat) : Int), s) := by
              unfold cLenX xAnd xSet
              simp only [cVar, List.getElem?_cons_succ, List.getElem?_cons_zero, bnd_of, x1, x2, Option.map_some, put_of]
            simp only [ok_V0, ok_Vs, ok_K, ok_B, ok_U, ok_nil, ok_cons, ok_N, ok_aN, ok_call, ok_nl, ok_fl, ok_afl, ok_T, ok_qNot, ok_qAnd, ok_qOr, ok_and, ok_or, ok_not, ok_if, ok_Sl, ok_oNo, ok_oOf, ok_Ch, ok_it, ok_itA, ok_yes, v_addI, v_sub, v_neg, v_eqI, v_eqS, v_eqB, v_eq0, v_eqT0, v_neI, v_neS, v_neB, v_ne0, v_neT0, v_ltI, v_leI, v_gtI, v_geI, v_is, v_isNot, v_nn, v_ns, v_ni, v_nl, v_nt, v_tb, v_tl, v_tt, v_tn, v_ti, v_asB, v_asI, v_asL, v_asT, v_asS, v_lenL, v_lenT, v_tupL, v_tupT, v_listL, v_listT, v_intB, v_tup0, v_tup1, v_tup2, v_tup3, v_tup4, v_tup5, v_lst0, v_lst1, v_lst2, v_lst3, v_lst4, v_lst5, v_ok0, v_ok1, v_ok2, v_ix0L, v_ix0, v_ix1, v_ix2, v_ix3, v_fs, v_fi, v_fb, v_fn, v_ft, v_f0, v_fc, startR, List.map_cons, List.map_nil, List.length_cons, List.length_nil, List.replicate, List.cons_append, List.nil_append, List.set_cons_zero, List.set_cons_succ, Option.some.injEq, exists_eq_left', Nat.reduceAdd, Nat.reduceSub, Nat.sub_zero, Nat.sub_self, Nat.zero_add, Nat.reduceEqDiff, Bool.not_true, Bool.not_false, if_true, if_false, Bool.and_self, Bool.true_and, Bool.and_true, Bool.false_eq_true, ↓reduceIte, true_and, and_true, decide_true, decide_false, wipeR, hl, ok_some, dis_len]
            rw [e1, e2, e3]
            rfl
    | a :: b :: c :: d :: r, h =>
      simp only [ok_V0, ok_Vs, ok_K, ok_B, ok_U, ok_nil, ok_cons, ok_N, ok_aN, ok_call, ok_nl, ok_fl, ok_afl, ok_T, ok_qNot, ok_qAnd, ok_qOr, ok_and, ok_or, ok_not, ok_if, ok_Sl, ok_oNo, ok_oOf, ok_Ch, ok_it, ok_itA, ok_yes, v_addI, v_sub, v_neg, v_eqI, v_eqS, v_eqB, v_eq0, v_eqT0, v_neI, v_neS, v_neB, v_ne0, v_neT0, v_ltI, v_leI, v_gtI, v_geI, v_is, v_isNot, v_nn, v_ns, v_ni, v_nl, v_nt, v_tb, v_tl, v_tt, v_tn, v_ti, v_asB, v_asI, v_asL, v_asT, v_asS, v_lenL, v_lenT, v_tupL, v_tupT, v_listL, v_listT, v_intB, v_tup0, v_tup1, v_tup2, v_tup3, v_tup4, v_tup5, v_lst0, v_lst1, v_lst2, v_lst3, v_lst4, v_lst5, v_ok0, v_ok1, v_ok2, v_ix0L, v_ix0, v_ix1, v_ix2, v_ix3, v_fs, v_fi, v_fb, v_fn, v_ft, v_f0, v_fc, startR, List.map_cons, List.map_nil, List.length_cons, List.length_nil, List.replicate, List.cons_append, List.nil_append, List.set_cons_zero, List.set_cons_succ, Option.some.injEq, exists_eq_left', Nat.reduceAdd, Nat.reduceSub, Nat.sub_zero, Nat.sub_self, Nat.zero_add, Nat.reduceEqDiff, Bool.not_true, Bool.not_false, if_true, if_false, Bool.and_self, Bool.true_and, Bool.and_true, Bool.false_eq_true, ↓reduceIte, true_and, and_true, decide_true, decide_false, wipeR, show ((((r.length + 1 + 1 + 1 + 1 : Nat) : Int) = 3)) = False from eq_false (by omega)]
      exact k_ret (by simp only [ok_V0, ok_Vs, ok_K, ok_B, ok_U, ok_nil, ok_cons, ok_N, ok_aN, ok_call, ok_nl, ok_fl, ok_afl, ok_T, ok_qNot, ok_qAnd, ok_qOr, ok_and, ok_or, ok_not, ok_if, ok_Sl, ok_oNo, ok_oOf, ok_Ch, ok_it, ok_itA, ok_yes, v_addI, v_sub, v_neg, v_eqI, v_eqS, v_eqB, v_eq0, v_eqT0, v_neI, v_neS, v_neB, v_ne0, v_neT0, v_ltI, v_leI, v_gtI, v_geI, v_is, v_isNot, v_nn, v_ns, v_ni, v_nl, v_nt, v_tb, v_tl, v_tt, v_tn, v_ti, v_asB, v_asI, v_asL, v_asT, v_asS, v_lenL, v_lenT, v_tupL, v_tupT, v_listL, v_listT, v_intB, v_tup0, v_tup1, v_tup2, v_tup3, v_tup4, v_tup5, v_lst0, v_lst1, v_lst2, v_lst3, v_lst4, v_lst5, v_ok0, v_ok1, v_ok2, v_ix0L, v_ix0, v_ix1, v_ix2, v_ix3, v_fs, v_fi, v_fb, v_fn, v_ft, v_f0, v_fc, startR, List.map_cons, List.map_nil, List.length_cons, List.length_nil, List.replicate, List.cons_append, List.nil_append, List.set_cons_zero, List.set_cons_succ, Option.some.injEq, exists_eq_left', Nat.reduceAdd, Nat.reduceSub, Nat.sub_zero, Nat.sub_self, Nat.zero_add, Nat.reduceEqDiff, Bool.not_true, Bool.not_false, if_true, if_false, Bool.and_self, Bool.true_and, Bool.and_true, Bool.false_eq_true, ↓reduceIte, true_and, and_true, decide_true, decide_false, wipeR]; rfl)
  | _ => simp only [ok_V0, ok_Vs, ok_K, ok_B, ok_U, ok_nil, ok_cons, ok_N, ok_aN, ok_call, ok_nl, ok_fl, ok_afl, ok_T, ok_qNot, ok_qAnd, ok_qOr, ok_and, ok_or, ok_not, ok_if, ok_Sl, ok_oNo, ok_oOf, ok_Ch, ok_it, ok_itA, ok_yes, v_addI, v_sub, v_neg, v_eqI, v_eqS, v_eqB, v_eq0, v_eqT0, v_neI, v_neS, v_neB, v_ne0, v_neT0, v_ltI, v_leI, v_gtI, v_geI, v_is, v_isNot, v_nn, v_ns, v_ni, v_nl, v_nt, v_tb, v_tl, v_tt, v_tn, v_ti, v_asB, v_asI, v_asL, v_asT, v_asS, v_lenL, v_lenT, v_tupL, v_tupT, v_listL, v_listT, v_intB, v_tup0, v_tup1, v_tup2, v_tup3, v_tup4, v_tup5, v_lst0, v_lst1, v_lst2, v_lst3, v_lst4, v_lst5, v_ok0, v_ok1, v_ok2, v_ix0L, v_ix0, v_ix1, v_ix2, v_ix3, v_fs, v_fi, v_fb, v_fn, v_ft, v_f0, v_fc, startR, List.map_cons, List.map_nil, List.length_cons, List.length_nil, List.replicate, List.cons_append, List.nil_append, List.set_cons_zero, List.set_cons_succ, Option.some.injEq, exists_eq_left', Nat.reduceAdd, Nat.reduceSub, Nat.sub_zero, Nat.sub_self, Nat.zero_add, Nat.reduceEqDiff, Bool.not_true, Bool.not_false, if_true, if_false, Bool.and_self, Bool.true_and, Bool.and_true, Bool.false_eq_true, ↓reduceIte, true_and, and_true, decide_true, decide_false, wipeR]; exact k_ret (by simp only [ok_V0, ok_Vs, ok_K, ok_B, ok_U, ok_nil, ok_cons, ok_N, ok_aN, ok_call, ok_nl, ok_fl, ok_afl, ok_T, ok_qNot, ok_qAnd, ok_qOr, ok_and, ok_or, ok_not, ok_if, ok_Sl, ok_oNo, ok_oOf, ok_Ch, ok_it, ok_itA, ok_yes, v_addI, v_sub, v_neg, v_eqI, v_eqS, v_eqB, v_eq0, v_eqT0, v_neI, v_neS, v_neB, v_ne0, v_neT0, v_ltI, v_leI, v_gtI, v_geI, v_is, v_isNot, v_nn, v_ns, v_ni, v_nl, v_nt, v_tb, v_tl, v_tt, v_tn, v_ti, v_asB, v_asI, v_asL, v_asT, v_asS, v_lenL, v_lenT, v_tupL, v_tupT, v_listL, v_listT, v_intB, v_tup0, v_tup1, v_tup2, v_tup3, v_tup4, v_tup5, v_lst0, v_lst1, v_lst2, v_lst3, v_lst4, v_lst5, v_ok0, v_ok1, v_ok2, v_ix0L, v_ix0, v_ix1, v_ix2, v_ix3, v_fs, v_fi, v_fb, v_fn, v_ft, v_f0, v_fc, startR, List.map_cons, List.map_nil, List.length_cons, List.length_nil, List.replicate, List.cons_append, List.nil_append, List.set_cons_zero, List.set_cons_succ, Option.some.injEq, exists_eq_left', Nat.reduceAdd, Nat.reduceSub, Nat.sub_zero, Nat.sub_self, Nat.zero_add, Nat.reduceEqDiff, Bool.not_true, Bool.not_false, if_true, if_false, Bool.and_self, Bool.true_and, Bool.and_true, Bool.false_eq_true, ↓reduceIte, true_and, and_true, decide_true, decide_false, wipeR]; rfl)
end
end Lw01
set_option Elab.async false
set_option linter.all false
set_option maxRecDepth 100000
set_option maxHeartbeats 1000000
namespace Lw01
open PySem PySem.Spec L2 Dl Mx Ds
/-! ### rising rows -/
theorem ltS_trans {a b c : Str} (h : ltS a b = true) (g : ltS b c = true) : ltS a c = true := by
  unfold ltS at *
  exact decide_eq_true (List.lt_trans (of_decide_eq_true h) (of_decide_eq_true g))
theorem ltS_le {a b : Str} (h : ltS a b = true) : leS a b = true := by
  unfold ltS at h
  unfold leS
  have := List.lt_asymm (of_decide_eq_true h)
  simp [this]
theorem ltS_ne {a b : Str} (h : ltS a b = true) : a ≠ b := fun e => by
  subst e
  exact List.lt_irrefl _ (of_decide_eq_true h)
theorem lt_of_le {a b : Str} (h : leS a b = true) (n : a ≠ b) : ltS a b = true := by
  cases e : ltS a b with
  | true => rfl
  | false =>
    have : leS b a = true := by
      unfold leS
      unfold ltS at e
      rw [e]
      rfl
    exact absurd (leS_anti h this) n
theorem ris_pw : ∀ {xs : List Str}, risS xs = true ↔ xs.Pairwise fun a b => ltS a b = true
  | [] => by simp [risS]
  | [a] => by simp [risS]
  | a :: b :: r => by
    have ih := ris_pw (xs := b :: r)
    unfold risS
    rw [Bool.and_eq_true, ih, List.pairwise_cons (a := a) (l := b :: r)]
    constructor
    · rintro ⟨h1, h2⟩
      refine ⟨fun x hx => ?_, h2⟩
      rcases List.mem_cons.mp hx with rfl | hx
      · exact h1
      · exact ltS_trans h1 ((List.pairwise_cons.mp h2).1 x hx)
    · rintro ⟨h1, h2⟩
      exact ⟨h1 b List.mem_cons_self, h2⟩
theorem pw_le_lt {xs : List Str} (h : xs.Pairwise fun a b => leS a b = true) (nd : xs.Nodup) : xs.Pairwise fun a b => ltS a b = true := by
  induction xs with
  | nil => exact List.Pairwise.nil
  | cons a xs ih =>
    obtain ⟨h1, h2⟩ := List.pairwise_cons.mp h
    obtain ⟨n1, n2⟩ := List.nodup_cons.mp nd
    exact List.pairwise_cons.mpr ⟨fun b hb => lt_of_le (h1 b hb) fun e => n1 (e ▸ hb), ih h2 n2⟩
theorem pw_nd {xs : List Str} (h : xs.Pairwise fun a b => ltS a b = true) : xs.Nodup := h.imp fun h => ltS_ne h
theorem ris_sort {xs : List Str} (nd : xs.Nodup) : risS (sortS xs) = true := ris_pw.mpr (pw_le_lt (sortS_pw xs) ((sortS_perm xs).nodup_iff.mpr nd))
theorem ris_set (xs : List Str) : decide (xs = sortS (gath xs)) = risS xs := by
  rw [Bool.eq_iff_iff, decide_eq_true_eq]
  constructor
  · intro e
    rw [e]
    exact ris_sort (gath_nd xs)
  · intro h
    have hp := ris_pw.mp h
    have hg : xs.Perm (gath xs) := perm_nd xs (gath xs) (pw_nd hp) (gath_nd xs) fun x => gath_mem.symm
    exact pw_unique (le := leS) (fun a b => leS_anti) (hg.trans (sortS_perm _).symm) (hp.imp fun h => ltS_le h) (sortS_pw _)
/-! ### what the law looks at -/
section
variable {S : Type} {s : S}
theorem keep_none (l : List Nat) (b : Str) : ((l.map sgD).filter (sgC fun c => !decide (c ∈ b.cps.toList))).isEmpty = inAll l b := by
  unfold inAll
  induction l with
  | nil => rfl
  | cons c l ih =>
    rw [List.map_cons, List.all_cons]
    by_cases h : c ∈ b.cps.toList
    · rw [List.filter_cons_of_neg (by rw [sgC_sg]; simp [h]), decide_eq_true h, Bool.true_and]
      exact ih
    · rw [List.filter_cons_of_pos (by rw [sgC_sg]; simp [h]), decide_eq_false h]
      rfl
theorem all_in_eq {a b : Str} (h : a.length ≤ 1000) : K_w_all_in [.str a, .str b] s = some (.bool (inAll a.cps.toList b), s) := by
  apply ok_eq
  unfold K_w_all_in B_w_all_in
  refine k_fn (k_ret ?_)
  have hl : lcF (iOf asS (cVar 0)) (gNm 2) (qT (cB pNotIn (cVar 2) (cVar 1))) (cVar 2) [2] (startR 3 [.str a, .str b]) s = some (((a.cps.toList.map sgD).filter (sgC fun c => !decide (c ∈ b.cps.toList))).map fun d => d, s) := by
    refine k_keep _ _ ?_ rfl fun d hd => ?_
    · rw [List.length_map, Array.length_toList]
      exact szL (Nat.le_trans h (by decide))
    · obtain ⟨c, _, rfl⟩ := List.mem_map.mp hd
      exact ⟨_, rfl, rfl, fun _ => rfl⟩
  rw [List.map_id'] at hl
  have hl : lcF (iOf asS (cVar 0)) (gNm 2) (qT (cB pNotIn (cVar 2) (cVar 1))) (cVar 2) [2] [some (.str a), some (.str b), none] s = _ := hl
  simp only [ok_V0, ok_Vs, ok_K, ok_B, ok_U, ok_nil, ok_cons, ok_N, ok_aN, ok_call, ok_nl, ok_fl, ok_afl, ok_T, ok_qNot, ok_qAnd, ok_qOr, ok_and, ok_or, ok_not, ok_if, ok_Sl, ok_oNo, ok_oOf, ok_Ch, ok_it, ok_itA, ok_yes, v_addI, v_sub, v_neg, v_eqI, v_eqS, v_eqB, v_eq0, v_eqT0, v_neI, v_neS, v_neB, v_ne0, v_neT0, v_ltI, v_leI, v_gtI, v_geI, v_is, v_isNot, v_nn, v_ns, v_ni, v_nl, v_nt, v_tb, v_tl, v_tt, v_tn, v_ti, v_asB, v_asI, v_asL, v_asT, v_asS, v_lenL, v_lenT, v_tupL, v_tupT, v_listL, v_listT, v_intB, v_tup0, v_tup1, v_tup2, v_tup3, v_tup4, v_tup5, v_lst0, v_lst1, v_lst2, v_lst3, v_lst4, v_lst5, v_ok0, v_ok1, v_ok2, v_ix0L, v_ix0, v_ix1, v_ix2, v_ix3, v_fs, v_fi, v_fb, v_fn, v_ft, v_f0, v_fc, startR, List.map_cons, List.map_nil, List.length_cons, List.length_nil, List.replicate, List.cons_append, List.nil_append, List.set_cons_zero, List.set_cons_succ, Option.some.injEq, exists_eq_left', Nat.reduceAdd, Nat.reduceSub, Nat.sub_zero, Nat.sub_self, Nat.zero_add, Nat.reduceEqDiff, Bool.not_true, Bool.not_false, if_true, if_false, Bool.and_self, Bool.true_and, Bool.and_true, Bool.false_eq_true, ↓reduceIte, true_and, and_true, decide_true, decide_false, wipeR, hl, ok_some, keep_none]
def ownS : Str := Str.ofString "absurd all an and any are as at be by false if is least many more no not only" ++ Str.ofString " or same some than the then" ++ Str.ofString " there every either unless"
theorem own_split : Txt.split ownS (Str.ofString " ") = barW := by decide +kernel
theorem nameL_cons (c : Nat) (r : List Nat) : nameL (c :: r) = (decide (c ∈ (Str.ofString "ABCDEFGHIJKLMNOPQRSTUVWXYZ").cps.toList) && (decide (r.length ≤ 7) && inAll r "abcdefghijklmnopqrstuvwxyz")) := rfl
theorem isword_eq {d : D} {g : Bool} (h : Dec d) : K_w_is_word K_w_all_in [d, .bool g] s = some (.bool (if g = true then nameB d else kindB d), s) := by
  apply ok_eq
  unfold K_w_is_word B_w_is_word
  refine k_fn (k_seq (k_set ?_))
  simp only [ok_V0, ok_Vs, ok_K, ok_B, ok_U, ok_nil, ok_cons, ok_N, ok_aN, ok_call, ok_nl, ok_fl, ok_afl, ok_T, ok_qNot, ok_qAnd, ok_qOr, ok_and, ok_or, ok_not, ok_if, ok_Sl, ok_oNo, ok_oOf, ok_Ch, ok_it, ok_itA, ok_yes, v_addI, v_sub, v_neg, v_eqI, v_eqS, v_eqB, v_eq0, v_eqT0, v_neI, v_neS, v_neB, v_ne0, v_neT0, v_ltI, v_leI, v_gtI, v_geI, v_is, v_isNot, v_nn, v_ns, v_ni, v_nl, v_nt, v_tb, v_tl, v_tt, v_tn, v_ti, v_asB, v_asI, v_asL, v_asT, v_asS, v_lenL, v_lenT, v_tupL, v_tupT, v_listL, v_listT, v_intB, v_tup0, v_tup1, v_tup2, v_tup3, v_tup4, v_tup5, v_lst0, v_lst1, v_lst2, v_lst3, v_lst4, v_lst5, v_ok0, v_ok1, v_ok2, v_ix0L, v_ix0, v_ix1, v_ix2, v_ix3, v_fs, v_fi, v_fb, v_fn, v_ft, v_f0, v_fc, startR, List.map_cons, List.map_nil, List.length_cons, List.length_nil, List.replicate, List.cons_append, List.nil_append, List.set_cons_zero, List.set_cons_succ, Option.some.injEq, exists_eq_left', Nat.reduceAdd, Nat.reduceSub, Nat.sub_zero, Nat.sub_self, Nat.zero_add, Nat.reduceEqDiff, Bool.not_true, Bool.not_false, if_true, if_false, Bool.and_self, Bool.true_and, Bool.and_true, Bool.false_eq_true, ↓reduceIte, true_and, and_true, decide_true, decide_false, wipeR]
  refine k_seq (k_set ?_)
  simp only [ok_V0, ok_Vs, ok_K, ok_B, ok_U, ok_nil, ok_cons, ok_N, ok_aN, ok_call, ok_nl, ok_fl, ok_afl, ok_T, ok_qNot, ok_qAnd, ok_qOr, ok_and, ok_or, ok_not, ok_if, ok_Sl, ok_oNo, ok_oOf, ok_Ch, ok_it, ok_itA, ok_yes, v_addI, v_sub, v_neg, v_eqI, v_eqS, v_eqB, v_eq0, v_eqT0, v_neI, v_neS, v_neB, v_ne0, v_neT0, v_ltI, v_leI, v_gtI, v_geI, v_is, v_isNot, v_nn, v_ns, v_ni, v_nl, v_nt, v_tb, v_tl, v_tt, v_tn, v_ti, v_asB, v_asI, v_asL, v_asT, v_asS, v_lenL, v_lenT, v_tupL, v_tupT, v_listL, v_listT, v_intB, v_tup0, v_tup1, v_tup2, v_tup3, v_tup4, v_tup5, v_lst0, v_lst1, v_lst2, v_lst3, v_lst4, v_lst5, v_ok0, v_ok1, v_ok2, v_ix0L, v_ix0, v_ix1, v_ix2, v_ix3, v_fs, v_fi, v_fb, v_fn, v_ft, v_f0, v_fc, startR, List.map_cons, List.map_nil, List.length_cons, List.length_nil, List.replicate, List.cons_append, List.nil_append, List.set_cons_zero, List.set_cons_succ, Option.some.injEq, exists_eq_left', Nat.reduceAdd, Nat.reduceSub, Nat.sub_zero, Nat.sub_self, Nat.zero_add, Nat.reduceEqDiff, Bool.not_true, Bool.not_false, if_true, if_false, Bool.and_self, Bool.true_and, Bool.and_true, Bool.false_eq_true, ↓reduceIte, true_and, and_true, decide_true, decide_false, wipeR, v_addS (show (Str.ofString "absurd all an and any are as at be by false if is least many more no not only").length + (Str.ofString " or same some than the then").length ≤ sizeLine by decide)]
  have hd : (Str.ofString "absurd all an and any are as at be by false if is least many more no not only" ++ Str.ofString " or same some than the then") ++ Str.ofString " there every either unless" = ownS := rfl
  have hln : (Str.ofString "absurd all an and any are as at be by false if is least many more no not only" ++ Str.ofString " or same some than the then").length + (Str.ofString " there every either unless").length ≤ sizeLine := by decide +kernel
  have hl2 : ownS.length + 2 ≤ sizeLine := by decide +kernel
  generalize (Str.ofString "absurd all an and any are as at be by false if is least many more no not only" ++ Str.ofString " or same some than the then") = own at hd hln ⊢
  refine k_seq (k_set ?_)
  simp only [ok_V0, ok_Vs, ok_K, ok_B, ok_U, ok_nil, ok_cons, ok_N, ok_aN, ok_call, ok_nl, ok_fl, ok_afl, ok_T, ok_qNot, ok_qAnd, ok_qOr, ok_and, ok_or, ok_not, ok_if, ok_Sl, ok_oNo, ok_oOf, ok_Ch, ok_it, ok_itA, ok_yes, v_addI, v_sub, v_neg, v_eqI, v_eqS, v_eqB, v_eq0, v_eqT0, v_neI, v_neS, v_neB, v_ne0, v_neT0, v_ltI, v_leI, v_gtI, v_geI, v_is, v_isNot, v_nn, v_ns, v_ni, v_nl, v_nt, v_tb, v_tl, v_tt, v_tn, v_ti, v_asB, v_asI, v_asL, v_asT, v_asS, v_lenL, v_lenT, v_tupL, v_tupT, v_listL, v_listT, v_intB, v_tup0, v_tup1, v_tup2, v_tup3, v_tup4, v_tup5, v_lst0, v_lst1, v_lst2, v_lst3, v_lst4, v_lst5, v_ok0, v_ok1, v_ok2, v_ix0L, v_ix0, v_ix1, v_ix2, v_ix3, v_fs, v_fi, v_fb, v_fn, v_ft, v_f0, v_fc, startR, List.map_cons, List.map_nil, List.length_cons, List.length_nil, List.replicate, List.cons_append, List.nil_append, List.set_cons_zero, List.set_cons_succ, Option.some.injEq, exists_eq_left', Nat.reduceAdd, Nat.reduceSub, Nat.sub_zero, Nat.sub_self, Nat.zero_add, Nat.reduceEqDiff, Bool.not_true, Bool.not_false, if_true, if_false, Bool.and_self, Bool.true_and, Bool.and_true, Bool.false_eq_true, ↓reduceIte, true_and, and_true, decide_true, decide_false, wipeR]
  refine k_seq (k_sIf ?_)
  simp only [ok_V0, ok_Vs, ok_K, ok_B, ok_U, ok_nil, ok_cons, ok_N, ok_aN, ok_call, ok_nl, ok_fl, ok_afl, ok_T, ok_qNot, ok_qAnd, ok_qOr, ok_and, ok_or, ok_not, ok_if, ok_Sl, ok_oNo, ok_oOf, ok_Ch, ok_it, ok_itA, ok_yes, v_addI, v_sub, v_neg, v_eqI, v_eqS, v_eqB, v_eq0, v_eqT0, v_neI, v_neS, v_neB, v_ne0, v_neT0, v_ltI, v_leI, v_gtI, v_geI, v_is, v_isNot, v_nn, v_ns, v_ni, v_nl, v_nt, v_tb, v_tl, v_tt, v_tn, v_ti, v_asB, v_asI, v_asL, v_asT, v_asS, v_lenL, v_lenT, v_tupL, v_tupT, v_listL, v_listT, v_intB, v_tup0, v_tup1, v_tup2, v_tup3, v_tup4, v_tup5, v_lst0, v_lst1, v_lst2, v_lst3, v_lst4, v_lst5, v_ok0, v_ok1, v_ok2, v_ix0L, v_ix0, v_ix1, v_ix2, v_ix3, v_fs, v_fi, v_fb, v_fn, v_ft, v_f0, v_fc, startR, List.map_cons, List.map_nil, List.length_cons, List.length_nil, List.replicate, List.cons_append, List.nil_append, List.set_cons_zero, List.set_cons_succ, Option.some.injEq, exists_eq_left', Nat.reduceAdd, Nat.reduceSub, Nat.sub_zero, Nat.sub_self, Nat.zero_add, Nat.reduceEqDiff, Bool.not_true, Bool.not_false, if_true, if_false, Bool.and_self, Bool.true_and, Bool.and_true, Bool.false_eq_true, ↓reduceIte, true_and, and_true, decide_true, decide_false, wipeR, isi_str h]
  cases d with
  | str z =>
    have hl : z.length ≤ 1000 := h
    have hz : z.length ≤ sizeLine := szL (Nat.le_trans hl (by decide))
    have hzl : z.length = z.cps.toList.length := (Array.length_toList).symm
    simp only [ok_V0, ok_Vs, ok_K, ok_B, ok_U, ok_nil, ok_cons, ok_N, ok_aN, ok_call, ok_nl, ok_fl, ok_afl, ok_T, ok_qNot, ok_qAnd, ok_qOr, ok_and, ok_or, ok_not, ok_if, ok_Sl, ok_oNo, ok_oOf, ok_Ch, ok_it, ok_itA, ok_yes, v_addI, v_sub, v_neg, v_eqI, v_eqS, v_eqB, v_eq0, v_eqT0, v_neI, v_neS, v_neB, v_ne0, v_neT0, v_ltI, v_leI, v_gtI, v_geI, v_is, v_isNot, v_nn, v_ns, v_ni, v_nl, v_nt, v_tb, v_tl, v_tt, v_tn, v_ti, v_asB, v_asI, v_asL, v_asT, v_asS, v_lenL, v_lenT, v_tupL, v_tupT, v_listL, v_listT, v_intB, v_tup0, v_tup1, v_tup2, v_tup3, v_tup4, v_tup5, v_lst0, v_lst1, v_lst2, v_lst3, v_lst4, v_lst5, v_ok0, v_ok1, v_ok2, v_ix0L, v_ix0, v_ix1, v_ix2, v_ix3, v_fs, v_fi, v_fb, v_fn, v_ft, v_f0, v_fc, startR, List.map_cons, List.map_nil, List.length_cons, List.length_nil, List.replicate, List.cons_append, List.nil_append, List.set_cons_zero, List.set_cons_succ, Option.some.injEq, exists_eq_left', Nat.reduceAdd, Nat.reduceSub, Nat.sub_zero, Nat.sub_self, Nat.zero_add, Nat.reduceEqDiff, Bool.not_true, Bool.not_false, if_true, if_false, Bool.and_self, Bool.true_and, Bool.and_true, Bool.false_eq_true, ↓reduceIte, true_and, and_true, decide_true, decide_false, wipeR, v_lenS hz]
    by_cases h0 : z = Str.ofString ""
    · subst h0
      simp only [ok_V0, ok_Vs, ok_K, ok_B, ok_U, ok_nil, ok_cons, ok_N, ok_aN, ok_call, ok_nl, ok_fl, ok_afl, ok_T, ok_qNot, ok_qAnd, ok_qOr, ok_and, ok_or, ok_not, ok_if, ok_Sl, ok_oNo, ok_oOf, ok_Ch, ok_it, ok_itA, ok_yes, v_addI, v_sub, v_neg, v_eqI, v_eqS, v_eqB, v_eq0, v_eqT0, v_neI, v_neS, v_neB, v_ne0, v_neT0, v_ltI, v_leI, v_gtI, v_geI, v_is, v_isNot, v_nn, v_ns, v_ni, v_nl, v_nt, v_tb, v_tl, v_tt, v_tn, v_ti, v_asB, v_asI, v_asL, v_asT, v_asS, v_lenL, v_lenT, v_tupL, v_tupT, v_listL, v_listT, v_intB, v_tup0, v_tup1, v_tup2, v_tup3, v_tup4, v_tup5, v_lst0, v_lst1, v_lst2, v_lst3, v_lst4, v_lst5, v_ok0, v_ok1, v_ok2, v_ix0L, v_ix0, v_ix1, v_ix2, v_ix3, v_fs, v_fi, v_fb, v_fn, v_ft, v_f0, v_fc, startR, List.map_cons, List.map_nil, List.length_cons, List.length_nil, List.replicate, List.cons_append, List.nil_append, List.set_cons_zero, List.set_cons_succ, Option.some.injEq, exists_eq_left', Nat.reduceAdd, Nat.reduceSub, Nat.sub_zero, Nat.sub_self, Nat.zero_add, Nat.reduceEqDiff, Bool.not_true, Bool.not_false, if_true, if_false, Bool.and_self, Bool.true_and, Bool.and_true, Bool.false_eq_true, ↓reduceIte, true_and, and_true, decide_true, decide_false, wipeR]
      refine k_ret ?_
      simp only [ok_V0, ok_Vs, ok_K, ok_B, ok_U, ok_nil, ok_cons, ok_N, ok_aN, ok_call, ok_nl, ok_fl, ok_afl, ok_T, ok_qNot, ok_qAnd, ok_qOr, ok_and, ok_or, ok_not, ok_if, ok_Sl, ok_oNo, ok_oOf, ok_Ch, ok_it, ok_itA, ok_yes, v_addI, v_sub, v_neg, v_eqI, v_eqS, v_eqB, v_eq0, v_eqT0, v_neI, v_neS, v_neB, v_ne0, v_neT0, v_ltI, v_leI, v_gtI, v_geI, v_is, v_isNot, v_nn, v_ns, v_ni, v_nl, v_nt, v_tb, v_tl, v_tt, v_tn, v_ti, v_asB, v_asI, v_asL, v_asT, v_asS, v_lenL, v_lenT, v_tupL, v_tupT, v_listL, v_listT, v_intB, v_tup0, v_tup1, v_tup2, v_tup3, v_tup4, v_tup5, v_lst0, v_lst1, v_lst2, v_lst3, v_lst4, v_lst5, v_ok0, v_ok1, v_ok2, v_ix0L, v_ix0, v_ix1, v_ix2, v_ix3, v_fs, v_fi, v_fb, v_fn, v_ft, v_f0, v_fc, startR, List.map_cons, List.map_nil, List.length_cons, List.length_nil, List.replicate, List.cons_append, List.nil_append, List.set_cons_zero, List.set_cons_succ, Option.some.injEq, exists_eq_left', Nat.reduceAdd, Nat.reduceSub, Nat.sub_zero, Nat.sub_self, Nat.zero_add, Nat.reduceEqDiff, Bool.not_true, Bool.not_false, if_true, if_false, Bool.and_self, Bool.true_and, Bool.and_true, Bool.false_eq_true, ↓reduceIte, true_and, and_true, decide_true, decide_false, wipeR]
      cases g <;> rfl
    · rw [decide_eq_false h0]
      simp only [ok_V0, ok_Vs, ok_K, ok_B, ok_U, ok_nil, ok_cons, ok_N, ok_aN, ok_call, ok_nl, ok_fl, ok_afl, ok_T, ok_qNot, ok_qAnd, ok_qOr, ok_and, ok_or, ok_not, ok_if, ok_Sl, ok_oNo, ok_oOf, ok_Ch, ok_it, ok_itA, ok_yes, v_addI, v_sub, v_neg, v_eqI, v_eqS, v_eqB, v_eq0, v_eqT0, v_neI, v_neS, v_neB, v_ne0, v_neT0, v_ltI, v_leI, v_gtI, v_geI, v_is, v_isNot, v_nn, v_ns, v_ni, v_nl, v_nt, v_tb, v_tl, v_tt, v_tn, v_ti, v_asB, v_asI, v_asL, v_asT, v_asS, v_lenL, v_lenT, v_tupL, v_tupT, v_listL, v_listT, v_intB, v_tup0, v_tup1, v_tup2, v_tup3, v_tup4, v_tup5, v_lst0, v_lst1, v_lst2, v_lst3, v_lst4, v_lst5, v_ok0, v_ok1, v_ok2, v_ix0L, v_ix0, v_ix1, v_ix2, v_ix3, v_fs, v_fi, v_fb, v_fn, v_ft, v_f0, v_fc, startR, List.map_cons, List.map_nil, List.length_cons, List.length_nil, List.replicate, List.cons_append, List.nil_append, List.set_cons_zero, List.set_cons_succ, Option.some.injEq, exists_eq_left', Nat.reduceAdd, Nat.reduceSub, Nat.sub_zero, Nat.sub_self, Nat.zero_add, Nat.reduceEqDiff, Bool.not_true, Bool.not_false, if_true, if_false, Bool.and_self, Bool.true_and, Bool.and_true, Bool.false_eq_true, ↓reduceIte, true_and, and_true, decide_true, decide_false, wipeR]
      have hne : z.cps.toList ≠ [] := fun e => h0 (cpl_inj e)
      by_cases h8 : (8 : Int) < (z.length : Int)
      · rw [decide_eq_true h8]
        simp only [ok_V0, ok_Vs, ok_K, ok_B, ok_U, ok_nil, ok_cons, ok_N, ok_aN, ok_call, ok_nl, ok_fl, ok_afl, ok_T, ok_qNot, ok_qAnd, ok_qOr, ok_and, ok_or, ok_not, ok_if, ok_Sl, ok_oNo, ok_oOf, ok_Ch, ok_it, ok_itA, ok_yes, v_addI, v_sub, v_neg, v_eqI, v_eqS, v_eqB, v_eq0, v_eqT0, v_neI, v_neS, v_neB, v_ne0, v_neT0, v_ltI, v_leI, v_gtI, v_geI, v_is, v_isNot, v_nn, v_ns, v_ni, v_nl, v_nt, v_tb, v_tl, v_tt, v_tn, v_ti, v_asB, v_asI, v_asL, v_asT, v_asS, v_lenL, v_lenT, v_tupL, v_tupT, v_listL, v_listT, v_intB, v_tup0, v_tup1, v_tup2, v_tup3, v_tup4, v_tup5, v_lst0, v_lst1, v_lst2, v_lst3, v_lst4, v_lst5, v_ok0, v_ok1, v_ok2, v_ix0L, v_ix0, v_ix1, v_ix2, v_ix3, v_fs, v_fi, v_fb, v_fn, v_ft, v_f0, v_fc, startR, List.map_cons, List.map_nil, List.length_cons, List.length_nil, List.replicate, List.cons_append, List.nil_append, List.set_cons_zero, List.set_cons_succ, Option.some.injEq, exists_eq_left', Nat.reduceAdd, Nat.reduceSub, Nat.sub_zero, Nat.sub_self, Nat.zero_add, Nat.reduceEqDiff, Bool.not_true, Bool.not_false, if_true, if_false, Bool.and_self, Bool.true_and, Bool.and_true, Bool.false_eq_true, ↓reduceIte, true_and, and_true, decide_true, decide_false, wipeR]
        refine k_ret ?_
        simp only [ok_V0, ok_Vs, ok_K, ok_B, ok_U, ok_nil, ok_cons, ok_N, ok_aN, ok_call, ok_nl, ok_fl, ok_afl, ok_T, ok_qNot, ok_qAnd, ok_qOr, ok_and, ok_or, ok_not, ok_if, ok_Sl, ok_oNo, ok_oOf, ok_Ch, ok_it, ok_itA, ok_yes, v_addI, v_sub, v_neg, v_eqI, v_eqS, v_eqB, v_eq0, v_eqT0, v_neI, v_neS, v_neB, v_ne0, v_neT0, v_ltI, v_leI, v_gtI, v_geI, v_is, v_isNot, v_nn, v_ns, v_ni, v_nl, v_nt, v_tb, v_tl, v_tt, v_tn, v_ti, v_asB, v_asI, v_asL, v_asT, v_asS, v_lenL, v_lenT, v_tupL, v_tupT, v_listL, v_listT, v_intB, v_tup0, v_tup1, v_tup2, v_tup3, v_tup4, v_tup5, v_lst0, v_lst1, v_lst2, v_lst3, v_lst4, v_lst5, v_ok0, v_ok1, v_ok2, v_ix0L, v_ix0, v_ix1, v_ix2, v_ix3, v_fs, v_fi, v_fb, v_fn, v_ft, v_f0, v_fc, startR, List.map_cons, List.map_nil, List.length_cons, List.length_nil, List.replicate, List.cons_append, List.nil_append, List.set_cons_zero, List.set_cons_succ, Option.some.injEq, exists_eq_left', Nat.reduceAdd, Nat.reduceSub, Nat.sub_zero, Nat.sub_self, Nat.zero_add, Nat.reduceEqDiff, Bool.not_true, Bool.not_false, if_true, if_false, Bool.and_self, Bool.true_and, Bool.and_true, Bool.false_eq_true, ↓reduceIte, true_and, and_true, decide_true, decide_false, wipeR]
        cases g with
        | false =>
          simp only [ok_V0, ok_Vs, ok_K, ok_B, ok_U, ok_nil, ok_cons, ok_N, ok_aN, ok_call, ok_nl, ok_fl, ok_afl, ok_T, ok_qNot, ok_qAnd, ok_qOr, ok_and, ok_or, ok_not, ok_if, ok_Sl, ok_oNo, ok_oOf, ok_Ch, ok_it, ok_itA, ok_yes, v_addI, v_sub, v_neg, v_eqI, v_eqS, v_eqB, v_eq0, v_eqT0, v_neI, v_neS, v_neB, v_ne0, v_neT0, v_ltI, v_leI, v_gtI, v_geI, v_is, v_isNot, v_nn, v_ns, v_ni, v_nl, v_nt, v_tb, v_tl, v_tt, v_tn, v_ti, v_asB, v_asI, v_asL, v_asT, v_asS, v_lenL, v_lenT, v_tupL, v_tupT, v_listL, v_listT, v_intB, v_tup0, v_tup1, v_tup2, v_tup3, v_tup4, v_tup5, v_lst0, v_lst1, v_lst2, v_lst3, v_lst4, v_lst5, v_ok0, v_ok1, v_ok2, v_ix0L, v_ix0, v_ix1, v_ix2, v_ix3, v_fs, v_fi, v_fb, v_fn, v_ft, v_f0, v_fc, startR, List.map_cons, List.map_nil, List.length_cons, List.length_nil, List.replicate, List.cons_append, List.nil_append, List.set_cons_zero, List.set_cons_succ, Option.some.injEq, exists_eq_left', Nat.reduceAdd, Nat.reduceSub, Nat.sub_zero, Nat.sub_self, Nat.zero_add, Nat.reduceEqDiff, Bool.not_true, Bool.not_false, if_true, if_false, Bool.and_self, Bool.true_and, Bool.and_true, Bool.false_eq_true, ↓reduceIte, true_and, and_true, decide_true, decide_false, wipeR]
          rw [kindB_str, smallB_str, decide_eq_false (show ¬ (z.length : Int) ≤ 8 by omega)]
          simp
        | true =>
          simp only [ok_V0, ok_Vs, ok_K, ok_B, ok_U, ok_nil, ok_cons, ok_N, ok_aN, ok_call, ok_nl, ok_fl, ok_afl, ok_T, ok_qNot, ok_qAnd, ok_qOr, ok_and, ok_or, ok_not, ok_if, ok_Sl, ok_oNo, ok_oOf, ok_Ch, ok_it, ok_itA, ok_yes, v_addI, v_sub, v_neg, v_eqI, v_eqS, v_eqB, v_eq0, v_eqT0, v_neI, v_neS, v_neB, v_ne0, v_neT0, v_ltI, v_leI, v_gtI, v_geI, v_is, v_isNot, v_nn, v_ns, v_ni, v_nl, v_nt, v_tb, v_tl, v_tt, v_tn, v_ti, v_asB, v_asI, v_asL, v_asT, v_asS, v_lenL, v_lenT, v_tupL, v_tupT, v_listL, v_listT, v_intB, v_tup0, v_tup1, v_tup2, v_tup3, v_tup4, v_tup5, v_lst0, v_lst1, v_lst2, v_lst3, v_lst4, v_lst5, v_ok0, v_ok1, v_ok2, v_ix0L, v_ix0, v_ix1, v_ix2, v_ix3, v_fs, v_fi, v_fb, v_fn, v_ft, v_f0, v_fc, startR, List.map_cons, List.map_nil, List.length_cons, List.length_nil, List.replicate, List.cons_append, List.nil_append, List.set_cons_zero, List.set_cons_succ, Option.some.injEq, exists_eq_left', Nat.reduceAdd, Nat.reduceSub, Nat.sub_zero, Nat.sub_self, Nat.zero_add, Nat.reduceEqDiff, Bool.not_true, Bool.not_false, if_true, if_false, Bool.and_self, Bool.true_and, Bool.and_true, Bool.false_eq_true, ↓reduceIte, true_and, and_true, decide_true, decide_false, wipeR]
          rw [nameB_str]
          cases e : z.cps.toList with
          | nil => exact absurd e hne
          | cons c r =>
            rw [e, List.length_cons] at hzl
            rw [nameL_cons]
            rw [decide_eq_false (show ¬ r.length ≤ 7 by omega)]
            simp
      · rw [decide_eq_false h8]
        simp only [ok_V0, ok_Vs, ok_K, ok_B, ok_U, ok_nil, ok_cons, ok_N, ok_aN, ok_call, ok_nl, ok_fl, ok_afl, ok_T, ok_qNot, ok_qAnd, ok_qOr, ok_and, ok_or, ok_not, ok_if, ok_Sl, ok_oNo, ok_oOf, ok_Ch, ok_it, ok_itA, ok_yes, v_addI, v_sub, v_neg, v_eqI, v_eqS, v_eqB, v_eq0, v_eqT0, v_neI, v_neS, v_neB, v_ne0, v_neT0, v_ltI, v_leI, v_gtI, v_geI, v_is, v_isNot, v_nn, v_ns, v_ni, v_nl, v_nt, v_tb, v_tl, v_tt, v_tn, v_ti, v_asB, v_asI, v_asL, v_asT, v_asS, v_lenL, v_lenT, v_tupL, v_tupT, v_listL, v_listT, v_intB, v_tup0, v_tup1, v_tup2, v_tup3, v_tup4, v_tup5, v_lst0, v_lst1, v_lst2, v_lst3, v_lst4, v_lst5, v_ok0, v_ok1, v_ok2, v_ix0L, v_ix0, v_ix1, v_ix2, v_ix3, v_fs, v_fi, v_fb, v_fn, v_ft, v_f0, v_fc, startR, List.map_cons, List.map_nil, List.length_cons, List.length_nil, List.replicate, List.cons_append, List.nil_append, List.set_cons_zero, List.set_cons_succ, Option.some.injEq, exists_eq_left', Nat.reduceAdd, Nat.reduceSub, Nat.sub_zero, Nat.sub_self, Nat.zero_add, Nat.reduceEqDiff, Bool.not_true, Bool.not_false, if_true, if_false, Bool.and_self, Bool.true_and, Bool.and_true, Bool.false_eq_true, ↓reduceIte, true_and, and_true, decide_true, decide_false, wipeR]
        refine k_nx (k_seq (k_sIf ?_))
        simp only [ok_V0, ok_Vs, ok_K, ok_B, ok_U, ok_nil, ok_cons, ok_N, ok_aN, ok_call, ok_nl, ok_fl, ok_afl, ok_T, ok_qNot, ok_qAnd, ok_qOr, ok_and, ok_or, ok_not, ok_if, ok_Sl, ok_oNo, ok_oOf, ok_Ch, ok_it, ok_itA, ok_yes, v_addI, v_sub, v_neg, v_eqI, v_eqS, v_eqB, v_eq0, v_eqT0, v_neI, v_neS, v_neB, v_ne0, v_neT0, v_ltI, v_leI, v_gtI, v_geI, v_is, v_isNot, v_nn, v_ns, v_ni, v_nl, v_nt, v_tb, v_tl, v_tt, v_tn, v_ti, v_asB, v_asI, v_asL, v_asT, v_asS, v_lenL, v_lenT, v_tupL, v_tupT, v_listL, v_listT, v_intB, v_tup0, v_tup1, v_tup2, v_tup3, v_tup4, v_tup5, v_lst0, v_lst1, v_lst2, v_lst3, v_lst4, v_lst5, v_ok0, v_ok1, v_ok2, v_ix0L, v_ix0, v_ix1, v_ix2, v_ix3, v_fs, v_fi, v_fb, v_fn, v_ft, v_f0, v_fc, startR, List.map_cons, List.map_nil, List.length_cons, List.length_nil, List.replicate, List.cons_append, List.nil_append, List.set_cons_zero, List.set_cons_succ, Option.some.injEq, exists_eq_left', Nat.reduceAdd, Nat.reduceSub, Nat.sub_zero, Nat.sub_self, Nat.zero_add, Nat.reduceEqDiff, Bool.not_true, Bool.not_false, if_true, if_false, Bool.and_self, Bool.true_and, Bool.and_true, Bool.false_eq_true, ↓reduceIte, true_and, and_true, decide_true, decide_false, wipeR]
        cases g with
        | true =>
          simp only [ok_V0, ok_Vs, ok_K, ok_B, ok_U, ok_nil, ok_cons, ok_N, ok_aN, ok_call, ok_nl, ok_fl, ok_afl, ok_T, ok_qNot, ok_qAnd, ok_qOr, ok_and, ok_or, ok_not, ok_if, ok_Sl, ok_oNo, ok_oOf, ok_Ch, ok_it, ok_itA, ok_yes, v_addI, v_sub, v_neg, v_eqI, v_eqS, v_eqB, v_eq0, v_eqT0, v_neI, v_neS, v_neB, v_ne0, v_neT0, v_ltI, v_leI, v_gtI, v_geI, v_is, v_isNot, v_nn, v_ns, v_ni, v_nl, v_nt, v_tb, v_tl, v_tt, v_tn, v_ti, v_asB, v_asI, v_asL, v_asT, v_asS, v_lenL, v_lenT, v_tupL, v_tupT, v_listL, v_listT, v_intB, v_tup0, v_tup1, v_tup2, v_tup3, v_tup4, v_tup5, v_lst0, v_lst1, v_lst2, v_lst3, v_lst4, v_lst5, v_ok0, v_ok1, v_ok2, v_ix0L, v_ix0, v_ix1, v_ix2, v_ix3, v_fs, v_fi, v_fb, v_fn, v_ft, v_f0, v_fc, startR, List.map_cons, List.map_nil, List.length_cons, List.length_nil, List.replicate, List.cons_append, List.nil_append, List.set_cons_zero, List.set_cons_succ, Option.some.injEq, exists_eq_left', Nat.reduceAdd, Nat.reduceSub, Nat.sub_zero, Nat.sub_self, Nat.zero_add, Nat.reduceEqDiff, Bool.not_true, Bool.not_false, if_true, if_false, Bool.and_self, Bool.true_and, Bool.and_true, Bool.false_eq_true, ↓reduceIte, true_and, and_true, decide_true, decide_false, wipeR]
          refine k_ret ?_
          cases e : z.cps.toList with
          | nil => exact absurd e hne
          | cons c r =>
            rw [e, List.length_cons] at hzl
            have hix : pIx (.str z) (.int 0) = some (.str ⟨#[c]⟩) := by
              simp only [pIx]
              rw [if_pos hz, e, show atI (c :: r) 0 = some c from atI_nat (j := 0) rfl]
              rfl
            have hc := cut1 e
            have hcl : (cutS z (some 1) none).length ≤ 1000 := by
              show (cutS z (some 1) none).cps.size ≤ _
              rw [← Array.length_toList, hc]
              omega
            simp only [ok_V0, ok_Vs, ok_K, ok_B, ok_U, ok_nil, ok_cons, ok_N, ok_aN, ok_call, ok_nl, ok_fl, ok_afl, ok_T, ok_qNot, ok_qAnd, ok_qOr, ok_and, ok_or, ok_not, ok_if, ok_Sl, ok_oNo, ok_oOf, ok_Ch, ok_it, ok_itA, ok_yes, v_addI, v_sub, v_neg, v_eqI, v_eqS, v_eqB, v_eq0, v_eqT0, v_neI, v_neS, v_neB, v_ne0, v_neT0, v_ltI, v_leI, v_gtI, v_geI, v_is, v_isNot, v_nn, v_ns, v_ni, v_nl, v_nt, v_tb, v_tl, v_tt, v_tn, v_ti, v_asB, v_asI, v_asL, v_asT, v_asS, v_lenL, v_lenT, v_tupL, v_tupT, v_listL, v_listT, v_intB, v_tup0, v_tup1, v_tup2, v_tup3, v_tup4, v_tup5, v_lst0, v_lst1, v_lst2, v_lst3, v_lst4, v_lst5, v_ok0, v_ok1, v_ok2, v_ix0L, v_ix0, v_ix1, v_ix2, v_ix3, v_fs, v_fi, v_fb, v_fn, v_ft, v_f0, v_fc, startR, List.map_cons, List.map_nil, List.length_cons, List.length_nil, List.replicate, List.cons_append, List.nil_append, List.set_cons_zero, List.set_cons_succ, Option.some.injEq, exists_eq_left', Nat.reduceAdd, Nat.reduceSub, Nat.sub_zero, Nat.sub_self, Nat.zero_add, Nat.reduceEqDiff, Bool.not_true, Bool.not_false, if_true, if_false, Bool.and_self, Bool.true_and, Bool.and_true, Bool.false_eq_true, ↓reduceIte, true_and, and_true, decide_true, decide_false, wipeR, hix, in_sign, v_slS hz, all_in_eq hcl, ok_some]
            rw [nameB_str, e, hc]
            rw [nameL_cons]
            rw [decide_eq_true (show r.length ≤ 7 by omega)]
            by_cases h1 : c ∈ (Str.ofString "ABCDEFGHIJKLMNOPQRSTUVWXYZ").cps.toList
            · rw [decide_eq_true h1]
              simp only [ok_V0, ok_Vs, ok_K, ok_B, ok_U, ok_nil, ok_cons, ok_N, ok_aN, ok_call, ok_nl, ok_fl, ok_afl, ok_T, ok_qNot, ok_qAnd, ok_qOr, ok_and, ok_or, ok_not, ok_if, ok_Sl, ok_oNo, ok_oOf, ok_Ch, ok_it, ok_itA, ok_yes, v_addI, v_sub, v_neg, v_eqI, v_eqS, v_eqB, v_eq0, v_eqT0, v_neI, v_neS, v_neB, v_ne0, v_neT0, v_ltI, v_leI, v_gtI, v_geI, v_is, v_isNot, v_nn, v_ns, v_ni, v_nl, v_nt, v_tb, v_tl, v_tt, v_tn, v_ti, v_asB, v_asI, v_asL, v_asT, v_asS, v_lenL, v_lenT, v_tupL, v_tupT, v_listL, v_listT, v_intB, v_tup0, v_tup1, v_tup2, v_tup3, v_tup4, v_tup5, v_lst0, v_lst1, v_lst2, v_lst3, v_lst4, v_lst5, v_ok0, v_ok1, v_ok2, v_ix0L, v_ix0, v_ix1, v_ix2, v_ix3, v_fs, v_fi, v_fb, v_fn, v_ft, v_f0, v_fc, startR, List.map_cons, List.map_nil, List.length_cons, List.length_nil, List.replicate, List.cons_append, List.nil_append, List.set_cons_zero, List.set_cons_succ, Option.some.injEq, exists_eq_left', Nat.reduceAdd, Nat.reduceSub, Nat.sub_zero, Nat.sub_self, Nat.zero_add, Nat.reduceEqDiff, Bool.not_true, Bool.not_false, if_true, if_false, Bool.and_self, Bool.true_and, Bool.and_true, Bool.false_eq_true, ↓reduceIte, true_and, and_true, decide_true, decide_false, wipeR]
            · rw [decide_eq_false h1]
              simp only [ok_V0, ok_Vs, ok_K, ok_B, ok_U, ok_nil, ok_cons, ok_N, ok_aN, ok_call, ok_nl, ok_fl, ok_afl, ok_T, ok_qNot, ok_qAnd, ok_qOr, ok_and, ok_or, ok_not, ok_if, ok_Sl, ok_oNo, ok_oOf, ok_Ch, ok_it, ok_itA, ok_yes, v_addI, v_sub, v_neg, v_eqI, v_eqS, v_eqB, v_eq0, v_eqT0, v_neI, v_neS, v_neB, v_ne0, v_neT0, v_ltI, v_leI, v_gtI, v_geI, v_is, v_isNot, v_nn, v_ns, v_ni, v_nl, v_nt, v_tb, v_tl, v_tt, v_tn, v_ti, v_asB, v_asI, v_asL, v_asT, v_asS, v_lenL, v_lenT, v_tupL, v_tupT, v_listL, v_listT, v_intB, v_tup0, v_tup1, v_tup2, v_tup3, v_tup4, v_tup5, v_lst0, v_lst1, v_lst2, v_lst3, v_lst4, v_lst5, v_ok0, v_ok1, v_ok2, v_ix0L, v_ix0, v_ix1, v_ix2, v_ix3, v_fs, v_fi, v_fb, v_fn, v_ft, v_f0, v_fc, startR, List.map_cons, List.map_nil, List.length_cons, List.length_nil, List.replicate, List.cons_append, List.nil_append, List.set_cons_zero, List.set_cons_succ, Option.some.injEq, exists_eq_left', Nat.reduceAdd, Nat.reduceSub, Nat.sub_zero, Nat.sub_self, Nat.zero_add, Nat.reduceEqDiff, Bool.not_true, Bool.not_false, if_true, if_false, Bool.and_self, Bool.true_and, Bool.and_true, Bool.false_eq_true, ↓reduceIte, true_and, and_true, decide_true, decide_false, wipeR, Bool.false_and]
        | false =>
          simp only [ok_V0, ok_Vs, ok_K, ok_B, ok_U, ok_nil, ok_cons, ok_N, ok_aN, ok_call, ok_nl, ok_fl, ok_afl, ok_T, ok_qNot, ok_qAnd, ok_qOr, ok_and, ok_or, ok_not, ok_if, ok_Sl, ok_oNo, ok_oOf, ok_Ch, ok_it, ok_itA, ok_yes, v_addI, v_sub, v_neg, v_eqI, v_eqS, v_eqB, v_eq0, v_eqT0, v_neI, v_neS, v_neB, v_ne0, v_neT0, v_ltI, v_leI, v_gtI, v_geI, v_is, v_isNot, v_nn, v_ns, v_ni, v_nl, v_nt, v_tb, v_tl, v_tt, v_tn, v_ti, v_asB, v_asI, v_asL, v_asT, v_asS, v_lenL, v_lenT, v_tupL, v_tupT, v_listL, v_listT, v_intB, v_tup0, v_tup1, v_tup2, v_tup3, v_tup4, v_tup5, v_lst0, v_lst1, v_lst2, v_lst3, v_lst4, v_lst5, v_ok0, v_ok1, v_ok2, v_ix0L, v_ix0, v_ix1, v_ix2, v_ix3, v_fs, v_fi, v_fb, v_fn, v_ft, v_f0, v_fc, startR, List.map_cons, List.map_nil, List.length_cons, List.length_nil, List.replicate, List.cons_append, List.nil_append, List.set_cons_zero, List.set_cons_succ, Option.some.injEq, exists_eq_left', Nat.reduceAdd, Nat.reduceSub, Nat.sub_zero, Nat.sub_self, Nat.zero_add, Nat.reduceEqDiff, Bool.not_true, Bool.not_false, if_true, if_false, Bool.and_self, Bool.true_and, Bool.and_true, Bool.false_eq_true, ↓reduceIte, true_and, and_true, decide_true, decide_false, wipeR]
          refine k_nx (k_seq (k_set ?_))
          have hs : aSplit (cB pAdd (cVar 2) (cK (.str " there every either unless"))) (cK (.str " ")) [some (.str z), some (.bool false), some (.str own), some (.str "abcdefghijklmnopqrstuvwxyz")] s = some (barW.map PyData.str, s) := by
            unfold aSplit
            have e1 : cB pAdd (cVar 2) (cK (.str " there every either unless")) [some (.str z), some (.bool false), some (.str own), some (.str "abcdefghijklmnopqrstuvwxyz")] s = some (.str ownS, s) := by
              apply ok_eq
              simp only [ok_V0, ok_Vs, ok_K, ok_B, ok_U, ok_nil, ok_cons, ok_N, ok_aN, ok_call, ok_nl, ok_fl, ok_afl, ok_T, ok_qNot, ok_qAnd, ok_qOr, ok_and, ok_or, ok_not, ok_if, ok_Sl, ok_oNo, ok_oOf, ok_Ch, ok_it, ok_itA, ok_yes, v_addI, v_sub, v_neg, v_eqI, v_eqS, v_eqB, v_eq0, v_eqT0, v_neI, v_neS, v_neB, v_ne0, v_neT0, v_ltI, v_leI, v_gtI, v_geI, v_is, v_isNot, v_nn, v_ns, v_ni, v_nl, v_nt, v_tb, v_tl, v_tt, v_tn, v_ti, v_asB, v_asI, v_asL, v_asT, v_asS, v_lenL, v_lenT, v_tupL, v_tupT, v_listL, v_listT, v_intB, v_tup0, v_tup1, v_tup2, v_tup3, v_tup4, v_tup5, v_lst0, v_lst1, v_lst2, v_lst3, v_lst4, v_lst5, v_ok0, v_ok1, v_ok2, v_ix0L, v_ix0, v_ix1, v_ix2, v_ix3, v_fs, v_fi, v_fb, v_fn, v_ft, v_f0, v_fc, startR, List.map_cons, List.map_nil, List.length_cons, List.length_nil, List.replicate, List.cons_append, List.nil_append, List.set_cons_zero, List.set_cons_succ, Option.some.injEq, exists_eq_left', Nat.reduceAdd, Nat.reduceSub, Nat.sub_zero, Nat.sub_self, Nat.zero_add, Nat.reduceEqDiff, Bool.not_true, Bool.not_false, if_true, if_false, Bool.and_self, Bool.true_and, Bool.and_true, Bool.false_eq_true, ↓reduceIte, true_and, and_true, decide_true, decide_false, wipeR, v_addS hln]
              rw [hd]
            rw [e1]
            show (if ((Str.ofString " ").length == 0) = false ∧ ownS.length + 2 ≤ sizeLine then some ((Txt.split ownS (Str.ofString " ")).map PyData.str, s) else none) = _
            rw [if_pos ⟨rfl, hl2⟩, own_split]
          simp only [ok_V0, ok_Vs, ok_K, ok_B, ok_U, ok_nil, ok_cons, ok_N, ok_aN, ok_call, ok_nl, ok_fl, ok_afl, ok_T, ok_qNot, ok_qAnd, ok_qOr, ok_and, ok_or, ok_not, ok_if, ok_Sl, ok_oNo, ok_oOf, ok_Ch, ok_it, ok_itA, ok_yes, v_addI, v_sub, v_neg, v_eqI, v_eqS, v_eqB, v_eq0, v_eqT0, v_neI, v_neS, v_neB, v_ne0, v_neT0, v_ltI, v_leI, v_gtI, v_geI, v_is, v_isNot, v_nn, v_ns, v_ni, v_nl, v_nt, v_tb, v_tl, v_tt, v_tn, v_ti, v_asB, v_asI, v_asL, v_asT, v_asS, v_lenL, v_lenT, v_tupL, v_tupT, v_listL, v_listT, v_intB, v_tup0, v_tup1, v_tup2, v_tup3, v_tup4, v_tup5, v_lst0, v_lst1, v_lst2, v_lst3, v_lst4, v_lst5, v_ok0, v_ok1, v_ok2, v_ix0L, v_ix0, v_ix1, v_ix2, v_ix3, v_fs, v_fi, v_fb, v_fn, v_ft, v_f0, v_fc, startR, List.map_cons, List.map_nil, List.length_cons, List.length_nil, List.replicate, List.cons_append, List.nil_append, List.set_cons_zero, List.set_cons_succ, Option.some.injEq, exists_eq_left', Nat.reduceAdd, Nat.reduceSub, Nat.sub_zero, Nat.sub_self, Nat.zero_add, Nat.reduceEqDiff, Bool.not_true, Bool.not_false, if_true, if_false, Bool.and_self, Bool.true_and, Bool.and_true, Bool.false_eq_true, ↓reduceIte, true_and, and_true, decide_true, decide_false, wipeR, hs, ok_some]
          refine k_ret ?_
          simp only [ok_V0, ok_Vs, ok_K, ok_B, ok_U, ok_nil, ok_cons, ok_N, ok_aN, ok_call, ok_nl, ok_fl, ok_afl, ok_T, ok_qNot, ok_qAnd, ok_qOr, ok_and, ok_or, ok_not, ok_if, ok_Sl, ok_oNo, ok_oOf, ok_Ch, ok_it, ok_itA, ok_yes, v_addI, v_sub, v_neg, v_eqI, v_eqS, v_eqB, v_eq0, v_eqT0, v_neI, v_neS, v_neB, v_ne0, v_neT0, v_ltI, v_leI, v_gtI, v_geI, v_is, v_isNot, v_nn, v_ns, v_ni, v_nl, v_nt, v_tb, v_tl, v_tt, v_tn, v_ti, v_asB, v_asI, v_asL, v_asT, v_asS, v_lenL, v_lenT, v_tupL, v_tupT, v_listL, v_listT, v_intB, v_tup0, v_tup1, v_tup2, v_tup3, v_tup4, v_tup5, v_lst0, v_lst1, v_lst2, v_lst3, v_lst4, v_lst5, v_ok0, v_ok1, v_ok2, v_ix0L, v_ix0, v_ix1, v_ix2, v_ix3, v_fs, v_fi, v_fb, v_fn, v_ft, v_f0, v_fc, startR, List.map_cons, List.map_nil, List.length_cons, List.length_nil, List.replicate, List.cons_append, List.nil_append, List.set_cons_zero, List.set_cons_succ, Option.some.injEq, exists_eq_left', Nat.reduceAdd, Nat.reduceSub, Nat.sub_zero, Nat.sub_self, Nat.zero_add, Nat.reduceEqDiff, Bool.not_true, Bool.not_false, if_true, if_false, Bool.and_self, Bool.true_and, Bool.and_true, Bool.false_eq_true, ↓reduceIte, true_and, and_true, decide_true, decide_false, wipeR, v_lenS hz, all_in_eq hl, ok_some, notIn_strsL]
          rw [kindB_str, smallB_str, decide_eq_true (show (z.length : Int) ≤ 8 by omega)]
          by_cases h2 : (1 : Int) < (z.length : Int)
          · rw [decide_eq_true h2, decide_eq_true (show (2 : Int) ≤ (z.length : Int) by omega)]
            simp only [ok_V0, ok_Vs, ok_K, ok_B, ok_U, ok_nil, ok_cons, ok_N, ok_aN, ok_call, ok_nl, ok_fl, ok_afl, ok_T, ok_qNot, ok_qAnd, ok_qOr, ok_and, ok_or, ok_not, ok_if, ok_Sl, ok_oNo, ok_oOf, ok_Ch, ok_it, ok_itA, ok_yes, v_addI, v_sub, v_neg, v_eqI, v_eqS, v_eqB, v_eq0, v_eqT0, v_neI, v_neS, v_neB, v_ne0, v_neT0, v_ltI, v_leI, v_gtI, v_geI, v_is, v_isNot, v_nn, v_ns, v_ni, v_nl, v_nt, v_tb, v_tl, v_tt, v_tn, v_ti, v_asB, v_asI, v_asL, v_asT, v_asS, v_lenL, v_lenT, v_tupL, v_tupT, v_listL, v_listT, v_intB, v_tup0, v_tup1, v_tup2, v_tup3, v_tup4, v_tup5, v_lst0, v_lst1, v_lst2, v_lst3, v_lst4, v_lst5, v_ok0, v_ok1, v_ok2, v_ix0L, v_ix0, v_ix1, v_ix2, v_ix3, v_fs, v_fi, v_fb, v_fn, v_ft, v_f0, v_fc, startR, List.map_cons, List.map_nil, List.length_cons, List.length_nil, List.replicate, List.cons_append, List.nil_append, List.set_cons_zero, List.set_cons_succ, Option.some.injEq, exists_eq_left', Nat.reduceAdd, Nat.reduceSub, Nat.sub_zero, Nat.sub_self, Nat.zero_add, Nat.reduceEqDiff, Bool.not_true, Bool.not_false, if_true, if_false, Bool.and_self, Bool.true_and, Bool.and_true, Bool.false_eq_true, ↓reduceIte, true_and, and_true, decide_true, decide_false, wipeR]
            cases inAll z.cps.toList "abcdefghijklmnopqrstuvwxyz" with
            | true => simp only [ok_V0, ok_Vs, ok_K, ok_B, ok_U, ok_nil, ok_cons, ok_N, ok_aN, ok_call, ok_nl, ok_fl, ok_afl, ok_T, ok_qNot, ok_qAnd, ok_qOr, ok_and, ok_or, ok_not, ok_if, ok_Sl, ok_oNo, ok_oOf, ok_Ch, ok_it, ok_itA, ok_yes, v_addI, v_sub, v_neg, v_eqI, v_eqS, v_eqB, v_eq0, v_eqT0, v_neI, v_neS, v_neB, v_ne0, v_neT0, v_ltI, v_leI, v_gtI, v_geI, v_is, v_isNot, v_nn, v_ns, v_ni, v_nl, v_nt, v_tb, v_tl, v_tt, v_tn, v_ti, v_asB, v_asI, v_asL, v_asT, v_asS, v_lenL, v_lenT, v_tupL, v_tupT, v_listL, v_listT, v_intB, v_tup0, v_tup1, v_tup2, v_tup3, v_tup4, v_tup5, v_lst0, v_lst1, v_lst2, v_lst3, v_lst4, v_lst5, v_ok0, v_ok1, v_ok2, v_ix0L, v_ix0, v_ix1, v_ix2, v_ix3, v_fs, v_fi, v_fb, v_fn, v_ft, v_f0, v_fc, startR, List.map_cons, List.map_nil, List.length_cons, List.length_nil, List.replicate, List.cons_append, List.nil_append, List.set_cons_zero, List.set_cons_succ, Option.some.injEq, exists_eq_left', Nat.reduceAdd, Nat.reduceSub, Nat.sub_zero, Nat.sub_self, Nat.zero_add, Nat.reduceEqDiff, Bool.not_true, Bool.not_false, if_true, if_false, Bool.and_self, Bool.true_and, Bool.and_true, Bool.false_eq_true, ↓reduceIte, true_and, and_true, decide_true, decide_false, wipeR]
            | false => simp only [ok_V0, ok_Vs, ok_K, ok_B, ok_U, ok_nil, ok_cons, ok_N, ok_aN, ok_call, ok_nl, ok_fl, ok_afl, ok_T, ok_qNot, ok_qAnd, ok_qOr, ok_and, ok_or, ok_not, ok_if, ok_Sl, ok_oNo, ok_oOf, ok_Ch, ok_it, ok_itA, ok_yes, v_addI, v_sub, v_neg, v_eqI, v_eqS, v_eqB, v_eq0, v_eqT0, v_neI, v_neS, v_neB, v_ne0, v_neT0, v_ltI, v_leI, v_gtI, v_geI, v_is, v_isNot, v_nn, v_ns, v_ni, v_nl, v_nt, v_tb, v_tl, v_tt, v_tn, v_ti, v_asB, v_asI, v_asL, v_asT, v_asS, v_lenL, v_lenT, v_tupL, v_tupT, v_listL, v_listT, v_intB, v_tup0, v_tup1, v_tup2, v_tup3, v_tup4, v_tup5, v_lst0, v_lst1, v_lst2, v_lst3, v_lst4, v_lst5, v_ok0, v_ok1, v_ok2, v_ix0L, v_ix0, v_ix1, v_ix2, v_ix3, v_fs, v_fi, v_fb, v_fn, v_ft, v_f0, v_fc, startR, List.map_cons, List.map_nil, List.length_cons, List.length_nil, List.replicate, List.cons_append, List.nil_append, List.set_cons_zero, List.set_cons_succ, Option.some.injEq, exists_eq_left', Nat.reduceAdd, Nat.reduceSub, Nat.sub_zero, Nat.sub_self, Nat.zero_add, Nat.reduceEqDiff, Bool.not_true, Bool.not_false, if_true, if_false, Bool.and_self, Bool.true_and, Bool.and_true, Bool.false_eq_true, ↓reduceIte, true_and, and_true, decide_true, decide_false, wipeR, Bool.false_and]
          · rw [decide_eq_false h2, decide_eq_false (show ¬ (2 : Int) ≤ (z.length : Int) by omega)]
            simp only [ok_V0, ok_Vs, ok_K, ok_B, ok_U, ok_nil, ok_cons, ok_N, ok_aN, ok_call, ok_nl, ok_fl, ok_afl, ok_T, ok_qNot, ok_qAnd, ok_qOr, ok_and, ok_or, ok_not, ok_if, ok_Sl, ok_oNo, ok_oOf, ok_Ch, ok_it, ok_itA, ok_yes, v_addI, v_sub, v_neg, v_eqI, v_eqS, v_eqB, v_eq0, v_eqT0, v_neI, v_neS, v_neB, v_ne0, v_neT0, v_ltI, v_leI, v_gtI, v_geI, v_is, v_isNot, v_nn, v_ns, v_ni, v_nl, v_nt, v_tb, v_tl, v_tt, v_tn, v_ti, v_asB, v_asI, v_asL, v_asT, v_asS, v_lenL, v_lenT, v_tupL, v_tupT, v_listL, v_listT, v_intB, v_tup0, v_tup1, v_tup2, v_tup3, v_tup4, v_tup5, v_lst0, v_lst1, v_lst2, v_lst3, v_lst4, v_lst5, v_ok0, v_ok1, v_ok2, v_ix0L, v_ix0, v_ix1, v_ix2, v_ix3, v_fs, v_fi, v_fb, v_fn, v_ft, v_f0, v_fc, startR, List.map_cons, List.map_nil, List.length_cons, List.length_nil, List.replicate, List.cons_append, List.nil_append, List.set_cons_zero, List.set_cons_succ, Option.some.injEq, exists_eq_left', Nat.reduceAdd, Nat.reduceSub, Nat.sub_zero, Nat.sub_self, Nat.zero_add, Nat.reduceEqDiff, Bool.not_true, Bool.not_false, if_true, if_false, Bool.and_self, Bool.true_and, Bool.and_true, Bool.false_eq_true, ↓reduceIte, true_and, and_true, decide_true, decide_false, wipeR, Bool.false_and]
  | _ =>
    simp only [ok_V0, ok_Vs, ok_K, ok_B, ok_U, ok_nil, ok_cons, ok_N, ok_aN, ok_call, ok_nl, ok_fl, ok_afl, ok_T, ok_qNot, ok_qAnd, ok_qOr, ok_and, ok_or, ok_not, ok_if, ok_Sl, ok_oNo, ok_oOf, ok_Ch, ok_it, ok_itA, ok_yes, v_addI, v_sub, v_neg, v_eqI, v_eqS, v_eqB, v_eq0, v_eqT0, v_neI, v_neS, v_neB, v_ne0, v_neT0, v_ltI, v_leI, v_gtI, v_geI, v_is, v_isNot, v_nn, v_ns, v_ni, v_nl, v_nt, v_tb, v_tl, v_tt, v_tn, v_ti, v_asB, v_asI, v_asL, v_asT, v_asS, v_lenL, v_lenT, v_tupL, v_tupT, v_listL, v_listT, v_intB, v_tup0, v_tup1, v_tup2, v_tup3, v_tup4, v_tup5, v_lst0, v_lst1, v_lst2, v_lst3, v_lst4, v_lst5, v_ok0, v_ok1, v_ok2, v_ix0L, v_ix0, v_ix1, v_ix2, v_ix3, v_fs, v_fi, v_fb, v_fn, v_ft, v_f0, v_fc, startR, List.map_cons, List.map_nil, List.length_cons, List.length_nil, List.replicate, List.cons_append, List.nil_append, List.set_cons_zero, List.set_cons_succ, Option.some.injEq, exists_eq_left', Nat.reduceAdd, Nat.reduceSub, Nat.sub_zero, Nat.sub_self, Nat.zero_add, Nat.reduceEqDiff, Bool.not_true, Bool.not_false, if_true, if_false, Bool.and_self, Bool.true_and, Bool.and_true, Bool.false_eq_true, ↓reduceIte, true_and, and_true, decide_true, decide_false, wipeR]
    refine k_ret ?_
    simp only [ok_V0, ok_Vs, ok_K, ok_B, ok_U, ok_nil, ok_cons, ok_N, ok_aN, ok_call, ok_nl, ok_fl, ok_afl, ok_T, ok_qNot, ok_qAnd, ok_qOr, ok_and, ok_or, ok_not, ok_if, ok_Sl, ok_oNo, ok_oOf, ok_Ch, ok_it, ok_itA, ok_yes, v_addI, v_sub, v_neg, v_eqI, v_eqS, v_eqB, v_eq0, v_eqT0, v_neI, v_neS, v_neB, v_ne0, v_neT0, v_ltI, v_leI, v_gtI, v_geI, v_is, v_isNot, v_nn, v_ns, v_ni, v_nl, v_nt, v_tb, v_tl, v_tt, v_tn, v_ti, v_asB, v_asI, v_asL, v_asT, v_asS, v_lenL, v_lenT, v_tupL, v_tupT, v_listL, v_listT, v_intB, v_tup0, v_tup1, v_tup2, v_tup3, v_tup4, v_tup5, v_lst0, v_lst1, v_lst2, v_lst3, v_lst4, v_lst5, v_ok0, v_ok1, v_ok2, v_ix0L, v_ix0, v_ix1, v_ix2, v_ix3, v_fs, v_fi, v_fb, v_fn, v_ft, v_f0, v_fc, startR, List.map_cons, List.map_nil, List.length_cons, List.length_nil, List.replicate, List.cons_append, List.nil_append, List.set_cons_zero, List.set_cons_succ, Option.some.injEq, exists_eq_left', Nat.reduceAdd, Nat.reduceSub, Nat.sub_zero, Nat.sub_self, Nat.zero_add, Nat.reduceEqDiff, Bool.not_true, Bool.not_false, if_true, if_false, Bool.and_self, Bool.true_and, Bool.and_true, Bool.false_eq_true, ↓reduceIte, true_and, and_true, decide_true, decide_false, wipeR]
    cases g <;> rfl
/-! the law's own looking -/
def grB (i : Int) : D → Bool := if decide (i = 0) = true then nameB else kindB
theorem gr_str {i : Int} {d : D} (h : grB i d = true) : d = .str (txt d) := by
  unfold grB at h
  split at h
  · exact name_str h
  · exact kind_str h
theorem cp_ok {c : Nat} {b : Str} (hb : PyData.strOk b = true) (h : c ∈ b.cps.toList) : c < 0x110000 := by
  unfold PyData.strOk at hb
  rw [← Array.all_toList, List.all_eq_true] at hb
  exact of_decide_eq_true (hb c h)
theorem in_ok {l : List Nat} {b : Str} (hb : PyData.strOk b = true) (h : inAll l b = true) : ∀ c ∈ l, c < 0x110000 := fun c hc => cp_ok hb (of_decide_eq_true (List.all_eq_true.mp h c hc))
theorem name_ok {d : D} (h : nameB d = true) : PyData.strOk (txt d) = true := by
  rw [name_str h, nameB_str] at h
  unfold PyData.strOk
  rw [← Array.all_toList, List.all_eq_true]
  intro c hc
  cases e : (txt d).cps.toList with
  | nil => rw [e] at hc; cases hc
  | cons x r =>
    rw [e] at h hc
    rw [nameL_cons, Bool.and_eq_true, Bool.and_eq_true] at h
    rcases List.mem_cons.mp hc with rfl | hc
    · exact decide_eq_true (cp_ok (by decide +kernel) (of_decide_eq_true h.1))
    · exact decide_eq_true (in_ok (by decide +kernel) h.2.2 c hc)
theorem kind_ok {d : D} (h : kindB d = true) : PyData.strOk (txt d) = true := by
  rw [kind_str h, kindB_str, Bool.and_eq_true, smallB_str, Bool.and_eq_true, Bool.and_eq_true] at h
  unfold PyData.strOk
  rw [← Array.all_toList, List.all_eq_true]
  intro c hc
  exact decide_eq_true (in_ok (by decide +kernel) h.1.2.2 c hc)
theorem gr_ok {i : Int} {d : D} (h : grB i d = true) : PyData.strOk (txt d) = true := by
  unfold grB at h
  split at h
  · exact name_ok h
  · exact kind_ok h
theorem filter_none {α : Type} (p : α → Bool) (l : List α) : (l.filter fun x => !p x).isEmpty = l.all p := by
  induction l with
  | nil => rfl
  | cons a l ih =>
    rw [List.all_cons]
    cases h : p a with
    | true => rw [List.filter_cons_of_neg (by simp [h]), Bool.true_and]; exact ih
    | false => rw [List.filter_cons_of_pos (by simp [h])]; rfl
/-- one row of the law's loop -/
def isBody (F : Fn S) : Sv S :=
    (sSeq (sIf (qOr (qNot (qT (cU (pIsi "tuple") (cVar 2)))) (qT (cB pNe (cNl (lcF (iOf asT (cVar 2)) (gNm 3) (qNot (qT (cCall 2 F (aCons (cVar 3) (aCons (cB pEq (cVar 1) (cK (.int 0))) aNil))))) (cVar 3) [3])) (cN pLst aNil))))
      (sRet (cK (.bool false)))
      sNx)
      (sIf (qT (cB pNe (cNl (aN pList (aCons (cVar 2) aNil))) (cNl (aSortX (xSet (cVar 2))))))
      (sRet (cK (.bool false)))
      sNx))
theorem body_eq {t r : D} {o : Option D} {i : Int} (h : DecL r) (hl : ∀ es, r = .tuple es → es.length ≤ 1000) :
    isBody (K_w_is_word K_w_all_in) [some t, some (.int i), some r, o] s = some (if rowB (grB i) r = true then .nx [some t, some (.int i), some r, o] else .rt (.bool false), s) := by
  have key : Ok (isBody (K_w_is_word K_w_all_in) [some t, some (.int i), some r, o] s) fun x s' => x = (if rowB (grB i) r = true then .nx [some t, some (.int i), some r, o] else .rt (.bool false)) ∧ s' = s := by
    unfold isBody
    refine k_seq (k_sIf ?_)
    simp only [ok_V0, ok_Vs, ok_K, ok_B, ok_U, ok_nil, ok_cons, ok_N, ok_aN, ok_call, ok_nl, ok_fl, ok_afl, ok_T, ok_qNot, ok_qAnd, ok_qOr, ok_and, ok_or, ok_not, ok_if, ok_Sl, ok_oNo, ok_oOf, ok_Ch, ok_it, ok_itA, ok_yes, v_addI, v_sub, v_neg, v_eqI, v_eqS, v_eqB, v_eq0, v_eqT0, v_neI, v_neS, v_neB, v_ne0, v_neT0, v_ltI, v_leI, v_gtI, v_geI, v_is, v_isNot, v_nn, v_ns, v_ni, v_nl, v_nt, v_tb, v_tl, v_tt, v_tn, v_ti, v_asB, v_asI, v_asL, v_asT, v_asS, v_lenL, v_lenT, v_tupL, v_tupT, v_listL, v_listT, v_intB, v_tup0, v_tup1, v_tup2, v_tup3, v_tup4, v_tup5, v_lst0, v_lst1, v_lst2, v_lst3, v_lst4, v_lst5, v_ok0, v_ok1, v_ok2, v_ix0L, v_ix0, v_ix1, v_ix2, v_ix3, v_fs, v_fi, v_fb, v_fn, v_ft, v_f0, v_fc, startR, List.map_cons, List.map_nil, List.length_cons, List.length_nil, List.replicate, List.cons_append, List.nil_append, List.set_cons_zero, List.set_cons_succ, Option.some.injEq, exists_eq_left', Nat.reduceAdd, Nat.reduceSub, Nat.sub_zero, Nat.sub_self, Nat.zero_add, Nat.reduceEqDiff, Bool.not_true, Bool.not_false, if_true, if_false, Bool.and_self, Bool.true_and, Bool.and_true, Bool.false_eq_true, ↓reduceIte, true_and, and_true, decide_true, decide_false, wipeR, isi_tup h.1]
    cases r with
    | tuple ds =>
      have hd := hl ds rfl
      have hk : lcF (iOf asT (cVar 2)) (gNm 3) (qNot (qT (cCall 2 (K_w_is_word K_w_all_in) (aCons (cVar 3) (aCons (cB pEq (cVar 1) (cK (.int 0))) aNil))))) (cVar 3) [3] [some t, some (.int i), some (.tuple ds), o] s = some ((ds.filter fun d => !grB i d).map fun d => d, s) := by
        refine k_keep _ _ (szL (Nat.le_trans hd (by decide))) rfl fun d hx => ⟨_, rfl, ?_, fun _ => rfl⟩
        apply ok_eqB
        simp only [gNm, ok_V0, ok_Vs, ok_K, ok_B, ok_U, ok_nil, ok_cons, ok_N, ok_aN, ok_call, ok_nl, ok_fl, ok_afl, ok_T, ok_qNot, ok_qAnd, ok_qOr, ok_and, ok_or, ok_not, ok_if, ok_Sl, ok_oNo, ok_oOf, ok_Ch, ok_it, ok_itA, ok_yes, v_addI, v_sub, v_neg, v_eqI, v_eqS, v_eqB, v_eq0, v_eqT0, v_neI, v_neS, v_neB, v_ne0, v_neT0, v_ltI, v_leI, v_gtI, v_geI, v_is, v_isNot, v_nn, v_ns, v_ni, v_nl, v_nt, v_tb, v_tl, v_tt, v_tn, v_ti, v_asB, v_asI, v_asL, v_asT, v_asS, v_lenL, v_lenT, v_tupL, v_tupT, v_listL, v_listT, v_intB, v_tup0, v_tup1, v_tup2, v_tup3, v_tup4, v_tup5, v_lst0, v_lst1, v_lst2, v_lst3, v_lst4, v_lst5, v_ok0, v_ok1, v_ok2, v_ix0L, v_ix0, v_ix1, v_ix2, v_ix3, v_fs, v_fi, v_fb, v_fn, v_ft, v_f0, v_fc, startR, List.map_cons, List.map_nil, List.length_cons, List.length_nil, List.replicate, List.cons_append, List.nil_append, List.set_cons_zero, List.set_cons_succ, Option.some.injEq, exists_eq_left', Nat.reduceAdd, Nat.reduceSub, Nat.sub_zero, Nat.sub_self, Nat.zero_add, Nat.reduceEqDiff, Bool.not_true, Bool.not_false, if_true, if_false, Bool.and_self, Bool.true_and, Bool.and_true, Bool.false_eq_true, ↓reduceIte, true_and, and_true, decide_true, decide_false, wipeR, isword_eq (h.2 ds rfl d hx), ok_some]
        unfold grB
        by_cases hi : i = 0
        · simp [hi]
        · simp [hi]
      rw [List.map_id'] at hk
      simp only [ok_V0, ok_Vs, ok_K, ok_B, ok_U, ok_nil, ok_cons, ok_N, ok_aN, ok_call, ok_nl, ok_fl, ok_afl, ok_T, ok_qNot, ok_qAnd, ok_qOr, ok_and, ok_or, ok_not, ok_if, ok_Sl, ok_oNo, ok_oOf, ok_Ch, ok_it, ok_itA, ok_yes, v_addI, v_sub, v_neg, v_eqI, v_eqS, v_eqB, v_eq0, v_eqT0, v_neI, v_neS, v_neB, v_ne0, v_neT0, v_ltI, v_leI, v_gtI, v_geI, v_is, v_isNot, v_nn, v_ns, v_ni, v_nl, v_nt, v_tb, v_tl, v_tt, v_tn, v_ti, v_asB, v_asI, v_asL, v_asT, v_asS, v_lenL, v_lenT, v_tupL, v_tupT, v_listL, v_listT, v_intB, v_tup0, v_tup1, v_tup2, v_tup3, v_tup4, v_tup5, v_lst0, v_lst1, v_lst2, v_lst3, v_lst4, v_lst5, v_ok0, v_ok1, v_ok2, v_ix0L, v_ix0, v_ix1, v_ix2, v_ix3, v_fs, v_fi, v_fb, v_fn, v_ft, v_f0, v_fc, startR, List.map_cons, List.map_nil, List.length_cons, List.length_nil, List.replicate, List.cons_append, List.nil_append, List.set_cons_zero, List.set_cons_succ, Option.some.injEq, exists_eq_left', Nat.reduceAdd, Nat.reduceSub, Nat.sub_zero, Nat.sub_self, Nat.zero_add, Nat.reduceEqDiff, Bool.not_true, Bool.not_false, if_true, if_false, Bool.and_self, Bool.true_and, Bool.and_true, Bool.false_eq_true, ↓reduceIte, true_and, and_true, decide_true, decide_false, wipeR, hk, ok_some, filter_none]
      cases e : ds.all (grB i) with
      | false =>
        have hr : rowB (grB i) (.tuple ds) = false := by
          show (ds.all (grB i) && risS (ds.map txt)) = false
          rw [e]
          rfl
        simp only [ok_V0, ok_Vs, ok_K, ok_B, ok_U, ok_nil, ok_cons, ok_N, ok_aN, ok_call, ok_nl, ok_fl, ok_afl, ok_T, ok_qNot, ok_qAnd, ok_qOr, ok_and, ok_or, ok_not, ok_if, ok_Sl, ok_oNo, ok_oOf, ok_Ch, ok_it, ok_itA, ok_yes, v_addI, v_sub, v_neg, v_eqI, v_eqS, v_eqB, v_eq0, v_eqT0, v_neI, v_neS, v_neB, v_ne0, v_neT0, v_ltI, v_leI, v_gtI, v_geI, v_is, v_isNot, v_nn, v_ns, v_ni, v_nl, v_nt, v_tb, v_tl, v_tt, v_tn, v_ti, v_asB, v_asI, v_asL, v_asT, v_asS, v_lenL, v_lenT, v_tupL, v_tupT, v_listL, v_listT, v_intB, v_tup0, v_tup1, v_tup2, v_tup3, v_tup4, v_tup5, v_lst0, v_lst1, v_lst2, v_lst3, v_lst4, v_lst5, v_ok0, v_ok1, v_ok2, v_ix0L, v_ix0, v_ix1, v_ix2, v_ix3, v_fs, v_fi, v_fb, v_fn, v_ft, v_f0, v_fc, startR, List.map_cons, List.map_nil, List.length_cons, List.length_nil, List.replicate, List.cons_append, List.nil_append, List.set_cons_zero, List.set_cons_succ, Option.some.injEq, exists_eq_left', Nat.reduceAdd, Nat.reduceSub, Nat.sub_zero, Nat.sub_self, Nat.zero_add, Nat.reduceEqDiff, Bool.not_true, Bool.not_false, if_true, if_false, Bool.and_self, Bool.true_and, Bool.and_true, Bool.false_eq_true, ↓reduceIte, true_and, and_true, decide_true, decide_false, wipeR]
        refine k_ret ?_
        simp only [ok_V0, ok_Vs, ok_K, ok_B, ok_U, ok_nil, ok_cons, ok_N, ok_aN, ok_call, ok_nl, ok_fl, ok_afl, ok_T, ok_qNot, ok_qAnd, ok_qOr, ok_and, ok_or, ok_not, ok_if, ok_Sl, ok_oNo, ok_oOf, ok_Ch, ok_it, ok_itA, ok_yes, v_addI, v_sub, v_neg, v_eqI, v_eqS, v_eqB, v_eq0, v_eqT0, v_neI, v_neS, v_neB, v_ne0, v_neT0, v_ltI, v_leI, v_gtI, v_geI, v_is, v_isNot, v_nn, v_ns, v_ni, v_nl, v_nt, v_tb, v_tl, v_tt, v_tn, v_ti, v_asB, v_asI, v_asL, v_asT, v_asS, v_lenL, v_lenT, v_tupL, v_tupT, v_listL, v_listT, v_intB, v_tup0, v_tup1, v_tup2, v_tup3, v_tup4, v_tup5, v_lst0, v_lst1, v_lst2, v_lst3, v_lst4, v_lst5, v_ok0, v_ok1, v_ok2, v_ix0L, v_ix0, v_ix1, v_ix2, v_ix3, v_fs, v_fi, v_fb, v_fn, v_ft, v_f0, v_fc, startR, List.map_cons, List.map_nil, List.length_cons, List.length_nil, List.replicate, List.cons_append, List.nil_append, List.set_cons_zero, List.set_cons_succ, Option.some.injEq, exists_eq_left', Nat.reduceAdd, Nat.reduceSub, Nat.sub_zero, Nat.sub_self, Nat.zero_add, Nat.reduceEqDiff, Bool.not_true, Bool.not_false, if_true, if_false, Bool.and_self, Bool.true_and, Bool.and_true, Bool.false_eq_true, ↓reduceIte, true_and, and_true, decide_true, decide_false, wipeR, hr]
      | true =>
        have hr : rowB (grB i) (.tuple ds) = risS (ds.map txt) := by
          show (ds.all (grB i) && risS (ds.map txt)) = _
          rw [e]
          rfl
        simp only [ok_V0, ok_Vs, ok_K, ok_B, ok_U, ok_nil, ok_cons, ok_N, ok_aN, ok_call, ok_nl, ok_fl, ok_afl, ok_T, ok_qNot, ok_qAnd, ok_qOr, ok_and, ok_or, ok_not, ok_if, ok_Sl, ok_oNo, ok_oOf, ok_Ch, ok_it, ok_itA, ok_yes, v_addI, v_sub, v_neg, v_eqI, v_eqS, v_eqB, v_eq0, v_eqT0, v_neI, v_neS, v_neB, v_ne0, v_neT0, v_ltI, v_leI, v_gtI, v_geI, v_is, v_isNot, v_nn, v_ns, v_ni, v_nl, v_nt, v_tb, v_tl, v_tt, v_tn, v_ti, v_asB, v_asI, v_asL, v_asT, v_asS, v_lenL, v_lenT, v_tupL, v_tupT, v_listL, v_listT, v_intB, v_tup0, v_tup1, v_tup2, v_tup3, v_tup4, v_tup5, v_lst0, v_lst1, v_lst2, v_lst3, v_lst4, v_lst5, v_ok0, v_ok1, v_ok2, v_ix0L, v_ix0, v_ix1, v_ix2, v_ix3, v_fs, v_fi, v_fb, v_fn, v_ft, v_f0, v_fc, startR, List.map_cons, List.map_nil, List.length_cons, List.length_nil, List.replicate, List.cons_append, List.nil_append, List.set_cons_zero, List.set_cons_succ, Option.some.injEq, exists_eq_left', Nat.reduceAdd, Nat.reduceSub, Nat.sub_zero, Nat.sub_self, Nat.zero_add, Nat.reduceEqDiff, Bool.not_true, Bool.not_false, if_true, if_false, Bool.and_self, Bool.true_and, Bool.and_true, Bool.false_eq_true, ↓reduceIte, true_and, and_true, decide_true, decide_false, wipeR, hr]
        refine k_nx (k_sIf ?_)
        have sd := strs_of (fun d => gr_str) e
        have hok : ∀ n ∈ ds.map txt, PyData.strOk n = true := fun n hn => by
          obtain ⟨d, hd, rfl⟩ := List.mem_map.mp hn
          exact gr_ok (List.all_eq_true.mp e d hd)
        have x1 : asStrs (.tuple ds) = some (ds.map txt) := by
          unfold asStrs
          simp only
          rw [sd, dStrs_map]
          simp only [List.length_map]
          rw [if_pos hd, ← sd]
        have hs : aSortX (xSet (cVar 2)) [some t, some (.int i), some (.tuple ds), o] s = some ((sortS (gath (ds.map txt))).map PyData.str, s) := by
          unfold aSortX xSet
          simp only [cVar, List.getElem?_cons_succ, List.getElem?_cons_zero, bnd_of, x1, Option.map_some, put_of]
        have hne : pNe (.list ds) (.list ((sortS (gath (ds.map txt))).map PyData.str)) = some (.bool (!risS (ds.map txt))) := by
          have := ne_strs (a := ds.map txt) (b := sortS (gath (ds.map txt))) hok (fun n hn => hok n (gath_mem.mp ((sortS_perm _).mem_iff.mp hn)))
          rw [← sd, ris_set] at this
          exact this
        simp only [ok_V0, ok_Vs, ok_K, ok_B, ok_U, ok_nil, ok_cons, ok_N, ok_aN, ok_call, ok_nl, ok_fl, ok_afl, ok_T, ok_qNot, ok_qAnd, ok_qOr, ok_and, ok_or, ok_not, ok_if, ok_Sl, ok_oNo, ok_oOf, ok_Ch, ok_it, ok_itA, ok_yes, v_addI, v_sub, v_neg, v_eqI, v_eqS, v_eqB, v_eq0, v_eqT0, v_neI, v_neS, v_neB, v_ne0, v_neT0, v_ltI, v_leI, v_gtI, v_geI, v_is, v_isNot, v_nn, v_ns, v_ni, v_nl, v_nt, v_tb, v_tl, v_tt, v_tn, v_ti, v_asB, v_asI, v_asL, v_asT, v_asS, v_lenL, v_lenT, v_tupL, v_tupT, v_listL, v_listT, v_intB, v_tup0, v_tup1, v_tup2, v_tup3, v_tup4, v_tup5, v_lst0, v_lst1, v_lst2, v_lst3, v_lst4, v_lst5, v_ok0, v_ok1, v_ok2, v_ix0L, v_ix0, v_ix1, v_ix2, v_ix3, v_fs, v_fi, v_fb, v_fn, v_ft, v_f0, v_fc, startR, List.map_cons, List.map_nil, List.length_cons, List.length_nil, List.replicate, List.cons_append, List.nil_append, List.set_cons_zero, List.set_cons_succ, Option.some.injEq, exists_eq_left', Nat.reduceAdd, Nat.reduceSub, Nat.sub_zero, Nat.sub_self, Nat.zero_add, Nat.reduceEqDiff, Bool.not_true, Bool.not_false, if_true, if_false, Bool.and_self, Bool.true_and, Bool.and_true, Bool.false_eq_true, ↓reduceIte, true_and, and_true, decide_true, decide_false, wipeR, hs, ok_some, hne]
        cases risS (ds.map txt) with
        | true =>
          simp only [ok_V0, ok_Vs, ok_K, ok_B, ok_U, ok_nil, ok_cons, ok_N, ok_aN, ok_call, ok_nl, ok_fl, ok_afl, ok_T, ok_qNot, ok_qAnd, ok_qOr, ok_and, ok_or, ok_not, ok_if, ok_Sl, ok_oNo, ok_oOf, ok_Ch, ok_it, ok_itA, ok_yes, v_addI, v_sub, v_neg, v_eqI, v_eqS, v_eqB, v_eq0, v_eqT0, v_neI, v_neS, v_neB, v_ne0, v_neT0, v_ltI, v_leI, v_gtI, v_geI, v_is, v_isNot, v_nn, v_ns, v_ni, v_nl, v_nt, v_tb, v_tl, v_tt, v_tn, v_ti, v_asB, v_asI, v_asL, v_asT, v_asS, v_lenL, v_lenT, v_tupL, v_tupT, v_listL, v_listT, v_intB, v_tup0, v_tup1, v_tup2, v_tup3, v_tup4, v_tup5, v_lst0, v_lst1, v_lst2, v_lst3, v_lst4, v_lst5, v_ok0, v_ok1, v_ok2, v_ix0L, v_ix0, v_ix1, v_ix2, v_ix3, v_fs, v_fi, v_fb, v_fn, v_ft, v_f0, v_fc, startR, List.map_cons, List.map_nil, List.length_cons, List.length_nil, List.replicate, List.cons_append, List.nil_append, List.set_cons_zero, List.set_cons_succ, Option.some.injEq, exists_eq_left', Nat.reduceAdd, Nat.reduceSub, Nat.sub_zero, Nat.sub_self, Nat.zero_add, Nat.reduceEqDiff, Bool.not_true, Bool.not_false, if_true, if_false, Bool.and_self, Bool.true_and, Bool.and_true, Bool.false_eq_true, ↓reduceIte, true_and, and_true, decide_true, decide_false, wipeR]
          refine k_nx ?_
          simp only [ok_V0, ok_Vs, ok_K, ok_B, ok_U, ok_nil, ok_cons, ok_N, ok_aN, ok_call, ok_nl, ok_fl, ok_afl, ok_T, ok_qNot, ok_qAnd, ok_qOr, ok_and, ok_or, ok_not, ok_if, ok_Sl, ok_oNo, ok_oOf, ok_Ch, ok_it, ok_itA, ok_yes, v_addI, v_sub, v_neg, v_eqI, v_eqS, v_eqB, v_eq0, v_eqT0, v_neI, v_neS, v_neB, v_ne0, v_neT0, v_ltI, v_leI, v_gtI, v_geI, v_is, v_isNot, v_nn, v_ns, v_ni, v_nl, v_nt, v_tb, v_tl, v_tt, v_tn, v_ti, v_asB, v_asI, v_asL, v_asT, v_asS, v_lenL, v_lenT, v_tupL, v_tupT, v_listL, v_listT, v_intB, v_tup0, v_tup1, v_tup2, v_tup3, v_tup4, v_tup5, v_lst0, v_lst1, v_lst2, v_lst3, v_lst4, v_lst5, v_ok0, v_ok1, v_ok2, v_ix0L, v_ix0, v_ix1, v_ix2, v_ix3, v_fs, v_fi, v_fb, v_fn, v_ft, v_f0, v_fc, startR, List.map_cons, List.map_nil, List.length_cons, List.length_nil, List.replicate, List.cons_append, List.nil_append, List.set_cons_zero, List.set_cons_succ, Option.some.injEq, exists_eq_left', Nat.reduceAdd, Nat.reduceSub, Nat.sub_zero, Nat.sub_self, Nat.zero_add, Nat.reduceEqDiff, Bool.not_true, Bool.not_false, if_true, if_false, Bool.and_self, Bool.true_and, Bool.and_true, Bool.false_eq_true, ↓reduceIte, true_and, and_true, decide_true, decide_false, wipeR]
        | false =>
          simp only [ok_V0, ok_Vs, ok_K, ok_B, ok_U, ok_nil, ok_cons, ok_N, ok_aN, ok_call, ok_nl, ok_fl, ok_afl, ok_T, ok_qNot, ok_qAnd, ok_qOr, ok_and, ok_or, ok_not, ok_if, ok_Sl, ok_oNo, ok_oOf, ok_Ch, ok_it, ok_itA, ok_yes, v_addI, v_sub, v_neg, v_eqI, v_eqS, v_eqB, v_eq0, v_eqT0, v_neI, v_neS, v_neB, v_ne0, v_neT0, v_ltI, v_leI, v_gtI, v_geI, v_is, v_isNot, v_nn, v_ns, v_ni, v_nl, v_nt, v_tb, v_tl, v_tt, v_tn, v_ti, v_asB, v_asI, v_asL, v_asT, v_asS, v_lenL, v_lenT, v_tupL, v_tupT, v_listL, v_listT, v_intB, v_tup0, v_tup1, v_tup2, v_tup3, v_tup4, v_tup5, v_lst0, v_lst1, v_lst2, v_lst3, v_lst4, v_lst5, v_ok0, v_ok1, v_ok2, v_ix0L, v_ix0, v_ix1, v_ix2, v_ix3, v_fs, v_fi, v_fb, v_fn, v_ft, v_f0, v_fc, startR, List.map_cons, List.map_nil, List.length_cons, List.length_nil, List.replicate, List.cons_append, List.nil_append, List.set_cons_zero, List.set_cons_succ, Option.some.injEq, exists_eq_left', Nat.reduceAdd, Nat.reduceSub, Nat.sub_zero, Nat.sub_self, Nat.zero_add, Nat.reduceEqDiff, Bool.not_true, Bool.not_false, if_true, if_false, Bool.and_self, Bool.true_and, Bool.and_true, Bool.false_eq_true, ↓reduceIte, true_and, and_true, decide_true, decide_false, wipeR]
          refine k_ret ?_
          simp only [ok_V0, ok_Vs, ok_K, ok_B, ok_U, ok_nil, ok_cons, ok_N, ok_aN, ok_call, ok_nl, ok_fl, ok_afl, ok_T, ok_qNot, ok_qAnd, ok_qOr, ok_and, ok_or, ok_not, ok_if, ok_Sl, ok_oNo, ok_oOf, ok_Ch, ok_it, ok_itA, ok_yes, v_addI, v_sub, v_neg, v_eqI, v_eqS, v_eqB, v_eq0, v_eqT0, v_neI, v_neS, v_neB, v_ne0, v_neT0, v_ltI, v_leI, v_gtI, v_geI, v_is, v_isNot, v_nn, v_ns, v_ni, v_nl, v_nt, v_tb, v_tl, v_tt, v_tn, v_ti, v_asB, v_asI, v_asL, v_asT, v_asS, v_lenL, v_lenT, v_tupL, v_tupT, v_listL, v_listT, v_intB, v_tup0, v_tup1, v_tup2, v_tup3, v_tup4, v_tup5, v_lst0, v_lst1, v_lst2, v_lst3, v_lst4, v_lst5, v_ok0, v_ok1, v_ok2, v_ix0L, v_ix0, v_ix1, v_ix2, v_ix3, v_fs, v_fi, v_fb, v_fn, v_ft, v_f0, v_fc, startR, List.map_cons, List.map_nil, List.length_cons, List.length_nil, List.replicate, List.cons_append, List.nil_append, List.set_cons_zero, List.set_cons_succ, Option.some.injEq, exists_eq_left', Nat.reduceAdd, Nat.reduceSub, Nat.sub_zero, Nat.sub_self, Nat.zero_add, Nat.reduceEqDiff, Bool.not_true, Bool.not_false, if_true, if_false, Bool.and_self, Bool.true_and, Bool.and_true, Bool.false_eq_true, ↓reduceIte, true_and, and_true, decide_true, decide_false, wipeR]
    | _ =>
      simp only [ok_V0, ok_Vs, ok_K, ok_B, ok_U, ok_nil, ok_cons, ok_N, ok_aN, ok_call, ok_nl, ok_fl, ok_afl, ok_T, ok_qNot, ok_qAnd, ok_qOr, ok_and, ok_or, ok_not, ok_if, ok_Sl, ok_oNo, ok_oOf, ok_Ch, ok_it, ok_itA, ok_yes, v_addI, v_sub, v_neg, v_eqI, v_eqS, v_eqB, v_eq0, v_eqT0, v_neI, v_neS, v_neB, v_ne0, v_neT0, v_ltI, v_leI, v_gtI, v_geI, v_is, v_isNot, v_nn, v_ns, v_ni, v_nl, v_nt, v_tb, v_tl, v_tt, v_tn, v_ti, v_asB, v_asI, v_asL, v_asT, v_asS, v_lenL, v_lenT, v_tupL, v_tupT, v_listL, v_listT, v_intB, v_tup0, v_tup1, v_tup2, v_tup3, v_tup4, v_tup5, v_lst0, v_lst1, v_lst2, v_lst3, v_lst4, v_lst5, v_ok0, v_ok1, v_ok2, v_ix0L, v_ix0, v_ix1, v_ix2, v_ix3, v_fs, v_fi, v_fb, v_fn, v_ft, v_f0, v_fc, startR, List.map_cons, List.map_nil, List.length_cons, List.length_nil, List.replicate, List.cons_append, List.nil_append, List.set_cons_zero, List.set_cons_succ, Option.some.injEq, exists_eq_left', Nat.reduceAdd, Nat.reduceSub, Nat.sub_zero, Nat.sub_self, Nat.zero_add, Nat.reduceEqDiff, Bool.not_true, Bool.not_false, if_true, if_false, Bool.and_self, Bool.true_and, Bool.and_true, Bool.false_eq_true, ↓reduceIte, true_and, and_true, decide_true, decide_false, wipeR]
      refine k_ret ?_
      simp only [ok_V0, ok_Vs, ok_K, ok_B, ok_U, ok_nil, ok_cons, ok_N, ok_aN, ok_call, ok_nl, ok_fl, ok_afl, ok_T, ok_qNot, ok_qAnd, ok_qOr, ok_and, ok_or, ok_not, ok_if, ok_Sl, ok_oNo, ok_oOf, ok_Ch, ok_it, ok_itA, ok_yes, v_addI, v_sub, v_neg, v_eqI, v_eqS, v_eqB, v_eq0, v_eqT0, v_neI, v_neS, v_neB, v_ne0, v_neT0, v_ltI, v_leI, v_gtI, v_geI, v_is, v_isNot, v_nn, v_ns, v_ni, v_nl, v_nt, v_tb, v_tl, v_tt, v_tn, v_ti, v_asB, v_asI, v_asL, v_asT, v_asS, v_lenL, v_lenT, v_tupL, v_tupT, v_listL, v_listT, v_intB, v_tup0, v_tup1, v_tup2, v_tup3, v_tup4, v_tup5, v_lst0, v_lst1, v_lst2, v_lst3, v_lst4, v_lst5, v_ok0, v_ok1, v_ok2, v_ix0L, v_ix0, v_ix1, v_ix2, v_ix3, v_fs, v_fi, v_fb, v_fn, v_ft, v_f0, v_fc, startR, List.map_cons, List.map_nil, List.length_cons, List.length_nil, List.replicate, List.cons_append, List.nil_append, List.set_cons_zero, List.set_cons_succ, Option.some.injEq, exists_eq_left', Nat.reduceAdd, Nat.reduceSub, Nat.sub_zero, Nat.sub_self, Nat.zero_add, Nat.reduceEqDiff, Bool.not_true, Bool.not_false, if_true, if_false, Bool.and_self, Bool.true_and, Bool.and_true, Bool.false_eq_true, ↓reduceIte, true_and, and_true, decide_true, decide_false, wipeR]
      rfl
  obtain ⟨x, s', e1, rfl, rfl⟩ := key
  exact e1
end
end Lw01
set_option Elab.async false
set_option linter.all false
set_option maxRecDepth 100000
set_option maxHeartbeats 1000000
namespace Lw01
open PySem PySem.Spec L2 Dl Mx Ds
section
variable {S : Type} {s : S}
abbrev tgIs : Tg := gTp (gC (gNm 1) (gC (gNm 2) gN0))
theorem loop_eq {t r : D} {o1 o2 o : Option D} {i : Int} {ds : List D} (h : DecL r) (hl : ∀ es, r = .tuple es → es.length ≤ 1000) :
    loopF tgIs (isBody (K_w_is_word K_w_all_in)) (pairD (.int i) r :: ds) [some t, o1, o2, o] s = if rowB (grB i) r = true then loopF tgIs (isBody (K_w_is_word K_w_all_in)) ds [some t, some (.int i), some r, o] s else some (.rt (.bool false), s) := by
  rw [loopF]
  have e1 : tgIs (pairD (.int i) r) [some t, o1, o2, o] = some [some t, some (.int i), some r, o] := rfl
  simp only [e1, body_eq h hl]
  cases rowB (grB i) r <;> rfl
theorem dis_keep (bs cs : List Str) : (bs.filter fun x => decide (x ∈ cs)).isEmpty = bs.all fun x => !decide (x ∈ cs) := by
  have := filter_none (fun x => !decide (x ∈ cs)) bs
  simpa using this
theorem wis_eq {d : D} (h : DecV d) : K_w_is (K_w_is_word K_w_all_in) [d] s = some (.bool (vocB d), s) := by
  apply ok_eq
  unfold K_w_is B_w_is
  refine k_fn (k_seq (k_sIf ?_))
  simp only [ok_V0, ok_Vs, ok_K, ok_B, ok_U, ok_nil, ok_cons, ok_N, ok_aN, ok_call, ok_nl, ok_fl, ok_afl, ok_T, ok_qNot, ok_qAnd, ok_qOr, ok_and, ok_or, ok_not, ok_if, ok_Sl, ok_oNo, ok_oOf, ok_Ch, ok_it, ok_itA, ok_yes, v_addI, v_sub, v_neg, v_eqI, v_eqS, v_eqB, v_eq0, v_eqT0, v_neI, v_neS, v_neB, v_ne0, v_neT0, v_ltI, v_leI, v_gtI, v_geI, v_is, v_isNot, v_nn, v_ns, v_ni, v_nl, v_nt, v_tb, v_tl, v_tt, v_tn, v_ti, v_asB, v_asI, v_asL, v_asT, v_asS, v_lenL, v_lenT, v_tupL, v_tupT, v_listL, v_listT, v_intB, v_tup0, v_tup1, v_tup2, v_tup3, v_tup4, v_tup5, v_lst0, v_lst1, v_lst2, v_lst3, v_lst4, v_lst5, v_ok0, v_ok1, v_ok2, v_ix0L, v_ix0, v_ix1, v_ix2, v_ix3, v_fs, v_fi, v_fb, v_fn, v_ft, v_f0, v_fc, startR, List.map_cons, List.map_nil, List.length_cons, List.length_nil, List.replicate, List.cons_append, List.nil_append, List.set_cons_zero, List.set_cons_succ, Option.some.injEq, exists_eq_left', Nat.reduceAdd, Nat.reduceSub, Nat.sub_zero, Nat.sub_self, Nat.zero_add, Nat.reduceEqDiff, Bool.not_true, Bool.not_false, if_true, if_false, Bool.and_self, Bool.true_and, Bool.and_true, Bool.false_eq_true, ↓reduceIte, true_and, and_true, decide_true, decide_false, wipeR, isi_tup h.1]
  cases d with
  | tuple ds =>
    simp only [ok_V0, ok_Vs, ok_K, ok_B, ok_U, ok_nil, ok_cons, ok_N, ok_aN, ok_call, ok_nl, ok_fl, ok_afl, ok_T, ok_qNot, ok_qAnd, ok_qOr, ok_and, ok_or, ok_not, ok_if, ok_Sl, ok_oNo, ok_oOf, ok_Ch, ok_it, ok_itA, ok_yes, v_addI, v_sub, v_neg, v_eqI, v_eqS, v_eqB, v_eq0, v_eqT0, v_neI, v_neS, v_neB, v_ne0, v_neT0, v_ltI, v_leI, v_gtI, v_geI, v_is, v_isNot, v_nn, v_ns, v_ni, v_nl, v_nt, v_tb, v_tl, v_tt, v_tn, v_ti, v_asB, v_asI, v_asL, v_asT, v_asS, v_lenL, v_lenT, v_tupL, v_tupT, v_listL, v_listT, v_intB, v_tup0, v_tup1, v_tup2, v_tup3, v_tup4, v_tup5, v_lst0, v_lst1, v_lst2, v_lst3, v_lst4, v_lst5, v_ok0, v_ok1, v_ok2, v_ix0L, v_ix0, v_ix1, v_ix2, v_ix3, v_fs, v_fi, v_fb, v_fn, v_ft, v_f0, v_fc, startR, List.map_cons, List.map_nil, List.length_cons, List.length_nil, List.replicate, List.cons_append, List.nil_append, List.set_cons_zero, List.set_cons_succ, Option.some.injEq, exists_eq_left', Nat.reduceAdd, Nat.reduceSub, Nat.sub_zero, Nat.sub_self, Nat.zero_add, Nat.reduceEqDiff, Bool.not_true, Bool.not_false, if_true, if_false, Bool.and_self, Bool.true_and, Bool.and_true, Bool.false_eq_true, ↓reduceIte, true_and, and_true, decide_true, decide_false, wipeR]
    match ds, h with
    | [], h => simp only [ok_V0, ok_Vs, ok_K, ok_B, ok_U, ok_nil, ok_cons, ok_N, ok_aN, ok_call, ok_nl, ok_fl, ok_afl, ok_T, ok_qNot, ok_qAnd, ok_qOr, ok_and, ok_or, ok_not, ok_if, ok_Sl, ok_oNo, ok_oOf, ok_Ch, ok_it, ok_itA, ok_yes, v_addI, v_sub, v_neg, v_eqI, v_eqS, v_eqB, v_eq0, v_eqT0, v_neI, v_neS, v_neB, v_ne0, v_neT0, v_ltI, v_leI, v_gtI, v_geI, v_is, v_isNot, v_nn, v_ns, v_ni, v_nl, v_nt, v_tb, v_tl, v_tt, v_tn, v_ti, v_asB, v_asI, v_asL, v_asT, v_asS, v_lenL, v_lenT, v_tupL, v_tupT, v_listL, v_listT, v_intB, v_tup0, v_tup1, v_tup2, v_tup3, v_tup4, v_tup5, v_lst0, v_lst1, v_lst2, v_lst3, v_lst4, v_lst5, v_ok0, v_ok1, v_ok2, v_ix0L, v_ix0, v_ix1, v_ix2, v_ix3, v_fs, v_fi, v_fb, v_fn, v_ft, v_f0, v_fc, startR, List.map_cons, List.map_nil, List.length_cons, List.length_nil, List.replicate, List.cons_append, List.nil_append, List.set_cons_zero, List.set_cons_succ, Option.some.injEq, exists_eq_left', Nat.reduceAdd, Nat.reduceSub, Nat.sub_zero, Nat.sub_self, Nat.zero_add, Nat.reduceEqDiff, Bool.not_true, Bool.not_false, if_true, if_false, Bool.and_self, Bool.true_and, Bool.and_true, Bool.false_eq_true, ↓reduceIte, true_and, and_true, decide_true, decide_false, wipeR, show ((((0 : Nat) : Int) = 3)) = False by simp]; exact k_ret (by simp only [ok_V0, ok_Vs, ok_K, ok_B, ok_U, ok_nil, ok_cons, ok_N, ok_aN, ok_call, ok_nl, ok_fl, ok_afl, ok_T, ok_qNot, ok_qAnd, ok_qOr, ok_and, ok_or, ok_not, ok_if, ok_Sl, ok_oNo, ok_oOf, ok_Ch, ok_it, ok_itA, ok_yes, v_addI, v_sub, v_neg, v_eqI, v_eqS, v_eqB, v_eq0, v_eqT0, v_neI, v_neS, v_neB, v_ne0, v_neT0, v_ltI, v_leI, v_gtI, v_geI, v_is, v_isNot, v_nn, v_ns, v_ni, v_nl, v_nt, v_tb, v_tl, v_tt, v_tn, v_ti, v_asB, v_asI, v_asL, v_asT, v_asS, v_lenL, v_lenT, v_tupL, v_tupT, v_listL, v_listT, v_intB, v_tup0, v_tup1, v_tup2, v_tup3, v_tup4, v_tup5, v_lst0, v_lst1, v_lst2, v_lst3, v_lst4, v_lst5, v_ok0, v_ok1, v_ok2, v_ix0L, v_ix0, v_ix1, v_ix2, v_ix3, v_fs, v_fi, v_fb, v_fn, v_ft, v_f0, v_fc, startR, List.map_cons, List.map_nil, List.length_cons, List.length_nil, List.replicate, List.cons_append, List.nil_append, List.set_cons_zero, List.set_cons_succ, Option.some.injEq, exists_eq_left', Nat.reduceAdd, Nat.reduceSub, Nat.sub_zero, Nat.sub_self, Nat.zero_add, Nat.reduceEqDiff, Bool.not_true, Bool.not_false, if_true, if_false, Bool.and_self, Bool.true_and, Bool.and_true, Bool.false_eq_true, ↓reduceIte, true_and, and_true, decide_true, decide_false, wipeR]; rfl)
    | [a], h => simp only [ok_V0, ok_Vs, ok_K, ok_B, ok_U, ok_nil, ok_cons, ok_N, ok_aN, ok_call, ok_nl, ok_fl, ok_afl, ok_T, ok_qNot, ok_qAnd, ok_qOr, ok_and, ok_or, ok_not, ok_if, ok_Sl, ok_oNo, ok_oOf, ok_Ch, ok_it, ok_itA, ok_yes, v_addI, v_sub, v_neg, v_eqI, v_eqS, v_eqB, v_eq0, v_eqT0, v_neI, v_neS, v_neB, v_ne0, v_neT0, v_ltI, v_leI, v_gtI, v_geI, v_is, v_isNot, v_nn, v_ns, v_ni, v_nl, v_nt, v_tb, v_tl, v_tt, v_tn, v_ti, v_asB, v_asI, v_asL, v_asT, v_asS, v_lenL, v_lenT, v_tupL, v_tupT, v_listL, v_listT, v_intB, v_tup0, v_tup1, v_tup2, v_tup3, v_tup4, v_tup5, v_lst0, v_lst1, v_lst2, v_lst3, v_lst4, v_lst5, v_ok0, v_ok1, v_ok2, v_ix0L, v_ix0, v_ix1, v_ix2, v_ix3, v_fs, v_fi, v_fb, v_fn, v_ft, v_f0, v_fc, startR, List.map_cons, List.map_nil, List.length_cons, List.length_nil, List.replicate, List.cons_append, List.nil_append, List.set_cons_zero, List.set_cons_succ, Option.some.injEq, exists_eq_left', Nat.reduceAdd, Nat.reduceSub, Nat.sub_zero, Nat.sub_self, Nat.zero_add, Nat.reduceEqDiff, Bool.not_true, Bool.not_false, if_true, if_false, Bool.and_self, Bool.true_and, Bool.and_true, Bool.false_eq_true, ↓reduceIte, true_and, and_true, decide_true, decide_false, wipeR, show ((((1 : Nat) : Int) = 3)) = False by simp]; exact k_ret (by simp only [ok_V0, ok_Vs, ok_K, ok_B, ok_U, ok_nil, ok_cons, ok_N, ok_aN, ok_call, ok_nl, ok_fl, ok_afl, ok_T, ok_qNot, ok_qAnd, ok_qOr, ok_and, ok_or, ok_not, ok_if, ok_Sl, ok_oNo, ok_oOf, ok_Ch, ok_it, ok_itA, ok_yes, v_addI, v_sub, v_neg, v_eqI, v_eqS, v_eqB, v_eq0, v_eqT0, v_neI, v_neS, v_neB, v_ne0, v_neT0, v_ltI, v_leI, v_gtI, v_geI, v_is, v_isNot, v_nn, v_ns, v_ni, v_nl, v_nt, v_tb, v_tl, v_tt, v_tn, v_ti, v_asB, v_asI, v_asL, v_asT, v_asS, v_lenL, v_lenT, v_tupL, v_tupT, v_listL, v_listT, v_intB, v_tup0, v_tup1, v_tup2, v_tup3, v_tup4, v_tup5, v_lst0, v_lst1, v_lst2, v_lst3, v_lst4, v_lst5, v_ok0, v_ok1, v_ok2, v_ix0L, v_ix0, v_ix1, v_ix2, v_ix3, v_fs, v_fi, v_fb, v_fn, v_ft, v_f0, v_fc, startR, List.map_cons, List.map_nil, List.length_cons, List.length_nil, List.replicate, List.cons_append, List.nil_append, List.set_cons_zero, List.set_cons_succ, Option.some.injEq, exists_eq_left', Nat.reduceAdd, Nat.reduceSub, Nat.sub_zero, Nat.sub_self, Nat.zero_add, Nat.reduceEqDiff, Bool.not_true, Bool.not_false, if_true, if_false, Bool.and_self, Bool.true_and, Bool.and_true, Bool.false_eq_true, ↓reduceIte, true_and, and_true, decide_true, decide_false, wipeR]; rfl)
    | [a, b], h => simp only [ok_V0, ok_Vs, ok_K, ok_B, ok_U, ok_nil, ok_cons, ok_N, ok_aN, ok_call, ok_nl, ok_fl, ok_afl, ok_T, ok_qNot, ok_qAnd, ok_qOr, ok_and, ok_or, ok_not, ok_if, ok_Sl, ok_oNo, ok_oOf, ok_Ch, ok_it, ok_itA, ok_yes, v_addI, v_sub, v_neg, v_eqI, v_eqS, v_eqB, v_eq0, v_eqT0, v_neI, v_neS, v_neB, v_ne0, v_neT0, v_ltI, v_leI, v_gtI, v_geI, v_is, v_isNot, v_nn, v_ns, v_ni, v_nl, v_nt, v_tb, v_tl, v_tt, v_tn, v_ti, v_asB, v_asI, v_asL, v_asT, v_asS, v_lenL, v_lenT, v_tupL, v_tupT, v_listL, v_listT, v_intB, v_tup0, v_tup1, v_tup2, v_tup3, v_tup4, v_tup5, v_lst0, v_lst1, v_lst2, v_lst3, v_lst4, v_lst5, v_ok0, v_ok1, v_ok2, v_ix0L, v_ix0, v_ix1, v_ix2, v_ix3, v_fs, v_fi, v_fb, v_fn, v_ft, v_f0, v_fc, startR, List.map_cons, List.map_nil, List.length_cons, List.length_nil, List.replicate, List.cons_append, List.nil_append, List.set_cons_zero, List.set_cons_succ, Option.some.injEq, exists_eq_left', Nat.reduceAdd, Nat.reduceSub, Nat.sub_zero, Nat.sub_self, Nat.zero_add, Nat.reduceEqDiff, Bool.not_true, Bool.not_false, if_true, if_false, Bool.and_self, Bool.true_and, Bool.and_true, Bool.false_eq_true, ↓reduceIte, true_and, and_true, decide_true, decide_false, wipeR, show ((((2 : Nat) : Int) = 3)) = False by simp]; exact k_ret (by simp only [ok_V0, ok_Vs, ok_K, ok_B, ok_U, ok_nil, ok_cons, ok_N, ok_aN, ok_call, ok_nl, ok_fl, ok_afl, ok_T, ok_qNot, ok_qAnd, ok_qOr, ok_and, ok_or, ok_not, ok_if, ok_Sl, ok_oNo, ok_oOf, ok_Ch, ok_it, ok_itA, ok_yes, v_addI, v_sub, v_neg, v_eqI, v_eqS, v_eqB, v_eq0, v_eqT0, v_neI, v_neS, v_neB, v_ne0, v_neT0, v_ltI, v_leI, v_gtI, v_geI, v_is, v_isNot, v_nn, v_ns, v_ni, v_nl, v_nt, v_tb, v_tl, v_tt, v_tn, v_ti, v_asB, v_asI, v_asL, v_asT, v_asS, v_lenL, v_lenT, v_tupL, v_tupT, v_listL, v_listT, v_intB, v_tup0, v_tup1, v_tup2, v_tup3, v_tup4, v_tup5, v_lst0, v_lst1, v_lst2, v_lst3, v_lst4, v_lst5, v_ok0, v_ok1, v_ok2, v_ix0L, v_ix0, v_ix1, v_ix2, v_ix3, v_fs, v_fi, v_fb, v_fn, v_ft, v_f0, v_fc, startR, List.map_cons, List.map_nil, List.length_cons, List.length_nil, List.replicate, List.cons_append, List.nil_append, List.set_cons_zero, List.set_cons_succ, Option.some.injEq, exists_eq_left', Nat.reduceAdd, Nat.reduceSub, Nat.sub_zero, Nat.sub_self, Nat.zero_add, Nat.reduceEqDiff, Bool.not_true, Bool.not_false, if_true, if_false, Bool.and_self, Bool.true_and, Bool.and_true, Bool.false_eq_true, ↓reduceIte, true_and, and_true, decide_true, decide_false, wipeR]; rfl)
    | [a, b, c], h =>
      simp only [ok_V0, ok_Vs, ok_K, ok_B, ok_U, ok_nil, ok_cons, ok_N, ok_aN, ok_call, ok_nl, ok_fl, ok_afl, ok_T, ok_qNot, ok_qAnd, ok_qOr, ok_and, ok_or, ok_not, ok_if, ok_Sl, ok_oNo, ok_oOf, ok_Ch, ok_it, ok_itA, ok_yes, v_addI, v_sub, v_neg, v_eqI, v_eqS, v_eqB, v_eq0, v_eqT0, v_neI, v_neS, v_neB, v_ne0, v_neT0, v_ltI, v_leI, v_gtI, v_geI, v_is, v_isNot, v_nn, v_ns, v_ni, v_nl, v_nt, v_tb, v_tl, v_tt, v_tn, v_ti, v_asB, v_asI, v_asL, v_asT, v_asS, v_lenL, v_lenT, v_tupL, v_tupT, v_listL, v_listT, v_intB, v_tup0, v_tup1, v_tup2, v_tup3, v_tup4, v_tup5, v_lst0, v_lst1, v_lst2, v_lst3, v_lst4, v_lst5, v_ok0, v_ok1, v_ok2, v_ix0L, v_ix0, v_ix1, v_ix2, v_ix3, v_fs, v_fi, v_fb, v_fn, v_ft, v_f0, v_fc, startR, List.map_cons, List.map_nil, List.length_cons, List.length_nil, List.replicate, List.cons_append, List.nil_append, List.set_cons_zero, List.set_cons_succ, Option.some.injEq, exists_eq_left', Nat.reduceAdd, Nat.reduceSub, Nat.sub_zero, Nat.sub_self, Nat.zero_add, Nat.reduceEqDiff, Bool.not_true, Bool.not_false, if_true, if_false, Bool.and_self, Bool.true_and, Bool.and_true, Bool.false_eq_true, ↓reduceIte, true_and, and_true, decide_true, decide_false, wipeR, show ((((3 : Nat) : Int) = 3)) = True by simp]
      obtain ⟨_, h2⟩ := h
      obtain ⟨h2, _⟩ := h2 _ rfl
      obtain ⟨ha, hal⟩ := h2 a (by simp)
      obtain ⟨hb, hbl⟩ := h2 b (by simp)
      obtain ⟨hc, hcl⟩ := h2 c (by simp)
      refine k_nx (k_seq ?_)
      have hloop : sFor (iOfA pEnumT (aCons (cVar 0) aNil)) tgIs (isBody (K_w_is_word K_w_all_in)) [some (.tuple [a, b, c]), none, none, none] s = if rowB nameB a = true then (if rowB kindB b = true then (if rowB kindB c = true then some (.nx [some (.tuple [a, b, c]), some (.int 2), some c, none], s) else some (.rt (.bool false), s)) else some (.rt (.bool false), s)) else some (.rt (.bool false), s) := by
        have e0 : sFor (iOfA pEnumT (aCons (cVar 0) aNil)) tgIs (isBody (K_w_is_word K_w_all_in)) [some (.tuple [a, b, c]), none, none, none] s = loopF tgIs (isBody (K_w_is_word K_w_all_in)) [pairD (.int 0) a, pairD (.int 1) b, pairD (.int 2) c] [some (.tuple [a, b, c]), none, none, none] s := rfl
        rw [e0, loop_eq ha hal, loop_eq hb hbl, loop_eq hc hcl]
        have g0 : grB 0 = nameB := rfl
        have g1 : grB 1 = kindB := rfl
        have g2 : grB 2 = kindB := rfl
        rw [g0, g1, g2]
        rfl
      change Ok (sFor (iOfA pEnumT (aCons (cVar 0) aNil)) tgIs (isBody (K_w_is_word K_w_all_in)) [some (.tuple [a, b, c]), none, none, none] s) _
      rw [hloop]
      have hv : vocB (.tuple [a, b, c]) = (rowB nameB a && (rowB kindB b && (rowB kindB c && disB b c))) := rfl
      cases e1 : rowB nameB a with
      | false => exact Ok.of rfl ⟨by rw [hv, e1]; rfl, rfl⟩
      | true =>
        cases e2 : rowB kindB b with
        | false => exact Ok.of rfl ⟨by rw [hv, e1, e2]; rfl, rfl⟩
        | true =>
          cases e3 : rowB kindB c with
          | false => exact Ok.of rfl ⟨by rw [hv, e1, e2, e3]; rfl, rfl⟩
          | true =>
            refine Ok.of rfl ?_
            obtain ⟨bs, rfl, eb, _⟩ := row_tup e2
            obtain ⟨cs, rfl, ec, _⟩ := row_tup e3
            have sb := strs_of (fun d => kind_str) eb
            have sc := strs_of (fun d => kind_str) ec
            have hb1 := hbl bs rfl
            refine k_ret ?_
            have hk : lcF (iOf asT (cB pIx (cVar 0) (cK (.int 1)))) (gNm 3) (qT (cB pIn (cVar 3) (cB pIx (cVar 0) (cK (.int 2))))) (cVar 3) [3] [some (.tuple [a, .tuple bs, .tuple cs]), some (.int 2), some (.tuple cs), none] s = some ((bs.filter fun d => decide (txt d ∈ cs.map txt)).map fun d => d, s) := by
              refine k_keep _ _ (szL (Nat.le_trans hb1 (by decide))) ?_ fun d hx => ⟨_, rfl, ?_, fun _ => rfl⟩
              · apply ok_eqL
                simp only [ok_V0, ok_Vs, ok_K, ok_B, ok_U, ok_nil, ok_cons, ok_N, ok_aN, ok_call, ok_nl, ok_fl, ok_afl, ok_T, ok_qNot, ok_qAnd, ok_qOr, ok_and, ok_or, ok_not, ok_if, ok_Sl, ok_oNo, ok_oOf, ok_Ch, ok_it, ok_itA, ok_yes, v_addI, v_sub, v_neg, v_eqI, v_eqS, v_eqB, v_eq0, v_eqT0, v_neI, v_neS, v_neB, v_ne0, v_neT0, v_ltI, v_leI, v_gtI, v_geI, v_is, v_isNot, v_nn, v_ns, v_ni, v_nl, v_nt, v_tb, v_tl, v_tt, v_tn, v_ti, v_asB, v_asI, v_asL, v_asT, v_asS, v_lenL, v_lenT, v_tupL, v_tupT, v_listL, v_listT, v_intB, v_tup0, v_tup1, v_tup2, v_tup3, v_tup4, v_tup5, v_lst0, v_lst1, v_lst2, v_lst3, v_lst4, v_lst5, v_ok0, v_ok1, v_ok2, v_ix0L, v_ix0, v_ix1, v_ix2, v_ix3, v_fs, v_fi, v_fb, v_fn, v_ft, v_f0, v_fc, startR, List.map_cons, List.map_nil, List.length_cons, List.length_nil, List.replicate, List.cons_append, List.nil_append, List.set_cons_zero, List.set_cons_succ, Option.some.injEq, exists_eq_left', Nat.reduceAdd, Nat.reduceSub, Nat.sub_zero, Nat.sub_self, Nat.zero_add, Nat.reduceEqDiff, Bool.not_true, Bool.not_false, if_true, if_false, Bool.and_self, Bool.true_and, Bool.and_true, Bool.false_eq_true, ↓reduceIte, true_and, and_true, decide_true, decide_false, wipeR]
              · apply ok_eqB
                have hd : d = .str (txt d) := kind_str (List.all_eq_true.mp eb d hx)
                have hin : pIn d (.tuple cs) = some (.bool (decide (txt d ∈ cs.map txt))) := by
                  have := in_strs (txt d) (cs.map txt)
                  rw [← sc, ← hd] at this
                  exact this
                simp only [gNm, ok_V0, ok_Vs, ok_K, ok_B, ok_U, ok_nil, ok_cons, ok_N, ok_aN, ok_call, ok_nl, ok_fl, ok_afl, ok_T, ok_qNot, ok_qAnd, ok_qOr, ok_and, ok_or, ok_not, ok_if, ok_Sl, ok_oNo, ok_oOf, ok_Ch, ok_it, ok_itA, ok_yes, v_addI, v_sub, v_neg, v_eqI, v_eqS, v_eqB, v_eq0, v_eqT0, v_neI, v_neS, v_neB, v_ne0, v_neT0, v_ltI, v_leI, v_gtI, v_geI, v_is, v_isNot, v_nn, v_ns, v_ni, v_nl, v_nt, v_tb, v_tl, v_tt, v_tn, v_ti, v_asB, v_asI, v_asL, v_asT, v_asS, v_lenL, v_lenT, v_tupL, v_tupT, v_listL, v_listT, v_intB, v_tup0, v_tup1, v_tup2, v_tup3, v_tup4, v_tup5, v_lst0, v_lst1, v_lst2, v_lst3, v_lst4, v_lst5, v_ok0, v_ok1, v_ok2, v_ix0L, v_ix0, v_ix1, v_ix2, v_ix3, v_fs, v_fi, v_fb, v_fn, v_ft, v_f0, v_fc, startR, List.map_cons, List.map_nil, List.length_cons, List.length_nil, List.replicate, List.cons_append, List.nil_append, List.set_cons_zero, List.set_cons_succ, Option.some.injEq, exists_eq_left', Nat.reduceAdd, Nat.reduceSub, Nat.sub_zero, Nat.sub_self, Nat.zero_add, Nat.reduceEqDiff, Bool.not_true, Bool.not_false, if_true, if_false, Bool.and_self, Bool.true_and, Bool.and_true, Bool.false_eq_true, ↓reduceIte, true_and, and_true, decide_true, decide_false, wipeR, hin]
            rw [List.map_id'] at hk
            simp only [ok_V0, ok_Vs, ok_K, ok_B, ok_U, ok_nil, ok_cons, ok_N, ok_aN, ok_call, ok_nl, ok_fl, ok_afl, ok_T, ok_qNot, ok_qAnd, ok_qOr, ok_and, ok_or, ok_not, ok_if, ok_Sl, ok_oNo, ok_oOf, ok_Ch, ok_it, ok_itA, ok_yes, v_addI, v_sub, v_neg, v_eqI, v_eqS, v_eqB, v_eq0, v_eqT0, v_neI, v_neS, v_neB, v_ne0, v_neT0, v_ltI, v_leI, v_gtI, v_geI, v_is, v_isNot, v_nn, v_ns, v_ni, v_nl, v_nt, v_tb, v_tl, v_tt, v_tn, v_ti, v_asB, v_asI, v_asL, v_asT, v_asS, v_lenL, v_lenT, v_tupL, v_tupT, v_listL, v_listT, v_intB, v_tup0, v_tup1, v_tup2, v_tup3, v_tup4, v_tup5, v_lst0, v_lst1, v_lst2, v_lst3, v_lst4, v_lst5, v_ok0, v_ok1, v_ok2, v_ix0L, v_ix0, v_ix1, v_ix2, v_ix3, v_fs, v_fi, v_fb, v_fn, v_ft, v_f0, v_fc, startR, List.map_cons, List.map_nil, List.length_cons, List.length_nil, List.replicate, List.cons_append, List.nil_append, List.set_cons_zero, List.set_cons_succ, Option.some.injEq, exists_eq_left', Nat.reduceAdd, Nat.reduceSub, Nat.sub_zero, Nat.sub_self, Nat.zero_add, Nat.reduceEqDiff, Bool.not_true, Bool.not_false, if_true, if_false, Bool.and_self, Bool.true_and, Bool.and_true, Bool.false_eq_true, ↓reduceIte, true_and, and_true, decide_true, decide_false, wipeR, hk, ok_some]
            rw [hv, e1, e2, e3]
            show _ = PyData.bool (disB (.tuple bs) (.tuple cs))
            have := dis_keep (bs.map txt) (cs.map txt)
            rw [List.filter_map, List.isEmpty_map] at this
            show PyData.bool _ = PyData.bool ((bs.map txt).all fun x => !decide (x ∈ cs.map txt))
            rw [← this]
            rfl
    | a :: b :: c :: d :: r, h =>
      simp only [ok_V0, ok_Vs, ok_K, ok_B, ok_U, ok_nil, ok_cons, ok_N, ok_aN, ok_call, ok_nl, ok_fl, ok_afl, ok_T, ok_qNot, ok_qAnd, ok_qOr, ok_and, ok_or, ok_not, ok_if, ok_Sl, ok_oNo, ok_oOf, ok_Ch, ok_it, ok_itA, ok_yes, v_addI, v_sub, v_neg, v_eqI, v_eqS, v_eqB, v_eq0, v_eqT0, v_neI, v_neS, v_neB, v_ne0, v_neT0, v_ltI, v_leI, v_gtI, v_geI, v_is, v_isNot, v_nn, v_ns, v_ni, v_nl, v_nt, v_tb, v_tl, v_tt, v_tn, v_ti, v_asB, v_asI, v_asL, v_asT, v_asS, v_lenL, v_lenT, v_tupL, v_tupT, v_listL, v_listT, v_intB, v_tup0, v_tup1, v_tup2, v_tup3, v_tup4, v_tup5, v_lst0, v_lst1, v_lst2, v_lst3, v_lst4, v_lst5, v_ok0, v_ok1, v_ok2, v_ix0L, v_ix0, v_ix1, v_ix2, v_ix3, v_fs, v_fi, v_fb, v_fn, v_ft, v_f0, v_fc, startR, List.map_cons, List.map_nil, List.length_cons, List.length_nil, List.replicate, List.cons_append, List.nil_append, List.set_cons_zero, List.set_cons_succ, Option.some.injEq, exists_eq_left', Nat.reduceAdd, Nat.reduceSub, Nat.sub_zero, Nat.sub_self, Nat.zero_add, Nat.reduceEqDiff, Bool.not_true, Bool.not_false, if_true, if_false, Bool.and_self, Bool.true_and, Bool.and_true, Bool.false_eq_true, ↓reduceIte, true_and, and_true, decide_true, decide_false, wipeR, show ((((r.length + 1 + 1 + 1 + 1 : Nat) : Int) = 3)) = False from eq_false (by omega)]
      exact k_ret (by simp only [ok_V0, ok_Vs, ok_K, ok_B, ok_U, ok_nil, ok_cons, ok_N, ok_aN, ok_call, ok_nl, ok_fl, ok_afl, ok_T, ok_qNot, ok_qAnd, ok_qOr, ok_and, ok_or, ok_not, ok_if, ok_Sl, ok_oNo, ok_oOf, ok_Ch, ok_it, ok_itA, ok_yes, v_addI, v_sub, v_neg, v_eqI, v_eqS, v_eqB, v_eq0, v_eqT0, v_neI, v_neS, v_neB, v_ne0, v_neT0, v_ltI, v_leI, v_gtI, v_geI, v_is, v_isNot, v_nn, v_ns, v_ni, v_nl, v_nt, v_tb, v_tl, v_tt, v_tn, v_ti, v_asB, v_asI, v_asL, v_asT, v_asS, v_lenL, v_lenT, v_tupL, v_tupT, v_listL, v_listT, v_intB, v_tup0, v_tup1, v_tup2, v_tup3, v_tup4, v_tup5, v_lst0, v_lst1, v_lst2, v_lst3, v_lst4, v_lst5, v_ok0, v_ok1, v_ok2, v_ix0L, v_ix0, v_ix1, v_ix2, v_ix3, v_fs, v_fi, v_fb, v_fn, v_ft, v_f0, v_fc, startR, List.map_cons, List.map_nil, List.length_cons, List.length_nil, List.replicate, List.cons_append, List.nil_append, List.set_cons_zero, List.set_cons_succ, Option.some.injEq, exists_eq_left', Nat.reduceAdd, Nat.reduceSub, Nat.sub_zero, Nat.sub_self, Nat.zero_add, Nat.reduceEqDiff, Bool.not_true, Bool.not_false, if_true, if_false, Bool.and_self, Bool.true_and, Bool.and_true, Bool.false_eq_true, ↓reduceIte, true_and, and_true, decide_true, decide_false, wipeR]; rfl)
  | _ => simp only [ok_V0, ok_Vs, ok_K, ok_B, ok_U, ok_nil, ok_cons, ok_N, ok_aN, ok_call, ok_nl, ok_fl, ok_afl, ok_T, ok_qNot, ok_qAnd, ok_qOr, ok_and, ok_or, ok_not, ok_if, ok_Sl, ok_oNo, ok_oOf, ok_Ch, ok_it, ok_itA, ok_yes, v_addI, v_sub, v_neg, v_eqI, v_eqS, v_eqB, v_eq0, v_eqT0, v_neI, v_neS, v_neB, v_ne0, v_neT0, v_ltI, v_leI, v_gtI, v_geI, v_is, v_isNot, v_nn, v_ns, v_ni, v_nl, v_nt, v_tb, v_tl, v_tt, v_tn, v_ti, v_asB, v_asI, v_asL, v_asT, v_asS, v_lenL, v_lenT, v_tupL, v_tupT, v_listL, v_listT, v_intB, v_tup0, v_tup1, v_tup2, v_tup3, v_tup4, v_tup5, v_lst0, v_lst1, v_lst2, v_lst3, v_lst4, v_lst5, v_ok0, v_ok1, v_ok2, v_ix0L, v_ix0, v_ix1, v_ix2, v_ix3, v_fs, v_fi, v_fb, v_fn, v_ft, v_f0, v_fc, startR, List.map_cons, List.map_nil, List.length_cons, List.length_nil, List.replicate, List.cons_append, List.nil_append, List.set_cons_zero, List.set_cons_succ, Option.some.injEq, exists_eq_left', Nat.reduceAdd, Nat.reduceSub, Nat.sub_zero, Nat.sub_self, Nat.zero_add, Nat.reduceEqDiff, Bool.not_true, Bool.not_false, if_true, if_false, Bool.and_self, Bool.true_and, Bool.and_true, Bool.false_eq_true, ↓reduceIte, true_and, and_true, decide_true, decide_false, wipeR]; exact k_ret (by simp only [ok_V0, ok_Vs, ok_K, ok_B, ok_U, ok_nil, ok_cons, ok_N, ok_aN, ok_call, ok_nl, ok_fl, ok_afl, ok_T, ok_qNot, ok_qAnd, ok_qOr, ok_and, ok_or, ok_not, ok_if, ok_Sl, ok_oNo, ok_oOf, ok_Ch, ok_it, ok_itA, ok_yes, v_addI, v_sub, v_neg, v_eqI, v_eqS, v_eqB, v_eq0, v_eqT0, v_neI, v_neS, v_neB, v_ne0, v_neT0, v_ltI, v_leI, v_gtI, v_geI, v_is, v_isNot, v_nn, v_ns, v_ni, v_nl, v_nt, v_tb, v_tl, v_tt, v_tn, v_ti, v_asB, v_asI, v_asL, v_asT, v_asS, v_lenL, v_lenT, v_tupL, v_tupT, v_listL, v_listT, v_intB, v_tup0, v_tup1, v_tup2, v_tup3, v_tup4, v_tup5, v_lst0, v_lst1, v_lst2, v_lst3, v_lst4, v_lst5, v_ok0, v_ok1, v_ok2, v_ix0L, v_ix0, v_ix1, v_ix2, v_ix3, v_fs, v_fi, v_fb, v_fn, v_ft, v_f0, v_fc, startR, List.map_cons, List.map_nil, List.length_cons, List.length_nil, List.replicate, List.cons_append, List.nil_append, List.set_cons_zero, List.set_cons_succ, Option.some.injEq, exists_eq_left', Nat.reduceAdd, Nat.reduceSub, Nat.sub_zero, Nat.sub_self, Nat.zero_add, Nat.reduceEqDiff, Bool.not_true, Bool.not_false, if_true, if_false, Bool.and_self, Bool.true_and, Bool.and_true, Bool.false_eq_true, ↓reduceIte, true_and, and_true, decide_true, decide_false, wipeR]; rfl)
end
end Lw01
set_option Elab.async false
set_option linter.all false
set_option maxRecDepth 100000
set_option maxHeartbeats 1000000
namespace Lw01
open PySem PySem.Spec L2 Dl Mx Ds
/-! ### what is drawn -/
theorem k_take {s : DS} {m : Int} {Q : D → DS → Prop} (h : 0 < m) (h2 : m < 1073741824) (q : ∀ (r : Int) s', 0 ≤ r → r < m → Q (.int r) s') : Ok (Ftake [hnd 0, .int m] s) Q :=
  ⟨_, _, ftake h h2, q _ _ (takeF_range s h).1 (takeF_range s h).2⟩
abbrev smS : Str := Str.ofString "abcdefghijklmnopqrstuvwxyz"
abbrev grS : Str := Str.ofString "ABCDEFGHIJKLMNOPQRSTUVWXYZ"
abbrev qzS : Str := Str.ofString "qzkj"
abbrev mk (l : List Nat) : Str := ⟨l.toArray⟩
theorem mk_cps (l : List Nat) : (mk l).cps.toList = l := by simp [mk]
theorem mk_len (l : List Nat) : (mk l).length = l.length := by simp [mk, Str.length]
theorem mk_app (a b : List Nat) : mk a ++ mk b = mk (a ++ b) := TL.ext_tl (TL.tl_append (mk a) (mk b))
theorem ix_at {z : Str} {r : Int} (hz : z.length ≤ sizeLine) (h0 : 0 ≤ r) (h : r < z.length) : ∃ c, c ∈ z.cps.toList ∧ z.cps.toList[r.toNat]? = some c ∧ pIx (.str z) (.int r) = some (.str (mk [c])) := by
  obtain ⟨c, h1, h2, e⟩ := atI_lt (xs := z.cps.toList) h0 (by simpa [Str.length] using h)
  exact ⟨c, h1, h2, by simp only [pIx]; rw [if_pos hz, e]; rfl⟩
theorem sg_strs (cs : List Nat) : dStrs (cs.map sgD) = some (cs.map fun c => mk [c]) := by
  have : cs.map sgD = (cs.map fun c => mk [c]).map PyData.str := by rw [List.map_map]; rfl
  rw [this, dStrs_map]
theorem joinL_sg : ∀ cs : List Nat, TL.joinL [] (cs.map fun c => [c]) = cs
  | [] => rfl
  | [c] => rfl
  | c :: d :: r => by
    have ih := joinL_sg (d :: r)
    show [c] ++ ([] ++ TL.joinL [] ((d :: r).map fun c => [c])) = _
    rw [ih]
    rfl
theorem join_sg (cs : List Nat) : Txt.join (Str.ofString "") (cs.map fun c => mk [c]) = mk cs := by
  rw [TL.join_eq]
  apply cpl_inj
  have h := TL.tl_join (Str.ofString "") (cs.map fun c => mk [c])
  have e0 : TL.tl (Str.ofString "") = [] := rfl
  rw [e0, List.map_map] at h
  have e1 : cs.map (TL.tl ∘ fun c => mk [c]) = cs.map fun c => [c] := rfl
  rw [e1, joinL_sg] at h
  rw [mk_cps]
  exact h
theorem join_eq {cs : List Nat} (h : cs.length ≤ 1000) : pJoin (.str "") (.list (cs.map sgD)) = some (.str (mk cs)) := by
  simp only [pJoin, sg_strs]
  have hs : ((cs.map fun c => mk [c]).map (·.length)).sum = cs.length := by
    rw [List.map_map]
    have : cs.map ((·.length) ∘ fun c => mk [c]) = List.replicate cs.length 1 := by
      apply List.ext_getElem (by simp)
      intro i h1 h2
      simp [mk, Str.length]
    rw [this]
    simp
  have e0 : (Str.ofString "").length = 0 := rfl
  rw [if_pos (by rw [hs, e0]; omega)]
  exact congrArg some (congrArg PyData.str (join_sg cs))
theorem inAll_app {a b : List Nat} {z : Str} : inAll (a ++ b) z = (inAll a z && inAll b z) := by
  unfold inAll
  exact List.all_append
theorem inAll_one {c : Nat} {z : Str} (h : c ∈ z.cps.toList) : inAll [c] z = true := by
  unfold inAll
  rw [List.all_cons, decide_eq_true h]
  rfl
theorem ok_tail {s : DS} {n : Nat} (h : n ≤ 100) {Q : D → DS → Prop} (q : ∀ l s', l.length = n → inAll l smS = true → Q (.str (mk l)) s') : Ok (K_w_tail Ftake [hnd 0, .int (n : Nat)] s) Q := by
  unfold K_w_tail B_w_tail
  refine k_fn (k_ret ?_)
  simp only [ok_V0, ok_Vs, ok_K, ok_B, ok_U, ok_nil, ok_cons, ok_N, ok_aN, ok_call, ok_nl, ok_fl, ok_afl, ok_T, ok_qNot, ok_qAnd, ok_qOr, ok_and, ok_or, ok_not, ok_if, ok_Sl, ok_oNo, ok_oOf, ok_Ch, ok_it, ok_itA, ok_yes, v_addI, v_sub, v_neg, v_eqI, v_eqS, v_eqB, v_eq0, v_eqT0, v_neI, v_neS, v_neB, v_ne0, v_neT0, v_ltI, v_leI, v_gtI, v_geI, v_is, v_isNot, v_nn, v_ns, v_ni, v_nl, v_nt, v_tb, v_tl, v_tt, v_tn, v_ti, v_asB, v_asI, v_asL, v_asT, v_asS, v_lenL, v_lenT, v_tupL, v_tupT, v_listL, v_listT, v_intB, v_tup0, v_tup1, v_tup2, v_tup3, v_tup4, v_tup5, v_lst0, v_lst1, v_lst2, v_lst3, v_lst4, v_lst5, v_ok0, v_ok1, v_ok2, v_ix0L, v_ix0, v_ix1, v_ix2, v_ix3, v_fs, v_fi, v_fb, v_fn, v_ft, v_f0, v_fc, startR, List.map_cons, List.map_nil, List.length_cons, List.length_nil, List.replicate, List.cons_append, List.nil_append, List.set_cons_zero, List.set_cons_succ, Option.some.injEq, exists_eq_left', Nat.reduceAdd, Nat.reduceSub, Nat.sub_zero, Nat.sub_self, Nat.zero_add, Nat.reduceEqDiff, Bool.not_true, Bool.not_false, if_true, if_false, Bool.and_self, Bool.true_and, Bool.and_true, Bool.false_eq_true, ↓reduceIte, true_and, and_true, decide_true, decide_false, wipeR]
  refine k_lcP (fun ds s' => ds = rngD 0 n) ?_ ?_
  · simp only [ok_V0, ok_Vs, ok_K, ok_B, ok_U, ok_nil, ok_cons, ok_N, ok_aN, ok_call, ok_nl, ok_fl, ok_afl, ok_T, ok_qNot, ok_qAnd, ok_qOr, ok_and, ok_or, ok_not, ok_if, ok_Sl, ok_oNo, ok_oOf, ok_Ch, ok_it, ok_itA, ok_yes, v_addI, v_sub, v_neg, v_eqI, v_eqS, v_eqB, v_eq0, v_eqT0, v_neI, v_neS, v_neB, v_ne0, v_neT0, v_ltI, v_leI, v_gtI, v_geI, v_is, v_isNot, v_nn, v_ns, v_ni, v_nl, v_nt, v_tb, v_tl, v_tt, v_tn, v_ti, v_asB, v_asI, v_asL, v_asT, v_asS, v_lenL, v_lenT, v_tupL, v_tupT, v_listL, v_listT, v_intB, v_tup0, v_tup1, v_tup2, v_tup3, v_tup4, v_tup5, v_lst0, v_lst1, v_lst2, v_lst3, v_lst4, v_lst5, v_ok0, v_ok1, v_ok2, v_ix0L, v_ix0, v_ix1, v_ix2, v_ix3, v_fs, v_fi, v_fb, v_fn, v_ft, v_f0, v_fc, startR, List.map_cons, List.map_nil, List.length_cons, List.length_nil, List.replicate, List.cons_append, List.nil_append, List.set_cons_zero, List.set_cons_succ, Option.some.injEq, exists_eq_left', Nat.reduceAdd, Nat.reduceSub, Nat.sub_zero, Nat.sub_self, Nat.zero_add, Nat.reduceEqDiff, Bool.not_true, Bool.not_false, if_true, if_false, Bool.and_self, Bool.true_and, Bool.and_true, Bool.false_eq_true, ↓reduceIte, true_and, and_true, decide_true, decide_false, wipeR]
    rw [pr1 (by omega) (by omega)]
    simp only [ok_V0, ok_Vs, ok_K, ok_B, ok_U, ok_nil, ok_cons, ok_N, ok_aN, ok_call, ok_nl, ok_fl, ok_afl, ok_T, ok_qNot, ok_qAnd, ok_qOr, ok_and, ok_or, ok_not, ok_if, ok_Sl, ok_oNo, ok_oOf, ok_Ch, ok_it, ok_itA, ok_yes, v_addI, v_sub, v_neg, v_eqI, v_eqS, v_eqB, v_eq0, v_eqT0, v_neI, v_neS, v_neB, v_ne0, v_neT0, v_ltI, v_leI, v_gtI, v_geI, v_is, v_isNot, v_nn, v_ns, v_ni, v_nl, v_nt, v_tb, v_tl, v_tt, v_tn, v_ti, v_asB, v_asI, v_asL, v_asT, v_asS, v_lenL, v_lenT, v_tupL, v_tupT, v_listL, v_listT, v_intB, v_tup0, v_tup1, v_tup2, v_tup3, v_tup4, v_tup5, v_lst0, v_lst1, v_lst2, v_lst3, v_lst4, v_lst5, v_ok0, v_ok1, v_ok2, v_ix0L, v_ix0, v_ix1, v_ix2, v_ix3, v_fs, v_fi, v_fb, v_fn, v_ft, v_f0, v_fc, startR, List.map_cons, List.map_nil, List.length_cons, List.length_nil, List.replicate, List.cons_append, List.nil_append, List.set_cons_zero, List.set_cons_succ, Option.some.injEq, exists_eq_left', Nat.reduceAdd, Nat.reduceSub, Nat.sub_zero, Nat.sub_self, Nat.zero_add, Nat.reduceEqDiff, Bool.not_true, Bool.not_false, if_true, if_false, Bool.and_self, Bool.true_and, Bool.and_true, Bool.false_eq_true, ↓reduceIte, true_and, and_true, decide_true, decide_false, wipeR]
    rfl
  · rintro ds s1 rfl
    refine ⟨by rw [rng_len]; exact szL (by omega), fun j acc _ => ∃ cs : List Nat, acc = cs.map sgD ∧ cs.length = j ∧ inAll cs smS = true, ⟨[], rfl, rfl, rfl⟩, ?_, ?_⟩
    · rintro j d acc s hd ⟨cs, rfl, hl, hx⟩
      refine ⟨_, rfl, ?_⟩
      simp only [ok_V0, ok_Vs, ok_K, ok_B, ok_U, ok_nil, ok_cons, ok_N, ok_aN, ok_call, ok_nl, ok_fl, ok_afl, ok_T, ok_qNot, ok_qAnd, ok_qOr, ok_and, ok_or, ok_not, ok_if, ok_Sl, ok_oNo, ok_oOf, ok_Ch, ok_it, ok_itA, ok_yes, v_addI, v_sub, v_neg, v_eqI, v_eqS, v_eqB, v_eq0, v_eqT0, v_neI, v_neS, v_neB, v_ne0, v_neT0, v_ltI, v_leI, v_gtI, v_geI, v_is, v_isNot, v_nn, v_ns, v_ni, v_nl, v_nt, v_tb, v_tl, v_tt, v_tn, v_ti, v_asB, v_asI, v_asL, v_asT, v_asS, v_lenL, v_lenT, v_tupL, v_tupT, v_listL, v_listT, v_intB, v_tup0, v_tup1, v_tup2, v_tup3, v_tup4, v_tup5, v_lst0, v_lst1, v_lst2, v_lst3, v_lst4, v_lst5, v_ok0, v_ok1, v_ok2, v_ix0L, v_ix0, v_ix1, v_ix2, v_ix3, v_fs, v_fi, v_fb, v_fn, v_ft, v_f0, v_fc, startR, List.map_cons, List.map_nil, List.length_cons, List.length_nil, List.replicate, List.cons_append, List.nil_append, List.set_cons_zero, List.set_cons_succ, Option.some.injEq, exists_eq_left', Nat.reduceAdd, Nat.reduceSub, Nat.sub_zero, Nat.sub_self, Nat.zero_add, Nat.reduceEqDiff, Bool.not_true, Bool.not_false, if_true, if_false, Bool.and_self, Bool.true_and, Bool.and_true, Bool.false_eq_true, ↓reduceIte, true_and, and_true, decide_true, decide_false, wipeR]
      refine k_take (by omega) (by omega) fun r s' h0 h1 => ?_
      obtain ⟨c, c1, _, hc⟩ := ix_at (z := smS) (r := r) (by decide) h0 h1
      refine ⟨_, hc, cs ++ [c], by simp [sgD, mk], by simp [hl], ?_⟩
      rw [inAll_app, hx, inAll_one c1]
      rfl
    · rintro acc s ⟨cs, rfl, hl, hx⟩
      rw [rng_len] at hl
      exact ⟨_, join_eq (by omega), q cs s hl hx⟩
/-! names -/
structure Nms (xs : List Str) (n : Nat) : Prop where
  len : xs.length = n
  nd : xs.Nodup
  nm : ∀ x ∈ xs, nameB (.str x) = true
theorem name_mk {c : Nat} {l : List Nat} (h : c ∈ grS.cps.toList) (hl : l.length ≤ 7) (hs : inAll l smS = true) : nameB (.str (mk (c :: l))) = true := by
  rw [nameB_str, mk_cps, nameL_cons, decide_eq_true h, decide_eq_true hl]
  exact hs
theorem inAll_take {l : List Nat} {z : Str} (h : inAll l z = true) (n : Nat) : inAll (l.take n) z = true := by
  unfold inAll at *
  rw [List.all_eq_true] at *
  exact fun x hx => h x (List.mem_of_mem_take hx)
theorem cut_to {l : List Nat} (k : Nat) : cutS (mk l) none (some (k : Int)) = mk (l.take k) := by
  apply cpl_inj
  rw [mk_cps]
  unfold cutS
  rw [HT.sIx_none, HT.sIx_nat, mk_len, mk_cps, List.drop_zero, Nat.sub_zero]
  simp only
  by_cases h : k ≤ l.length
  · rw [Nat.min_eq_left h]
  · rw [Nat.min_eq_right (by omega), List.take_length, List.take_of_length_le (by omega)]
theorem nodup_snoc {α : Type} {xs : List α} {a : α} (h : xs.Nodup) (n : a ∉ xs) : (xs ++ [a]).Nodup := by
  rw [List.nodup_append]
  refine ⟨h, by simp, fun x hx y hy => ?_⟩
  rw [List.mem_singleton.mp hy]
  exact fun e => n (e ▸ hx)
theorem gr_nd : grS.cps.toList.Nodup := by decide +kernel
theorem sm_nd : smS.cps.toList.Nodup := by decide +kernel
theorem nth_inj {l : List Nat} (nd : l.Nodup) {i j c : Nat} (hi : l[i]? = some c) (hj : l[j]? = some c) : i = j := by
  obtain ⟨h1, e1⟩ := List.getElem?_eq_some_iff.mp hi
  obtain ⟨h2, e2⟩ := List.getElem?_eq_some_iff.mp hj
  exact (List.getElem_inj nd).mp (e1.trans e2.symm)
theorem ok_names {s : DS} {n : Nat} (h : n ≤ 6) {Q : D → DS → Prop} (q : ∀ xs s', Nms xs n → Q (.list (xs.map .str)) s') : Ok (K_w_names Ftake (K_w_tail Ftake) [hnd 0, .int (n : Nat)] s) Q := by
  unfold K_w_names B_w_names
  refine k_fn (k_seq (k_set ?_))
  simp only [ok_V0, ok_Vs, ok_K, ok_B, ok_U, ok_nil, ok_cons, ok_N, ok_aN, ok_call, ok_nl, ok_fl, ok_afl, ok_T, ok_qNot, ok_qAnd, ok_qOr, ok_and, ok_or, ok_not, ok_if, ok_Sl, ok_oNo, ok_oOf, ok_Ch, ok_it, ok_itA, ok_yes, v_addI, v_sub, v_neg, v_eqI, v_eqS, v_eqB, v_eq0, v_eqT0, v_neI, v_neS, v_neB, v_ne0, v_neT0, v_ltI, v_leI, v_gtI, v_geI, v_is, v_isNot, v_nn, v_ns, v_ni, v_nl, v_nt, v_tb, v_tl, v_tt, v_tn, v_ti, v_asB, v_asI, v_asL, v_asT, v_asS, v_lenL, v_lenT, v_tupL, v_tupT, v_listL, v_listT, v_intB, v_tup0, v_tup1, v_tup2, v_tup3, v_tup4, v_tup5, v_lst0, v_lst1, v_lst2, v_lst3, v_lst4, v_lst5, v_ok0, v_ok1, v_ok2, v_ix0L, v_ix0, v_ix1, v_ix2, v_ix3, v_fs, v_fi, v_fb, v_fn, v_ft, v_f0, v_fc, startR, List.map_cons, List.map_nil, List.length_cons, List.length_nil, List.replicate, List.cons_append, List.nil_append, List.set_cons_zero, List.set_cons_succ, Option.some.injEq, exists_eq_left', Nat.reduceAdd, Nat.reduceSub, Nat.sub_zero, Nat.sub_self, Nat.zero_add, Nat.reduceEqDiff, Bool.not_true, Bool.not_false, if_true, if_false, Bool.and_self, Bool.true_and, Bool.and_true, Bool.false_eq_true, ↓reduceIte, true_and, and_true, decide_true, decide_false, wipeR]
  refine k_seq (k_set ?_)
  simp only [ok_V0, ok_Vs, ok_K, ok_B, ok_U, ok_nil, ok_cons, ok_N, ok_aN, ok_call, ok_nl, ok_fl, ok_afl, ok_T, ok_qNot, ok_qAnd, ok_qOr, ok_and, ok_or, ok_not, ok_if, ok_Sl, ok_oNo, ok_oOf, ok_Ch, ok_it, ok_itA, ok_yes, v_addI, v_sub, v_neg, v_eqI, v_eqS, v_eqB, v_eq0, v_eqT0, v_neI, v_neS, v_neB, v_ne0, v_neT0, v_ltI, v_leI, v_gtI, v_geI, v_is, v_isNot, v_nn, v_ns, v_ni, v_nl, v_nt, v_tb, v_tl, v_tt, v_tn, v_ti, v_asB, v_asI, v_asL, v_asT, v_asS, v_lenL, v_lenT, v_tupL, v_tupT, v_listL, v_listT, v_intB, v_tup0, v_tup1, v_tup2, v_tup3, v_tup4, v_tup5, v_lst0, v_lst1, v_lst2, v_lst3, v_lst4, v_lst5, v_ok0, v_ok1, v_ok2, v_ix0L, v_ix0, v_ix1, v_ix2, v_ix3, v_fs, v_fi, v_fb, v_fn, v_ft, v_f0, v_fc, startR, List.map_cons, List.map_nil, List.length_cons, List.length_nil, List.replicate, List.cons_append, List.nil_append, List.set_cons_zero, List.set_cons_succ, Option.some.injEq, exists_eq_left', Nat.reduceAdd, Nat.reduceSub, Nat.sub_zero, Nat.sub_self, Nat.zero_add, Nat.reduceEqDiff, Bool.not_true, Bool.not_false, if_true, if_false, Bool.and_self, Bool.true_and, Bool.and_true, Bool.false_eq_true, ↓reduceIte, true_and, and_true, decide_true, decide_false, wipeR]
  refine k_take (by omega) (by omega) fun f s1 f0 f1 => ?_
  refine k_seq (k_sIf ?_)
  simp only [ok_V0, ok_Vs, ok_K, ok_B, ok_U, ok_nil, ok_cons, ok_N, ok_aN, ok_call, ok_nl, ok_fl, ok_afl, ok_T, ok_qNot, ok_qAnd, ok_qOr, ok_and, ok_or, ok_not, ok_if, ok_Sl, ok_oNo, ok_oOf, ok_Ch, ok_it, ok_itA, ok_yes, v_addI, v_sub, v_neg, v_eqI, v_eqS, v_eqB, v_eq0, v_eqT0, v_neI, v_neS, v_neB, v_ne0, v_neT0, v_ltI, v_leI, v_gtI, v_geI, v_is, v_isNot, v_nn, v_ns, v_ni, v_nl, v_nt, v_tb, v_tl, v_tt, v_tn, v_ti, v_asB, v_asI, v_asL, v_asT, v_asS, v_lenL, v_lenT, v_tupL, v_tupT, v_listL, v_listT, v_intB, v_tup0, v_tup1, v_tup2, v_tup3, v_tup4, v_tup5, v_lst0, v_lst1, v_lst2, v_lst3, v_lst4, v_lst5, v_ok0, v_ok1, v_ok2, v_ix0L, v_ix0, v_ix1, v_ix2, v_ix3, v_fs, v_fi, v_fb, v_fn, v_ft, v_f0, v_fc, startR, List.map_cons, List.map_nil, List.length_cons, List.length_nil, List.replicate, List.cons_append, List.nil_append, List.set_cons_zero, List.set_cons_succ, Option.some.injEq, exists_eq_left', Nat.reduceAdd, Nat.reduceSub, Nat.sub_zero, Nat.sub_self, Nat.zero_add, Nat.reduceEqDiff, Bool.not_true, Bool.not_false, if_true, if_false, Bool.and_self, Bool.true_and, Bool.and_true, Bool.false_eq_true, ↓reduceIte, true_and, and_true, decide_true, decide_false, wipeR]
  refine k_take (by omega) (by omega) fun w s2 w0 w1 => ?_
  simp only [ok_V0, ok_Vs, ok_K, ok_B, ok_U, ok_nil, ok_cons, ok_N, ok_aN, ok_call, ok_nl, ok_fl, ok_afl, ok_T, ok_qNot, ok_qAnd, ok_qOr, ok_and, ok_or, ok_not, ok_if, ok_Sl, ok_oNo, ok_oOf, ok_Ch, ok_it, ok_itA, ok_yes, v_addI, v_sub, v_neg, v_eqI, v_eqS, v_eqB, v_eq0, v_eqT0, v_neI, v_neS, v_neB, v_ne0, v_neT0, v_ltI, v_leI, v_gtI, v_geI, v_is, v_isNot, v_nn, v_ns, v_ni, v_nl, v_nt, v_tb, v_tl, v_tt, v_tn, v_ti, v_asB, v_asI, v_asL, v_asT, v_asS, v_lenL, v_lenT, v_tupL, v_tupT, v_listL, v_listT, v_intB, v_tup0, v_tup1, v_tup2, v_tup3, v_tup4, v_tup5, v_lst0, v_lst1, v_lst2, v_lst3, v_lst4, v_lst5, v_ok0, v_ok1, v_ok2, v_ix0L, v_ix0, v_ix1, v_ix2, v_ix3, v_fs, v_fi, v_fb, v_fn, v_ft, v_f0, v_fc, startR, List.map_cons, List.map_nil, List.length_cons, List.length_nil, List.replicate, List.cons_append, List.nil_append, List.set_cons_zero, List.set_cons_succ, Option.some.injEq, exists_eq_left', Nat.reduceAdd, Nat.reduceSub, Nat.sub_zero, Nat.sub_self, Nat.zero_add, Nat.reduceEqDiff, Bool.not_true, Bool.not_false, if_true, if_false, Bool.and_self, Bool.true_and, Bool.and_true, Bool.false_eq_true, ↓reduceIte, true_and, and_true, decide_true, decide_false, wipeR]
  by_cases hw : w = 0
  · rw [decide_eq_true hw]
    simp only [ok_V0, ok_Vs, ok_K, ok_B, ok_U, ok_nil, ok_cons, ok_N, ok_aN, ok_call, ok_nl, ok_fl, ok_afl, ok_T, ok_qNot, ok_qAnd, ok_qOr, ok_and, ok_or, ok_not, ok_if, ok_Sl, ok_oNo, ok_oOf, ok_Ch, ok_it, ok_itA, ok_yes, v_addI, v_sub, v_neg, v_eqI, v_eqS, v_eqB, v_eq0, v_eqT0, v_neI, v_neS, v_neB, v_ne0, v_neT0, v_ltI, v_leI, v_gtI, v_geI, v_is, v_isNot, v_nn, v_ns, v_ni, v_nl, v_nt, v_tb, v_tl, v_tt, v_tn, v_ti, v_asB, v_asI, v_asL, v_asT, v_asS, v_lenL, v_lenT, v_tupL, v_tupT, v_listL, v_listT, v_intB, v_tup0, v_tup1, v_tup2, v_tup3, v_tup4, v_tup5, v_lst0, v_lst1, v_lst2, v_lst3, v_lst4, v_lst5, v_ok0, v_ok1, v_ok2, v_ix0L, v_ix0, v_ix1, v_ix2, v_ix3, v_fs, v_fi, v_fb, v_fn, v_ft, v_f0, v_fc, startR, List.map_cons, List.map_nil, List.length_cons, List.length_nil, List.replicate, List.cons_append, List.nil_append, List.set_cons_zero, List.set_cons_succ, Option.some.injEq, exists_eq_left', Nat.reduceAdd, Nat.reduceSub, Nat.sub_zero, Nat.sub_self, Nat.zero_add, Nat.reduceEqDiff, Bool.not_true, Bool.not_false, if_true, if_false, Bool.and_self, Bool.true_and, Bool.and_true, Bool.false_eq_true, ↓reduceIte, true_and, and_true, decide_true, decide_false, wipeR]
    refine k_seq (k_set ?_)
    simp only [ok_V0, ok_Vs, ok_K, ok_B, ok_U, ok_nil, ok_cons, ok_N, ok_aN, ok_call, ok_nl, ok_fl, ok_afl, ok_T, ok_qNot, ok_qAnd, ok_qOr, ok_and, ok_or, ok_not, ok_if, ok_Sl, ok_oNo, ok_oOf, ok_Ch, ok_it, ok_itA, ok_yes, v_addI, v_sub, v_neg, v_eqI, v_eqS, v_eqB, v_eq0, v_eqT0, v_neI, v_neS, v_neB, v_ne0, v_neT0, v_ltI, v_leI, v_gtI, v_geI, v_is, v_isNot, v_nn, v_ns, v_ni, v_nl, v_nt, v_tb, v_tl, v_tt, v_tn, v_ti, v_asB, v_asI, v_asL, v_asT, v_asS, v_lenL, v_lenT, v_tupL, v_tupT, v_listL, v_listT, v_intB, v_tup0, v_tup1, v_tup2, v_tup3, v_tup4, v_tup5, v_lst0, v_lst1, v_lst2, v_lst3, v_lst4, v_lst5, v_ok0, v_ok1, v_ok2, v_ix0L, v_ix0, v_ix1, v_ix2, v_ix3, v_fs, v_fi, v_fb, v_fn, v_ft, v_f0, v_fc, startR, List.map_cons, List.map_nil, List.length_cons, List.length_nil, List.replicate, List.cons_append, List.nil_append, List.set_cons_zero, List.set_cons_succ, Option.some.injEq, exists_eq_left', Nat.reduceAdd, Nat.reduceSub, Nat.sub_zero, Nat.sub_self, Nat.zero_add, Nat.reduceEqDiff, Bool.not_true, Bool.not_false, if_true, if_false, Bool.and_self, Bool.true_and, Bool.and_true, Bool.false_eq_true, ↓reduceIte, true_and, and_true, decide_true, decide_false, wipeR]
    obtain ⟨c, c1, c2, hc⟩ := ix_at (z := grS) (r := f) (by decide) f0 f1
    refine ⟨_, hc, ?_⟩
    refine ok_tail (n := 7) (by omega) fun l s3 hl hs => ?_
    refine ⟨_, v_addS (by rw [mk_len, mk_len, hl]; exact szL (by simp)), ?_⟩
    rw [mk_app]
    refine k_ret ?_
    simp only [ok_V0, ok_Vs, ok_K, ok_B, ok_U, ok_nil, ok_cons, ok_N, ok_aN, ok_call, ok_nl, ok_fl, ok_afl, ok_T, ok_qNot, ok_qAnd, ok_qOr, ok_and, ok_or, ok_not, ok_if, ok_Sl, ok_oNo, ok_oOf, ok_Ch, ok_it, ok_itA, ok_yes, v_addI, v_sub, v_neg, v_eqI, v_eqS, v_eqB, v_eq0, v_eqT0, v_neI, v_neS, v_neB, v_ne0, v_neT0, v_ltI, v_leI, v_gtI, v_geI, v_is, v_isNot, v_nn, v_ns, v_ni, v_nl, v_nt, v_tb, v_tl, v_tt, v_tn, v_ti, v_asB, v_asI, v_asL, v_asT, v_asS, v_lenL, v_lenT, v_tupL, v_tupT, v_listL, v_listT, v_intB, v_tup0, v_tup1, v_tup2, v_tup3, v_tup4, v_tup5, v_lst0, v_lst1, v_lst2, v_lst3, v_lst4, v_lst5, v_ok0, v_ok1, v_ok2, v_ix0L, v_ix0, v_ix1, v_ix2, v_ix3, v_fs, v_fi, v_fb, v_fn, v_ft, v_f0, v_fc, startR, List.map_cons, List.map_nil, List.length_cons, List.length_nil, List.replicate, List.cons_append, List.nil_append, List.set_cons_zero, List.set_cons_succ, Option.some.injEq, exists_eq_left', Nat.reduceAdd, Nat.reduceSub, Nat.sub_zero, Nat.sub_self, Nat.zero_add, Nat.reduceEqDiff, Bool.not_true, Bool.not_false, if_true, if_false, Bool.and_self, Bool.true_and, Bool.and_true, Bool.false_eq_true, ↓reduceIte, true_and, and_true, decide_true, decide_false, wipeR]
    refine k_lcP (fun ds s' => ds = rngD 0 n) ?_ ?_
    · simp only [ok_V0, ok_Vs, ok_K, ok_B, ok_U, ok_nil, ok_cons, ok_N, ok_aN, ok_call, ok_nl, ok_fl, ok_afl, ok_T, ok_qNot, ok_qAnd, ok_qOr, ok_and, ok_or, ok_not, ok_if, ok_Sl, ok_oNo, ok_oOf, ok_Ch, ok_it, ok_itA, ok_yes, v_addI, v_sub, v_neg, v_eqI, v_eqS, v_eqB, v_eq0, v_eqT0, v_neI, v_neS, v_neB, v_ne0, v_neT0, v_ltI, v_leI, v_gtI, v_geI, v_is, v_isNot, v_nn, v_ns, v_ni, v_nl, v_nt, v_tb, v_tl, v_tt, v_tn, v_ti, v_asB, v_asI, v_asL, v_asT, v_asS, v_lenL, v_lenT, v_tupL, v_tupT, v_listL, v_listT, v_intB, v_tup0, v_tup1, v_tup2, v_tup3, v_tup4, v_tup5, v_lst0, v_lst1, v_lst2, v_lst3, v_lst4, v_lst5, v_ok0, v_ok1, v_ok2, v_ix0L, v_ix0, v_ix1, v_ix2, v_ix3, v_fs, v_fi, v_fb, v_fn, v_ft, v_f0, v_fc, startR, List.map_cons, List.map_nil, List.length_cons, List.length_nil, List.replicate, List.cons_append, List.nil_append, List.set_cons_zero, List.set_cons_succ, Option.some.injEq, exists_eq_left', Nat.reduceAdd, Nat.reduceSub, Nat.sub_zero, Nat.sub_self, Nat.zero_add, Nat.reduceEqDiff, Bool.not_true, Bool.not_false, if_true, if_false, Bool.and_self, Bool.true_and, Bool.and_true, Bool.false_eq_true, ↓reduceIte, true_and, and_true, decide_true, decide_false, wipeR]
      rw [pr1 (by omega) (by omega)]
      simp only [ok_V0, ok_Vs, ok_K, ok_B, ok_U, ok_nil, ok_cons, ok_N, ok_aN, ok_call, ok_nl, ok_fl, ok_afl, ok_T, ok_qNot, ok_qAnd, ok_qOr, ok_and, ok_or, ok_not, ok_if, ok_Sl, ok_oNo, ok_oOf, ok_Ch, ok_it, ok_itA, ok_yes, v_addI, v_sub, v_neg, v_eqI, v_eqS, v_eqB, v_eq0, v_eqT0, v_neI, v_neS, v_neB, v_ne0, v_neT0, v_ltI, v_leI, v_gtI, v_geI, v_is, v_isNot, v_nn, v_ns, v_ni, v_nl, v_nt, v_tb, v_tl, v_tt, v_tn, v_ti, v_asB, v_asI, v_asL, v_asT, v_asS, v_lenL, v_lenT, v_tupL, v_tupT, v_listL, v_listT, v_intB, v_tup0, v_tup1, v_tup2, v_tup3, v_tup4, v_tup5, v_lst0, v_lst1, v_lst2, v_lst3, v_lst4, v_lst5, v_ok0, v_ok1, v_ok2, v_ix0L, v_ix0, v_ix1, v_ix2, v_ix3, v_fs, v_fi, v_fb, v_fn, v_ft, v_f0, v_fc, startR, List.map_cons, List.map_nil, List.length_cons, List.length_nil, List.replicate, List.cons_append, List.nil_append, List.set_cons_zero, List.set_cons_succ, Option.some.injEq, exists_eq_left', Nat.reduceAdd, Nat.reduceSub, Nat.sub_zero, Nat.sub_self, Nat.zero_add, Nat.reduceEqDiff, Bool.not_true, Bool.not_false, if_true, if_false, Bool.and_self, Bool.true_and, Bool.and_true, Bool.false_eq_true, ↓reduceIte, true_and, and_true, decide_true, decide_false, wipeR]
      rfl
    · rintro ds s4 rfl
      refine ⟨by rw [rng_len]; exact szL (by omega), fun j acc _ => acc = (List.range j).map fun i => PyData.str (mk (([c] ++ l).take (i + 1))), rfl, ?_, ?_⟩
      · rintro j d acc s5 hd rfl
        obtain ⟨hj, rfl⟩ := rng_get hd
        refine ⟨_, rfl, ?_⟩
        simp only [ok_V0, ok_Vs, ok_K, ok_B, ok_U, ok_nil, ok_cons, ok_N, ok_aN, ok_call, ok_nl, ok_fl, ok_afl, ok_T, ok_qNot, ok_qAnd, ok_qOr, ok_and, ok_or, ok_not, ok_if, ok_Sl, ok_oNo, ok_oOf, ok_Ch, ok_it, ok_itA, ok_yes, v_addI, v_sub, v_neg, v_eqI, v_eqS, v_eqB, v_eq0, v_eqT0, v_neI, v_neS, v_neB, v_ne0, v_neT0, v_ltI, v_leI, v_gtI, v_geI, v_is, v_isNot, v_nn, v_ns, v_ni, v_nl, v_nt, v_tb, v_tl, v_tt, v_tn, v_ti, v_asB, v_asI, v_asL, v_asT, v_asS, v_lenL, v_lenT, v_tupL, v_tupT, v_listL, v_listT, v_intB, v_tup0, v_tup1, v_tup2, v_tup3, v_tup4, v_tup5, v_lst0, v_lst1, v_lst2, v_lst3, v_lst4, v_lst5, v_ok0, v_ok1, v_ok2, v_ix0L, v_ix0, v_ix1, v_ix2, v_ix3, v_fs, v_fi, v_fb, v_fn, v_ft, v_f0, v_fc, startR, List.map_cons, List.map_nil, List.length_cons, List.length_nil, List.replicate, List.cons_append, List.nil_append, List.set_cons_zero, List.set_cons_succ, Option.some.injEq, exists_eq_left', Nat.reduceAdd, Nat.reduceSub, Nat.sub_zero, Nat.sub_self, Nat.zero_add, Nat.reduceEqDiff, Bool.not_true, Bool.not_false, if_true, if_false, Bool.and_self, Bool.true_and, Bool.and_true, Bool.false_eq_true, ↓reduceIte, true_and, and_true, decide_true, decide_false, wipeR]
        rw [v_slS (by rw [mk_len]; exact szL (by simp [hl]))]
        simp only [ok_V0, ok_Vs, ok_K, ok_B, ok_U, ok_nil, ok_cons, ok_N, ok_aN, ok_call, ok_nl, ok_fl, ok_afl, ok_T, ok_qNot, ok_qAnd, ok_qOr, ok_and, ok_or, ok_not, ok_if, ok_Sl, ok_oNo, ok_oOf, ok_Ch, ok_it, ok_itA, ok_yes, v_addI, v_sub, v_neg, v_eqI, v_eqS, v_eqB, v_eq0, v_eqT0, v_neI, v_neS, v_neB, v_ne0, v_neT0, v_ltI, v_leI, v_gtI, v_geI, v_is, v_isNot, v_nn, v_ns, v_ni, v_nl, v_nt, v_tb, v_tl, v_tt, v_tn, v_ti, v_asB, v_asI, v_asL, v_asT, v_asS, v_lenL, v_lenT, v_tupL, v_tupT, v_listL, v_listT, v_intB, v_tup0, v_tup1, v_tup2, v_tup3, v_tup4, v_tup5, v_lst0, v_lst1, v_lst2, v_lst3, v_lst4, v_lst5, v_ok0, v_ok1, v_ok2, v_ix0L, v_ix0, v_ix1, v_ix2, v_ix3, v_fs, v_fi, v_fb, v_fn, v_ft, v_f0, v_fc, startR, List.map_cons, List.map_nil, List.length_cons, List.length_nil, List.replicate, List.cons_append, List.nil_append, List.set_cons_zero, List.set_cons_succ, Option.some.injEq, exists_eq_left', Nat.reduceAdd, Nat.reduceSub, Nat.sub_zero, Nat.sub_self, Nat.zero_add, Nat.reduceEqDiff, Bool.not_true, Bool.not_false, if_true, if_false, Bool.and_self, Bool.true_and, Bool.and_true, Bool.false_eq_true, ↓reduceIte, true_and, and_true, decide_true, decide_false, wipeR]
        rw [show (1 : Int) + (0 + (j : Int)) = ((j + 1 : Nat) : Int) by omega, cut_to, List.range_succ, List.map_append]
        rfl
      · rintro acc s5 rfl
        rw [rng_len]
        have e : ((List.range n).map fun i => PyData.str (mk (([c] ++ l).take (i + 1)))) = ((List.range n).map fun i => mk (([c] ++ l).take (i + 1))).map PyData.str := by rw [List.map_map]; rfl
        rw [e]
        refine q _ _ ⟨by simp, ?_, fun x hx => ?_⟩
        · rw [List.nodup_iff_pairwise_ne, List.pairwise_map]
          refine (List.nodup_iff_pairwise_ne.mp List.nodup_range).imp_of_mem fun {a b} ha hb hab e2 => hab ?_
          have := congrArg Str.length e2
          rw [mk_len, mk_len, List.length_take, List.length_take] at this
          have ha := List.mem_range.mp ha
          have hb := List.mem_range.mp hb
          have hl2 : ([c] ++ l).length = 8 := by simp [hl]
          omega
        · obtain ⟨i, hi, rfl⟩ := List.mem_map.mp hx
          have hi := List.mem_range.mp hi
          show nameB (.str (mk ((c :: l).take (i + 1)))) = true
          rw [List.take_succ_cons]
          refine name_mk c1 ?_ (inAll_take hs i)
          rw [List.length_take]
          omega
  · rw [decide_eq_false hw]
    simp only [ok_V0, ok_Vs, ok_K, ok_B, ok_U, ok_nil, ok_cons, ok_N, ok_aN, ok_call, ok_nl, ok_fl, ok_afl, ok_T, ok_qNot, ok_qAnd, ok_qOr, ok_and, ok_or, ok_not, ok_if, ok_Sl, ok_oNo, ok_oOf, ok_Ch, ok_it, ok_itA, ok_yes, v_addI, v_sub, v_neg, v_eqI, v_eqS, v_eqB, v_eq0, v_eqT0, v_neI, v_neS, v_neB, v_ne0, v_neT0, v_ltI, v_leI, v_gtI, v_geI, v_is, v_isNot, v_nn, v_ns, v_ni, v_nl, v_nt, v_tb, v_tl, v_tt, v_tn, v_ti, v_asB, v_asI, v_asL, v_asT, v_asS, v_lenL, v_lenT, v_tupL, v_tupT, v_listL, v_listT, v_intB, v_tup0, v_tup1, v_tup2, v_tup3, v_tup4, v_tup5, v_lst0, v_lst1, v_lst2, v_lst3, v_lst4, v_lst5, v_ok0, v_ok1, v_ok2, v_ix0L, v_ix0, v_ix1, v_ix2, v_ix3, v_fs, v_fi, v_fb, v_fn, v_ft, v_f0, v_fc, startR, List.map_cons, List.map_nil, List.length_cons, List.length_nil, List.replicate, List.cons_append, List.nil_append, List.set_cons_zero, List.set_cons_succ, Option.some.injEq, exists_eq_left', Nat.reduceAdd, Nat.reduceSub, Nat.sub_zero, Nat.sub_self, Nat.zero_add, Nat.reduceEqDiff, Bool.not_true, Bool.not_false, if_true, if_false, Bool.and_self, Bool.true_and, Bool.and_true, Bool.false_eq_true, ↓reduceIte, true_and, and_true, decide_true, decide_false, wipeR]
    refine k_nx (k_ret ?_)
    simp only [ok_V0, ok_Vs, ok_K, ok_B, ok_U, ok_nil, ok_cons, ok_N, ok_aN, ok_call, ok_nl, ok_fl, ok_afl, ok_T, ok_qNot, ok_qAnd, ok_qOr, ok_and, ok_or, ok_not, ok_if, ok_Sl, ok_oNo, ok_oOf, ok_Ch, ok_it, ok_itA, ok_yes, v_addI, v_sub, v_neg, v_eqI, v_eqS, v_eqB, v_eq0, v_eqT0, v_neI, v_neS, v_neB, v_ne0, v_neT0, v_ltI, v_leI, v_gtI, v_geI, v_is, v_isNot, v_nn, v_ns, v_ni, v_nl, v_nt, v_tb, v_tl, v_tt, v_tn, v_ti, v_asB, v_asI, v_asL, v_asT, v_asS, v_lenL, v_lenT, v_tupL, v_tupT, v_listL, v_listT, v_intB, v_tup0, v_tup1, v_tup2, v_tup3, v_tup4, v_tup5, v_lst0, v_lst1, v_lst2, v_lst3, v_lst4, v_lst5, v_ok0, v_ok1, v_ok2, v_ix0L, v_ix0, v_ix1, v_ix2, v_ix3, v_fs, v_fi, v_fb, v_fn, v_ft, v_f0, v_fc, startR, List.map_cons, List.map_nil, List.length_cons, List.length_nil, List.replicate, List.cons_append, List.nil_append, List.set_cons_zero, List.set_cons_succ, Option.some.injEq, exists_eq_left', Nat.reduceAdd, Nat.reduceSub, Nat.sub_zero, Nat.sub_self, Nat.zero_add, Nat.reduceEqDiff, Bool.not_true, Bool.not_false, if_true, if_false, Bool.and_self, Bool.true_and, Bool.and_true, Bool.false_eq_true, ↓reduceIte, true_and, and_true, decide_true, decide_false, wipeR]
    refine k_lcP (fun ds s' => ds = rngD 0 n) ?_ ?_
    · simp only [ok_V0, ok_Vs, ok_K, ok_B, ok_U, ok_nil, ok_cons, ok_N, ok_aN, ok_call, ok_nl, ok_fl, ok_afl, ok_T, ok_qNot, ok_qAnd, ok_qOr, ok_and, ok_or, ok_not, ok_if, ok_Sl, ok_oNo, ok_oOf, ok_Ch, ok_it, ok_itA, ok_yes, v_addI, v_sub, v_neg, v_eqI, v_eqS, v_eqB, v_eq0, v_eqT0, v_neI, v_neS, v_neB, v_ne0, v_neT0, v_ltI, v_leI, v_gtI, v_geI, v_is, v_isNot, v_nn, v_ns, v_ni, v_nl, v_nt, v_tb, v_tl, v_tt, v_tn, v_ti, v_asB, v_asI, v_asL, v_asT, v_asS, v_lenL, v_lenT, v_tupL, v_tupT, v_listL, v_listT, v_intB, v_tup0, v_tup1, v_tup2, v_tup3, v_tup4, v_tup5, v_lst0, v_lst1, v_lst2, v_lst3, v_lst4, v_lst5, v_ok0, v_ok1, v_ok2, v_ix0L, v_ix0, v_ix1, v_ix2, v_ix3, v_fs, v_fi, v_fb, v_fn, v_ft, v_f0, v_fc, startR, List.map_cons, List.map_nil, List.length_cons, List.length_nil, List.replicate, List.cons_append, List.nil_append, List.set_cons_zero, List.set_cons_succ, Option.some.injEq, exists_eq_left', Nat.reduceAdd, Nat.reduceSub, Nat.sub_zero, Nat.sub_self, Nat.zero_add, Nat.reduceEqDiff, Bool.not_true, Bool.not_false, if_true, if_false, Bool.and_self, Bool.true_and, Bool.and_true, Bool.false_eq_true, ↓reduceIte, true_and, and_true, decide_true, decide_false, wipeR]
      rw [pr1 (by omega) (by omega)]
      simp only [ok_V0, ok_Vs, ok_K, ok_B, ok_U, ok_nil, ok_cons, ok_N, ok_aN, ok_call, ok_nl, ok_fl, ok_afl, ok_T, ok_qNot, ok_qAnd, ok_qOr, ok_and, ok_or, ok_not, ok_if, ok_Sl, ok_oNo, ok_oOf, ok_Ch, ok_it, ok_itA, ok_yes, v_addI, v_sub, v_neg, v_eqI, v_eqS, v_eqB, v_eq0, v_eqT0, v_neI, v_neS, v_neB, v_ne0, v_neT0, v_ltI, v_leI, v_gtI, v_geI, v_is, v_isNot, v_nn, v_ns, v_ni, v_nl, v_nt, v_tb, v_tl, v_tt, v_tn, v_ti, v_asB, v_asI, v_asL, v_asT, v_asS, v_lenL, v_lenT, v_tupL, v_tupT, v_listL, v_listT, v_intB, v_tup0, v_tup1, v_tup2, v_tup3, v_tup4, v_tup5, v_lst0, v_lst1, v_lst2, v_lst3, v_lst4, v_lst5, v_ok0, v_ok1, v_ok2, v_ix0L, v_ix0, v_ix1, v_ix2, v_ix3, v_fs, v_fi, v_fb, v_fn, v_ft, v_f0, v_fc, startR, List.map_cons, List.map_nil, List.length_cons, List.length_nil, List.replicate, List.cons_append, List.nil_append, List.set_cons_zero, List.set_cons_succ, Option.some.injEq, exists_eq_left', Nat.reduceAdd, Nat.reduceSub, Nat.sub_zero, Nat.sub_self, Nat.zero_add, Nat.reduceEqDiff, Bool.not_true, Bool.not_false, if_true, if_false, Bool.and_self, Bool.true_and, Bool.and_true, Bool.false_eq_true, ↓reduceIte, true_and, and_true, decide_true, decide_false, wipeR]
      rfl
    · rintro ds s4 rfl
      refine ⟨by rw [rng_len]; exact szL (by omega), fun j acc _ => ∃ xs : List Str, acc = xs.map PyData.str ∧ xs.length = j ∧ (∀ x ∈ xs, nameB (.str x) = true) ∧ xs.Nodup ∧ ∀ x ∈ xs, ∃ i c l, i < j ∧ x = mk (c :: l) ∧ grS.cps.toList[(f.toNat + i) % 26]? = some c, ⟨[], rfl, rfl, by simp, List.nodup_nil, by simp⟩, ?_, ?_⟩
      · rintro j d acc s5 hd ⟨xs, rfl, hl, hn, nd, hx⟩
        obtain ⟨hj, rfl⟩ := rng_get hd
        refine ⟨_, rfl, ?_⟩
        simp only [ok_V0, ok_Vs, ok_K, ok_B, ok_U, ok_nil, ok_cons, ok_N, ok_aN, ok_call, ok_nl, ok_fl, ok_afl, ok_T, ok_qNot, ok_qAnd, ok_qOr, ok_and, ok_or, ok_not, ok_if, ok_Sl, ok_oNo, ok_oOf, ok_Ch, ok_it, ok_itA, ok_yes, v_addI, v_sub, v_neg, v_eqI, v_eqS, v_eqB, v_eq0, v_eqT0, v_neI, v_neS, v_neB, v_ne0, v_neT0, v_ltI, v_leI, v_gtI, v_geI, v_is, v_isNot, v_nn, v_ns, v_ni, v_nl, v_nt, v_tb, v_tl, v_tt, v_tn, v_ti, v_asB, v_asI, v_asL, v_asT, v_asS, v_lenL, v_lenT, v_tupL, v_tupT, v_listL, v_listT, v_intB, v_tup0, v_tup1, v_tup2, v_tup3, v_tup4, v_tup5, v_lst0, v_lst1, v_lst2, v_lst3, v_lst4, v_lst5, v_ok0, v_ok1, v_ok2, v_ix0L, v_ix0, v_ix1, v_ix2, v_ix3, v_fs, v_fi, v_fb, v_fn, v_ft, v_f0, v_fc, startR, List.map_cons, List.map_nil, List.length_cons, List.length_nil, List.replicate, List.cons_append, List.nil_append, List.set_cons_zero, List.set_cons_succ, Option.some.injEq, exists_eq_left', Nat.reduceAdd, Nat.reduceSub, Nat.sub_zero, Nat.sub_self, Nat.zero_add, Nat.reduceEqDiff, Bool.not_true, Bool.not_false, if_true, if_false, Bool.and_self, Bool.true_and, Bool.and_true, Bool.false_eq_true, ↓reduceIte, true_and, and_true, decide_true, decide_false, wipeR]
        rw [v_mod (by decide)]
        simp only [ok_V0, ok_Vs, ok_K, ok_B, ok_U, ok_nil, ok_cons, ok_N, ok_aN, ok_call, ok_nl, ok_fl, ok_afl, ok_T, ok_qNot, ok_qAnd, ok_qOr, ok_and, ok_or, ok_not, ok_if, ok_Sl, ok_oNo, ok_oOf, ok_Ch, ok_it, ok_itA, ok_yes, v_addI, v_sub, v_neg, v_eqI, v_eqS, v_eqB, v_eq0, v_eqT0, v_neI, v_neS, v_neB, v_ne0, v_neT0, v_ltI, v_leI, v_gtI, v_geI, v_is, v_isNot, v_nn, v_ns, v_ni, v_nl, v_nt, v_tb, v_tl, v_tt, v_tn, v_ti, v_asB, v_asI, v_asL, v_asT, v_asS, v_lenL, v_lenT, v_tupL, v_tupT, v_listL, v_listT, v_intB, v_tup0, v_tup1, v_tup2, v_tup3, v_tup4, v_tup5, v_lst0, v_lst1, v_lst2, v_lst3, v_lst4, v_lst5, v_ok0, v_ok1, v_ok2, v_ix0L, v_ix0, v_ix1, v_ix2, v_ix3, v_fs, v_fi, v_fb, v_fn, v_ft, v_f0, v_fc, startR, List.map_cons, List.map_nil, List.length_cons, List.length_nil, List.replicate, List.cons_append, List.nil_append, List.set_cons_zero, List.set_cons_succ, Option.some.injEq, exists_eq_left', Nat.reduceAdd, Nat.reduceSub, Nat.sub_zero, Nat.sub_self, Nat.zero_add, Nat.reduceEqDiff, Bool.not_true, Bool.not_false, if_true, if_false, Bool.and_self, Bool.true_and, Bool.and_true, Bool.false_eq_true, ↓reduceIte, true_and, and_true, decide_true, decide_false, wipeR]
        have hm : (f + (0 + (j : Int))) % 26 = (((f.toNat + j) % 26 : Nat) : Int) := by omega
        rw [hm]
        obtain ⟨c, c1, c2, hc⟩ := ix_at (z := grS) (r := (((f.toNat + j) % 26 : Nat) : Int)) (by decide) (by omega) (by show _ < (26 : Int); omega)
        refine ⟨_, hc, ?_⟩
        refine k_take (by omega) (by omega) fun w2 s6 v0 v1 => ?_
        obtain ⟨w3, rfl⟩ : ∃ k : Nat, w2 = k := ⟨w2.toNat, by omega⟩
        refine ok_tail (n := w3) (by omega) fun l s7 hl7 hs => ?_
        refine ⟨_, v_addS (by rw [mk_len, mk_len, hl7]; exact szL (by simp; omega)), ?_⟩
        rw [mk_app]
        have c3 : grS.cps.toList[(f.toNat + j) % 26]? = some c := by rw [← c2]; congr 1
        refine ⟨xs ++ [mk ([c] ++ l)], by simp, by simp [hl], fun x hx2 => ?_, nodup_snoc nd fun hm => ?_, fun x hx2 => ?_⟩
        · rcases List.mem_append.mp hx2 with hx2 | hx2
          · exact hn x hx2
          · rw [List.mem_singleton.mp hx2]
            exact name_mk (l := l) c1 (by omega) hs
        · obtain ⟨i, c', l', hi, e2, c4⟩ := hx _ hm
          have e3 := congrArg (fun z : Str => z.cps.toList) e2
          simp only [mk_cps] at e3
          have e4 : c = c' := (List.cons.inj e3).1
          subst e4
          have := nth_inj gr_nd c3 c4
          omega
        · rcases List.mem_append.mp hx2 with hx2 | hx2
          · obtain ⟨i, c', l', hi, e2, c4⟩ := hx x hx2
            exact ⟨i, c', l', by omega, e2, c4⟩
          · rw [List.mem_singleton.mp hx2]
            exact ⟨j, c, l, by omega, rfl, c3⟩
      · rintro acc s5 ⟨xs, rfl, hl, hn, nd, hx⟩
        rw [rng_len] at hl
        exact q xs _ ⟨hl, nd, hn⟩
end Lw01
set_option Elab.async false
set_option linter.all false
set_option maxRecDepth 100000
set_option maxHeartbeats 1000000
namespace Lw01
open PySem PySem.Spec L2 Dl Mx Ds
structure Wds (xs : List Str) (n : Nat) : Prop where
  len : xs.length = n
  nd : xs.Nodup
  kd : ∀ x ∈ xs, kindB (.str x) = true
def sec : List Nat → Bool
  | _ :: d :: _ => decide (d ∈ qzS.cps.toList)
  | _ => false
theorem bar_sec : (barW.all fun w => !sec w.cps.toList) = true := by decide +kernel
theorem qz_sm : inAll qzS.cps.toList smS = true := by decide +kernel
theorem kind_mk {c d : Nat} {l : List Nat} (h : c ∈ smS.cps.toList) (hd : d ∈ qzS.cps.toList) (hl : l.length ≤ 6) (hs : inAll l smS = true) : kindB (.str (mk (c :: d :: l))) = true := by
  have hd2 : d ∈ smS.cps.toList := of_decide_eq_true (List.all_eq_true.mp qz_sm d hd)
  have hn : mk (c :: d :: l) ∉ barW := fun z => by
    have := List.all_eq_true.mp bar_sec _ z
    rw [mk_cps] at this
    have e : sec (c :: d :: l) = true := decide_eq_true hd
    rw [e] at this
    cases this
  rw [kindB_str, smallB_str, mk_cps, mk_len, decide_eq_false hn]
  have e1 : inAll (c :: d :: l) smS = true := by
    unfold inAll at *
    rw [List.all_cons, List.all_cons, decide_eq_true h, decide_eq_true hd2, hs]
    rfl
  rw [e1, List.length_cons, List.length_cons, decide_eq_true (show (2 : Int) ≤ ((l.length + 1 + 1 : Nat) : Int) by omega), decide_eq_true (show ((l.length + 1 + 1 : Nat) : Int) ≤ 8 by omega)]
  rfl
theorem ok_words {s : DS} {n : Nat} (h : n ≤ 20) {Q : D → DS → Prop} (q : ∀ xs s', Wds xs n → Q (.list (xs.map .str)) s') : Ok (K_w_words Ftake (K_w_tail Ftake) [hnd 0, .int (n : Nat)] s) Q := by
  unfold K_w_words B_w_words
  refine k_fn (k_seq (k_set ?_))
  simp only [ok_V0, ok_Vs, ok_K, ok_B, ok_U, ok_nil, ok_cons, ok_N, ok_aN, ok_call, ok_nl, ok_fl, ok_afl, ok_T, ok_qNot, ok_qAnd, ok_qOr, ok_and, ok_or, ok_not, ok_if, ok_Sl, ok_oNo, ok_oOf, ok_Ch, ok_it, ok_itA, ok_yes, v_addI, v_sub, v_neg, v_eqI, v_eqS, v_eqB, v_eq0, v_eqT0, v_neI, v_neS, v_neB, v_ne0, v_neT0, v_ltI, v_leI, v_gtI, v_geI, v_is, v_isNot, v_nn, v_ns, v_ni, v_nl, v_nt, v_tb, v_tl, v_tt, v_tn, v_ti, v_asB, v_asI, v_asL, v_asT, v_asS, v_lenL, v_lenT, v_tupL, v_tupT, v_listL, v_listT, v_intB, v_tup0, v_tup1, v_tup2, v_tup3, v_tup4, v_tup5, v_lst0, v_lst1, v_lst2, v_lst3, v_lst4, v_lst5, v_ok0, v_ok1, v_ok2, v_ix0L, v_ix0, v_ix1, v_ix2, v_ix3, v_fs, v_fi, v_fb, v_fn, v_ft, v_f0, v_fc, startR, List.map_cons, List.map_nil, List.length_cons, List.length_nil, List.replicate, List.cons_append, List.nil_append, List.set_cons_zero, List.set_cons_succ, Option.some.injEq, exists_eq_left', Nat.reduceAdd, Nat.reduceSub, Nat.sub_zero, Nat.sub_self, Nat.zero_add, Nat.reduceEqDiff, Bool.not_true, Bool.not_false, if_true, if_false, Bool.and_self, Bool.true_and, Bool.and_true, Bool.false_eq_true, ↓reduceIte, true_and, and_true, decide_true, decide_false, wipeR]
  refine k_seq (k_set ?_)
  simp only [ok_V0, ok_Vs, ok_K, ok_B, ok_U, ok_nil, ok_cons, ok_N, ok_aN, ok_call, ok_nl, ok_fl, ok_afl, ok_T, ok_qNot, ok_qAnd, ok_qOr, ok_and, ok_or, ok_not, ok_if, ok_Sl, ok_oNo, ok_oOf, ok_Ch, ok_it, ok_itA, ok_yes, v_addI, v_sub, v_neg, v_eqI, v_eqS, v_eqB, v_eq0, v_eqT0, v_neI, v_neS, v_neB, v_ne0, v_neT0, v_ltI, v_leI, v_gtI, v_geI, v_is, v_isNot, v_nn, v_ns, v_ni, v_nl, v_nt, v_tb, v_tl, v_tt, v_tn, v_ti, v_asB, v_asI, v_asL, v_asT, v_asS, v_lenL, v_lenT, v_tupL, v_tupT, v_listL, v_listT, v_intB, v_tup0, v_tup1, v_tup2, v_tup3, v_tup4, v_tup5, v_lst0, v_lst1, v_lst2, v_lst3, v_lst4, v_lst5, v_ok0, v_ok1, v_ok2, v_ix0L, v_ix0, v_ix1, v_ix2, v_ix3, v_fs, v_fi, v_fb, v_fn, v_ft, v_f0, v_fc, startR, List.map_cons, List.map_nil, List.length_cons, List.length_nil, List.replicate, List.cons_append, List.nil_append, List.set_cons_zero, List.set_cons_succ, Option.some.injEq, exists_eq_left', Nat.reduceAdd, Nat.reduceSub, Nat.sub_zero, Nat.sub_self, Nat.zero_add, Nat.reduceEqDiff, Bool.not_true, Bool.not_false, if_true, if_false, Bool.and_self, Bool.true_and, Bool.and_true, Bool.false_eq_true, ↓reduceIte, true_and, and_true, decide_true, decide_false, wipeR]
  refine k_take (by omega) (by omega) fun f s1 f0 f1 => ?_
  refine k_seq (k_sIf ?_)
  simp only [ok_V0, ok_Vs, ok_K, ok_B, ok_U, ok_nil, ok_cons, ok_N, ok_aN, ok_call, ok_nl, ok_fl, ok_afl, ok_T, ok_qNot, ok_qAnd, ok_qOr, ok_and, ok_or, ok_not, ok_if, ok_Sl, ok_oNo, ok_oOf, ok_Ch, ok_it, ok_itA, ok_yes, v_addI, v_sub, v_neg, v_eqI, v_eqS, v_eqB, v_eq0, v_eqT0, v_neI, v_neS, v_neB, v_ne0, v_neT0, v_ltI, v_leI, v_gtI, v_geI, v_is, v_isNot, v_nn, v_ns, v_ni, v_nl, v_nt, v_tb, v_tl, v_tt, v_tn, v_ti, v_asB, v_asI, v_asL, v_asT, v_asS, v_lenL, v_lenT, v_tupL, v_tupT, v_listL, v_listT, v_intB, v_tup0, v_tup1, v_tup2, v_tup3, v_tup4, v_tup5, v_lst0, v_lst1, v_lst2, v_lst3, v_lst4, v_lst5, v_ok0, v_ok1, v_ok2, v_ix0L, v_ix0, v_ix1, v_ix2, v_ix3, v_fs, v_fi, v_fb, v_fn, v_ft, v_f0, v_fc, startR, List.map_cons, List.map_nil, List.length_cons, List.length_nil, List.replicate, List.cons_append, List.nil_append, List.set_cons_zero, List.set_cons_succ, Option.some.injEq, exists_eq_left', Nat.reduceAdd, Nat.reduceSub, Nat.sub_zero, Nat.sub_self, Nat.zero_add, Nat.reduceEqDiff, Bool.not_true, Bool.not_false, if_true, if_false, Bool.and_self, Bool.true_and, Bool.and_true, Bool.false_eq_true, ↓reduceIte, true_and, and_true, decide_true, decide_false, wipeR]
  refine k_take (by omega) (by omega) fun w s2 w0 w1 => ?_
  simp only [ok_V0, ok_Vs, ok_K, ok_B, ok_U, ok_nil, ok_cons, ok_N, ok_aN, ok_call, ok_nl, ok_fl, ok_afl, ok_T, ok_qNot, ok_qAnd, ok_qOr, ok_and, ok_or, ok_not, ok_if, ok_Sl, ok_oNo, ok_oOf, ok_Ch, ok_it, ok_itA, ok_yes, v_addI, v_sub, v_neg, v_eqI, v_eqS, v_eqB, v_eq0, v_eqT0, v_neI, v_neS, v_neB, v_ne0, v_neT0, v_ltI, v_leI, v_gtI, v_geI, v_is, v_isNot, v_nn, v_ns, v_ni, v_nl, v_nt, v_tb, v_tl, v_tt, v_tn, v_ti, v_asB, v_asI, v_asL, v_asT, v_asS, v_lenL, v_lenT, v_tupL, v_tupT, v_listL, v_listT, v_intB, v_tup0, v_tup1, v_tup2, v_tup3, v_tup4, v_tup5, v_lst0, v_lst1, v_lst2, v_lst3, v_lst4, v_lst5, v_ok0, v_ok1, v_ok2, v_ix0L, v_ix0, v_ix1, v_ix2, v_ix3, v_fs, v_fi, v_fb, v_fn, v_ft, v_f0, v_fc, startR, List.map_cons, List.map_nil, List.length_cons, List.length_nil, List.replicate, List.cons_append, List.nil_append, List.set_cons_zero, List.set_cons_succ, Option.some.injEq, exists_eq_left', Nat.reduceAdd, Nat.reduceSub, Nat.sub_zero, Nat.sub_self, Nat.zero_add, Nat.reduceEqDiff, Bool.not_true, Bool.not_false, if_true, if_false, Bool.and_self, Bool.true_and, Bool.and_true, Bool.false_eq_true, ↓reduceIte, true_and, and_true, decide_true, decide_false, wipeR]
  have second : ∀ s3 : DS, Ok (sSeq (sOwn 5 (aN lenOk aNil)) (sSeq (sFor (iOfA pR1 (aCons (cVar 1) aNil)) (gNm 6) (sApp 5 (cB pAdd (cB pAdd (cB pIx (cVar 2) (cB pMod (cB pAdd (cVar 3) (cVar 6)) (cK (.int 26)))) (cB pIx (cK (.str "qzkj")) (cCall 2 Ftake (aCons (cVar 0) (aCons (cK (.int 4)) aNil))))) (cCall 2 (K_w_tail Ftake) (aCons (cVar 0) (aCons (cCall 2 Ftake (aCons (cVar 0) (aCons (cK (.int 7)) aNil))) aNil)))))) (sRet (cVar 5)))
      [some (hnd 0), some (.int (n : Nat)), some (.str smS), some (.int f), none, none, none] s3) fun r s => match r with | .rt d => Q d s | .nx _ => Q .none s | _ => False := fun s3 => by
    refine k_seq (k_own ?_)
    simp only [ok_V0, ok_Vs, ok_K, ok_B, ok_U, ok_nil, ok_cons, ok_N, ok_aN, ok_call, ok_nl, ok_fl, ok_afl, ok_T, ok_qNot, ok_qAnd, ok_qOr, ok_and, ok_or, ok_not, ok_if, ok_Sl, ok_oNo, ok_oOf, ok_Ch, ok_it, ok_itA, ok_yes, v_addI, v_sub, v_neg, v_eqI, v_eqS, v_eqB, v_eq0, v_eqT0, v_neI, v_neS, v_neB, v_ne0, v_neT0, v_ltI, v_leI, v_gtI, v_geI, v_is, v_isNot, v_nn, v_ns, v_ni, v_nl, v_nt, v_tb, v_tl, v_tt, v_tn, v_ti, v_asB, v_asI, v_asL, v_asT, v_asS, v_lenL, v_lenT, v_tupL, v_tupT, v_listL, v_listT, v_intB, v_tup0, v_tup1, v_tup2, v_tup3, v_tup4, v_tup5, v_lst0, v_lst1, v_lst2, v_lst3, v_lst4, v_lst5, v_ok0, v_ok1, v_ok2, v_ix0L, v_ix0, v_ix1, v_ix2, v_ix3, v_fs, v_fi, v_fb, v_fn, v_ft, v_f0, v_fc, startR, List.map_cons, List.map_nil, List.length_cons, List.length_nil, List.replicate, List.cons_append, List.nil_append, List.set_cons_zero, List.set_cons_succ, Option.some.injEq, exists_eq_left', Nat.reduceAdd, Nat.reduceSub, Nat.sub_zero, Nat.sub_self, Nat.zero_add, Nat.reduceEqDiff, Bool.not_true, Bool.not_false, if_true, if_false, Bool.and_self, Bool.true_and, Bool.and_true, Bool.false_eq_true, ↓reduceIte, true_and, and_true, decide_true, decide_false, wipeR]
    refine k_seq (k_forP (fun ds s' => ds = rngD 0 n) ?_ ?_)
    · simp only [ok_V0, ok_Vs, ok_K, ok_B, ok_U, ok_nil, ok_cons, ok_N, ok_aN, ok_call, ok_nl, ok_fl, ok_afl, ok_T, ok_qNot, ok_qAnd, ok_qOr, ok_and, ok_or, ok_not, ok_if, ok_Sl, ok_oNo, ok_oOf, ok_Ch, ok_it, ok_itA, ok_yes, v_addI, v_sub, v_neg, v_eqI, v_eqS, v_eqB, v_eq0, v_eqT0, v_neI, v_neS, v_neB, v_ne0, v_neT0, v_ltI, v_leI, v_gtI, v_geI, v_is, v_isNot, v_nn, v_ns, v_ni, v_nl, v_nt, v_tb, v_tl, v_tt, v_tn, v_ti, v_asB, v_asI, v_asL, v_asT, v_asS, v_lenL, v_lenT, v_tupL, v_tupT, v_listL, v_listT, v_intB, v_tup0, v_tup1, v_tup2, v_tup3, v_tup4, v_tup5, v_lst0, v_lst1, v_lst2, v_lst3, v_lst4, v_lst5, v_ok0, v_ok1, v_ok2, v_ix0L, v_ix0, v_ix1, v_ix2, v_ix3, v_fs, v_fi, v_fb, v_fn, v_ft, v_f0, v_fc, startR, List.map_cons, List.map_nil, List.length_cons, List.length_nil, List.replicate, List.cons_append, List.nil_append, List.set_cons_zero, List.set_cons_succ, Option.some.injEq, exists_eq_left', Nat.reduceAdd, Nat.reduceSub, Nat.sub_zero, Nat.sub_self, Nat.zero_add, Nat.reduceEqDiff, Bool.not_true, Bool.not_false, if_true, if_false, Bool.and_self, Bool.true_and, Bool.and_true, Bool.false_eq_true, ↓reduceIte, true_and, and_true, decide_true, decide_false, wipeR]
      rw [pr1 (by omega) (by omega)]
      simp only [ok_V0, ok_Vs, ok_K, ok_B, ok_U, ok_nil, ok_cons, ok_N, ok_aN, ok_call, ok_nl, ok_fl, ok_afl, ok_T, ok_qNot, ok_qAnd, ok_qOr, ok_and, ok_or, ok_not, ok_if, ok_Sl, ok_oNo, ok_oOf, ok_Ch, ok_it, ok_itA, ok_yes, v_addI, v_sub, v_neg, v_eqI, v_eqS, v_eqB, v_eq0, v_eqT0, v_neI, v_neS, v_neB, v_ne0, v_neT0, v_ltI, v_leI, v_gtI, v_geI, v_is, v_isNot, v_nn, v_ns, v_ni, v_nl, v_nt, v_tb, v_tl, v_tt, v_tn, v_ti, v_asB, v_asI, v_asL, v_asT, v_asS, v_lenL, v_lenT, v_tupL, v_tupT, v_listL, v_listT, v_intB, v_tup0, v_tup1, v_tup2, v_tup3, v_tup4, v_tup5, v_lst0, v_lst1, v_lst2, v_lst3, v_lst4, v_lst5, v_ok0, v_ok1, v_ok2, v_ix0L, v_ix0, v_ix1, v_ix2, v_ix3, v_fs, v_fi, v_fb, v_fn, v_ft, v_f0, v_fc, startR, List.map_cons, List.map_nil, List.length_cons, List.length_nil, List.replicate, List.cons_append, List.nil_append, List.set_cons_zero, List.set_cons_succ, Option.some.injEq, exists_eq_left', Nat.reduceAdd, Nat.reduceSub, Nat.sub_zero, Nat.sub_self, Nat.zero_add, Nat.reduceEqDiff, Bool.not_true, Bool.not_false, if_true, if_false, Bool.and_self, Bool.true_and, Bool.and_true, Bool.false_eq_true, ↓reduceIte, true_and, and_true, decide_true, decide_false, wipeR]
      rfl
    · rintro ds s4 rfl
      refine ⟨fun j ρ _ => ∃ (xs : List Str) (o : Option D), ρ = [some (hnd 0), some (.int (n : Nat)), some (.str smS), some (.int f), none, some (.list (xs.map PyData.str)), o] ∧ xs.length = j ∧ (∀ x ∈ xs, kindB (.str x) = true) ∧ xs.Nodup ∧ ∀ x ∈ xs, ∃ i c l, i < j ∧ x = mk (c :: l) ∧ smS.cps.toList[(f.toNat + i) % 26]? = some c, ⟨[], none, rfl, rfl, by simp, List.nodup_nil, by simp⟩, ?_, ?_⟩
      · rintro j d ρ s5 hd ⟨xs, o, rfl, hl, hn, nd, hx⟩
        obtain ⟨hj, rfl⟩ := rng_get hd
        refine ⟨_, rfl, ?_⟩
        refine k_app (ds := xs.map PyData.str) rfl (by rw [List.length_map]; exact szl (by omega)) ?_
        simp only [ok_V0, ok_Vs, ok_K, ok_B, ok_U, ok_nil, ok_cons, ok_N, ok_aN, ok_call, ok_nl, ok_fl, ok_afl, ok_T, ok_qNot, ok_qAnd, ok_qOr, ok_and, ok_or, ok_not, ok_if, ok_Sl, ok_oNo, ok_oOf, ok_Ch, ok_it, ok_itA, ok_yes, v_addI, v_sub, v_neg, v_eqI, v_eqS, v_eqB, v_eq0, v_eqT0, v_neI, v_neS, v_neB, v_ne0, v_neT0, v_ltI, v_leI, v_gtI, v_geI, v_is, v_isNot, v_nn, v_ns, v_ni, v_nl, v_nt, v_tb, v_tl, v_tt, v_tn, v_ti, v_asB, v_asI, v_asL, v_asT, v_asS, v_lenL, v_lenT, v_tupL, v_tupT, v_listL, v_listT, v_intB, v_tup0, v_tup1, v_tup2, v_tup3, v_tup4, v_tup5, v_lst0, v_lst1, v_lst2, v_lst3, v_lst4, v_lst5, v_ok0, v_ok1, v_ok2, v_ix0L, v_ix0, v_ix1, v_ix2, v_ix3, v_fs, v_fi, v_fb, v_fn, v_ft, v_f0, v_fc, startR, List.map_cons, List.map_nil, List.length_cons, List.length_nil, List.replicate, List.cons_append, List.nil_append, List.set_cons_zero, List.set_cons_succ, Option.some.injEq, exists_eq_left', Nat.reduceAdd, Nat.reduceSub, Nat.sub_zero, Nat.sub_self, Nat.zero_add, Nat.reduceEqDiff, Bool.not_true, Bool.not_false, if_true, if_false, Bool.and_self, Bool.true_and, Bool.and_true, Bool.false_eq_true, ↓reduceIte, true_and, and_true, decide_true, decide_false, wipeR]
        rw [v_mod (by decide)]
        simp only [ok_V0, ok_Vs, ok_K, ok_B, ok_U, ok_nil, ok_cons, ok_N, ok_aN, ok_call, ok_nl, ok_fl, ok_afl, ok_T, ok_qNot, ok_qAnd, ok_qOr, ok_and, ok_or, ok_not, ok_if, ok_Sl, ok_oNo, ok_oOf, ok_Ch, ok_it, ok_itA, ok_yes, v_addI, v_sub, v_neg, v_eqI, v_eqS, v_eqB, v_eq0, v_eqT0, v_neI, v_neS, v_neB, v_ne0, v_neT0, v_ltI, v_leI, v_gtI, v_geI, v_is, v_isNot, v_nn, v_ns, v_ni, v_nl, v_nt, v_tb, v_tl, v_tt, v_tn, v_ti, v_asB, v_asI, v_asL, v_asT, v_asS, v_lenL, v_lenT, v_tupL, v_tupT, v_listL, v_listT, v_intB, v_tup0, v_tup1, v_tup2, v_tup3, v_tup4, v_tup5, v_lst0, v_lst1, v_lst2, v_lst3, v_lst4, v_lst5, v_ok0, v_ok1, v_ok2, v_ix0L, v_ix0, v_ix1, v_ix2, v_ix3, v_fs, v_fi, v_fb, v_fn, v_ft, v_f0, v_fc, startR, List.map_cons, List.map_nil, List.length_cons, List.length_nil, List.replicate, List.cons_append, List.nil_append, List.set_cons_zero, List.set_cons_succ, Option.some.injEq, exists_eq_left', Nat.reduceAdd, Nat.reduceSub, Nat.sub_zero, Nat.sub_self, Nat.zero_add, Nat.reduceEqDiff, Bool.not_true, Bool.not_false, if_true, if_false, Bool.and_self, Bool.true_and, Bool.and_true, Bool.false_eq_true, ↓reduceIte, true_and, and_true, decide_true, decide_false, wipeR]
        have hm : (f + (0 + (j : Int))) % 26 = (((f.toNat + j) % 26 : Nat) : Int) := by omega
        rw [hm]
        obtain ⟨c, c1, c2, hc⟩ := ix_at (z := smS) (r := (((f.toNat + j) % 26 : Nat) : Int)) (by decide) (by omega) (by show _ < (26 : Int); omega)
        refine ⟨_, hc, ?_⟩
        refine k_take (by omega) (by omega) fun w4 s6 u0 u1 => ?_
        obtain ⟨d, d1, d2, hd2⟩ := ix_at (z := qzS) (r := w4) (by decide) u0 u1
        refine ⟨_, hd2, ?_⟩
        refine ⟨_, v_addS (by rw [mk_len, mk_len]; exact szL (by simp)), ?_⟩
        rw [mk_app]
        refine k_take (by omega) (by omega) fun w2 s6 v0 v1 => ?_
        obtain ⟨w3, rfl⟩ : ∃ k : Nat, w2 = k := ⟨w2.toNat, by omega⟩
        refine ok_tail (n := w3) (by omega) fun l s7 hl7 hs => ?_
        refine ⟨_, v_addS (by rw [mk_len, mk_len, hl7]; exact szL (by simp; omega)), ?_⟩
        rw [mk_app]
        have c3 : smS.cps.toList[(f.toNat + j) % 26]? = some c := by rw [← c2]; congr 1
        refine ⟨xs ++ [mk ([c] ++ [d] ++ l)], some (.int (0 + (j : Int))), by simp only [List.map_append, List.map_cons, List.map_nil], by simp [hl], fun x hx2 => ?_, nodup_snoc nd fun hm => ?_, fun x hx2 => ?_⟩
        · rcases List.mem_append.mp hx2 with hx2 | hx2
          · exact hn x hx2
          · rw [List.mem_singleton.mp hx2]
            exact kind_mk (l := l) c1 d1 (by omega) hs
        · obtain ⟨i, c', l', hi, e2, c4⟩ := hx _ hm
          have e3 := congrArg (fun z : Str => z.cps.toList) e2
          simp only [mk_cps] at e3
          have e4 : c = c' := (List.cons.inj e3).1
          subst e4
          have := nth_inj sm_nd c3 c4
          omega
        · rcases List.mem_append.mp hx2 with hx2 | hx2
          · obtain ⟨i, c', l', hi, e2, c4⟩ := hx x hx2
            exact ⟨i, c', l', by omega, e2, c4⟩
          · rw [List.mem_singleton.mp hx2]
            exact ⟨j, c, d :: l, by omega, rfl, c3⟩
      · rintro ρ s5 ⟨xs, o, rfl, hl, hn, nd, hx⟩
        rw [rng_len] at hl
        refine k_ret ?_
        simp only [ok_V0, ok_Vs, ok_K, ok_B, ok_U, ok_nil, ok_cons, ok_N, ok_aN, ok_call, ok_nl, ok_fl, ok_afl, ok_T, ok_qNot, ok_qAnd, ok_qOr, ok_and, ok_or, ok_not, ok_if, ok_Sl, ok_oNo, ok_oOf, ok_Ch, ok_it, ok_itA, ok_yes, v_addI, v_sub, v_neg, v_eqI, v_eqS, v_eqB, v_eq0, v_eqT0, v_neI, v_neS, v_neB, v_ne0, v_neT0, v_ltI, v_leI, v_gtI, v_geI, v_is, v_isNot, v_nn, v_ns, v_ni, v_nl, v_nt, v_tb, v_tl, v_tt, v_tn, v_ti, v_asB, v_asI, v_asL, v_asT, v_asS, v_lenL, v_lenT, v_tupL, v_tupT, v_listL, v_listT, v_intB, v_tup0, v_tup1, v_tup2, v_tup3, v_tup4, v_tup5, v_lst0, v_lst1, v_lst2, v_lst3, v_lst4, v_lst5, v_ok0, v_ok1, v_ok2, v_ix0L, v_ix0, v_ix1, v_ix2, v_ix3, v_fs, v_fi, v_fb, v_fn, v_ft, v_f0, v_fc, startR, List.map_cons, List.map_nil, List.length_cons, List.length_nil, List.replicate, List.cons_append, List.nil_append, List.set_cons_zero, List.set_cons_succ, Option.some.injEq, exists_eq_left', Nat.reduceAdd, Nat.reduceSub, Nat.sub_zero, Nat.sub_self, Nat.zero_add, Nat.reduceEqDiff, Bool.not_true, Bool.not_false, if_true, if_false, Bool.and_self, Bool.true_and, Bool.and_true, Bool.false_eq_true, ↓reduceIte, true_and, and_true, decide_true, decide_false, wipeR]
        exact q xs _ ⟨hl, nd, hn⟩
  by_cases hw : w = 0
  · rw [decide_eq_true hw]
    simp only [ok_V0, ok_Vs, ok_K, ok_B, ok_U, ok_nil, ok_cons, ok_N, ok_aN, ok_call, ok_nl, ok_fl, ok_afl, ok_T, ok_qNot, ok_qAnd, ok_qOr, ok_and, ok_or, ok_not, ok_if, ok_Sl, ok_oNo, ok_oOf, ok_Ch, ok_it, ok_itA, ok_yes, v_addI, v_sub, v_neg, v_eqI, v_eqS, v_eqB, v_eq0, v_eqT0, v_neI, v_neS, v_neB, v_ne0, v_neT0, v_ltI, v_leI, v_gtI, v_geI, v_is, v_isNot, v_nn, v_ns, v_ni, v_nl, v_nt, v_tb, v_tl, v_tt, v_tn, v_ti, v_asB, v_asI, v_asL, v_asT, v_asS, v_lenL, v_lenT, v_tupL, v_tupT, v_listL, v_listT, v_intB, v_tup0, v_tup1, v_tup2, v_tup3, v_tup4, v_tup5, v_lst0, v_lst1, v_lst2, v_lst3, v_lst4, v_lst5, v_ok0, v_ok1, v_ok2, v_ix0L, v_ix0, v_ix1, v_ix2, v_ix3, v_fs, v_fi, v_fb, v_fn, v_ft, v_f0, v_fc, startR, List.map_cons, List.map_nil, List.length_cons, List.length_nil, List.replicate, List.cons_append, List.nil_append, List.set_cons_zero, List.set_cons_succ, Option.some.injEq, exists_eq_left', Nat.reduceAdd, Nat.reduceSub, Nat.sub_zero, Nat.sub_self, Nat.zero_add, Nat.reduceEqDiff, Bool.not_true, Bool.not_false, if_true, if_false, Bool.and_self, Bool.true_and, Bool.and_true, Bool.false_eq_true, ↓reduceIte, true_and, and_true, decide_true, decide_false, wipeR]
    by_cases h7 : ((n : Int)) < 7
    · rw [decide_eq_true h7]
      simp only [ok_V0, ok_Vs, ok_K, ok_B, ok_U, ok_nil, ok_cons, ok_N, ok_aN, ok_call, ok_nl, ok_fl, ok_afl, ok_T, ok_qNot, ok_qAnd, ok_qOr, ok_and, ok_or, ok_not, ok_if, ok_Sl, ok_oNo, ok_oOf, ok_Ch, ok_it, ok_itA, ok_yes, v_addI, v_sub, v_neg, v_eqI, v_eqS, v_eqB, v_eq0, v_eqT0, v_neI, v_neS, v_neB, v_ne0, v_neT0, v_ltI, v_leI, v_gtI, v_geI, v_is, v_isNot, v_nn, v_ns, v_ni, v_nl, v_nt, v_tb, v_tl, v_tt, v_tn, v_ti, v_asB, v_asI, v_asL, v_asT, v_asS, v_lenL, v_lenT, v_tupL, v_tupT, v_listL, v_listT, v_intB, v_tup0, v_tup1, v_tup2, v_tup3, v_tup4, v_tup5, v_lst0, v_lst1, v_lst2, v_lst3, v_lst4, v_lst5, v_ok0, v_ok1, v_ok2, v_ix0L, v_ix0, v_ix1, v_ix2, v_ix3, v_fs, v_fi, v_fb, v_fn, v_ft, v_f0, v_fc, startR, List.map_cons, List.map_nil, List.length_cons, List.length_nil, List.replicate, List.cons_append, List.nil_append, List.set_cons_zero, List.set_cons_succ, Option.some.injEq, exists_eq_left', Nat.reduceAdd, Nat.reduceSub, Nat.sub_zero, Nat.sub_self, Nat.zero_add, Nat.reduceEqDiff, Bool.not_true, Bool.not_false, if_true, if_false, Bool.and_self, Bool.true_and, Bool.and_true, Bool.false_eq_true, ↓reduceIte, true_and, and_true, decide_true, decide_false, wipeR]
      refine k_seq (k_set ?_)
      simp only [ok_V0, ok_Vs, ok_K, ok_B, ok_U, ok_nil, ok_cons, ok_N, ok_aN, ok_call, ok_nl, ok_fl, ok_afl, ok_T, ok_qNot, ok_qAnd, ok_qOr, ok_and, ok_or, ok_not, ok_if, ok_Sl, ok_oNo, ok_oOf, ok_Ch, ok_it, ok_itA, ok_yes, v_addI, v_sub, v_neg, v_eqI, v_eqS, v_eqB, v_eq0, v_eqT0, v_neI, v_neS, v_neB, v_ne0, v_neT0, v_ltI, v_leI, v_gtI, v_geI, v_is, v_isNot, v_nn, v_ns, v_ni, v_nl, v_nt, v_tb, v_tl, v_tt, v_tn, v_ti, v_asB, v_asI, v_asL, v_asT, v_asS, v_lenL, v_lenT, v_tupL, v_tupT, v_listL, v_listT, v_intB, v_tup0, v_tup1, v_tup2, v_tup3, v_tup4, v_tup5, v_lst0, v_lst1, v_lst2, v_lst3, v_lst4, v_lst5, v_ok0, v_ok1, v_ok2, v_ix0L, v_ix0, v_ix1, v_ix2, v_ix3, v_fs, v_fi, v_fb, v_fn, v_ft, v_f0, v_fc, startR, List.map_cons, List.map_nil, List.length_cons, List.length_nil, List.replicate, List.cons_append, List.nil_append, List.set_cons_zero, List.set_cons_succ, Option.some.injEq, exists_eq_left', Nat.reduceAdd, Nat.reduceSub, Nat.sub_zero, Nat.sub_self, Nat.zero_add, Nat.reduceEqDiff, Bool.not_true, Bool.not_false, if_true, if_false, Bool.and_self, Bool.true_and, Bool.and_true, Bool.false_eq_true, ↓reduceIte, true_and, and_true, decide_true, decide_false, wipeR]
      obtain ⟨c, c1, c2, hc⟩ := ix_at (z := smS) (r := f) (by decide) f0 f1
      refine ⟨_, hc, ?_⟩
      refine k_take (by omega) (by omega) fun w4 s6 u0 u1 => ?_
      obtain ⟨d, d1, d2, hd2⟩ := ix_at (z := qzS) (r := w4) (by decide) u0 u1
      refine ⟨_, hd2, ?_⟩
      refine ⟨_, v_addS (by rw [mk_len, mk_len]; exact szL (by simp)), ?_⟩
      rw [mk_app]
      refine ok_tail (n := 6) (by omega) fun l s3 hl hs => ?_
      refine ⟨_, v_addS (by rw [mk_len, mk_len, hl]; exact szL (by simp)), ?_⟩
      rw [mk_app]
      refine k_ret ?_
      simp only [ok_V0, ok_Vs, ok_K, ok_B, ok_U, ok_nil, ok_cons, ok_N, ok_aN, ok_call, ok_nl, ok_fl, ok_afl, ok_T, ok_qNot, ok_qAnd, ok_qOr, ok_and, ok_or, ok_not, ok_if, ok_Sl, ok_oNo, ok_oOf, ok_Ch, ok_it, ok_itA, ok_yes, v_addI, v_sub, v_neg, v_eqI, v_eqS, v_eqB, v_eq0, v_eqT0, v_neI, v_neS, v_neB, v_ne0, v_neT0, v_ltI, v_leI, v_gtI, v_geI, v_is, v_isNot, v_nn, v_ns, v_ni, v_nl, v_nt, v_tb, v_tl, v_tt, v_tn, v_ti, v_asB, v_asI, v_asL, v_asT, v_asS, v_lenL, v_lenT, v_tupL, v_tupT, v_listL, v_listT, v_intB, v_tup0, v_tup1, v_tup2, v_tup3, v_tup4, v_tup5, v_lst0, v_lst1, v_lst2, v_lst3, v_lst4, v_lst5, v_ok0, v_ok1, v_ok2, v_ix0L, v_ix0, v_ix1, v_ix2, v_ix3, v_fs, v_fi, v_fb, v_fn, v_ft, v_f0, v_fc, startR, List.map_cons, List.map_nil, List.length_cons, List.length_nil, List.replicate, List.cons_append, List.nil_append, List.set_cons_zero, List.set_cons_succ, Option.some.injEq, exists_eq_left', Nat.reduceAdd, Nat.reduceSub, Nat.sub_zero, Nat.sub_self, Nat.zero_add, Nat.reduceEqDiff, Bool.not_true, Bool.not_false, if_true, if_false, Bool.and_self, Bool.true_and, Bool.and_true, Bool.false_eq_true, ↓reduceIte, true_and, and_true, decide_true, decide_false, wipeR]
      refine k_lcP (fun ds s' => ds = rngD 0 n) ?_ ?_
      · simp only [ok_V0, ok_Vs, ok_K, ok_B, ok_U, ok_nil, ok_cons, ok_N, ok_aN, ok_call, ok_nl, ok_fl, ok_afl, ok_T, ok_qNot, ok_qAnd, ok_qOr, ok_and, ok_or, ok_not, ok_if, ok_Sl, ok_oNo, ok_oOf, ok_Ch, ok_it, ok_itA, ok_yes, v_addI, v_sub, v_neg, v_eqI, v_eqS, v_eqB, v_eq0, v_eqT0, v_neI, v_neS, v_neB, v_ne0, v_neT0, v_ltI, v_leI, v_gtI, v_geI, v_is, v_isNot, v_nn, v_ns, v_ni, v_nl, v_nt, v_tb, v_tl, v_tt, v_tn, v_ti, v_asB, v_asI, v_asL, v_asT, v_asS, v_lenL, v_lenT, v_tupL, v_tupT, v_listL, v_listT, v_intB, v_tup0, v_tup1, v_tup2, v_tup3, v_tup4, v_tup5, v_lst0, v_lst1, v_lst2, v_lst3, v_lst4, v_lst5, v_ok0, v_ok1, v_ok2, v_ix0L, v_ix0, v_ix1, v_ix2, v_ix3, v_fs, v_fi, v_fb, v_fn, v_ft, v_f0, v_fc, startR, List.map_cons, List.map_nil, List.length_cons, List.length_nil, List.replicate, List.cons_append, List.nil_append, List.set_cons_zero, List.set_cons_succ, Option.some.injEq, exists_eq_left', Nat.reduceAdd, Nat.reduceSub, Nat.sub_zero, Nat.sub_self, Nat.zero_add, Nat.reduceEqDiff, Bool.not_true, Bool.not_false, if_true, if_false, Bool.and_self, Bool.true_and, Bool.and_true, Bool.false_eq_true, ↓reduceIte, true_and, and_true, decide_true, decide_false, wipeR]
        rw [pr1 (by omega) (by omega)]
        simp only [ok_V0, ok_Vs, ok_K, ok_B, ok_U, ok_nil, ok_cons, ok_N, ok_aN, ok_call, ok_nl, ok_fl, ok_afl, ok_T, ok_qNot, ok_qAnd, ok_qOr, ok_and, ok_or, ok_not, ok_if, ok_Sl, ok_oNo, ok_oOf, ok_Ch, ok_it, ok_itA, ok_yes, v_addI, v_sub, v_neg, v_eqI, v_eqS, v_eqB, v_eq0, v_eqT0, v_neI, v_neS, v_neB, v_ne0, v_neT0, v_ltI, v_leI, v_gtI, v_geI, v_is, v_isNot, v_nn, v_ns, v_ni, v_nl, v_nt, v_tb, v_tl, v_tt, v_tn, v_ti, v_asB, v_asI, v_asL, v_asT, v_asS, v_lenL, v_lenT, v_tupL, v_tupT, v_listL, v_listT, v_intB, v_tup0, v_tup1, v_tup2, v_tup3, v_tup4, v_tup5, v_lst0, v_lst1, v_lst2, v_lst3, v_lst4, v_lst5, v_ok0, v_ok1, v_ok2, v_ix0L, v_ix0, v_ix1, v_ix2, v_ix3, v_fs, v_fi, v_fb, v_fn, v_ft, v_f0, v_fc, startR, List.map_cons, List.map_nil, List.length_cons, List.length_nil, List.replicate, List.cons_append, List.nil_append, List.set_cons_zero, List.set_cons_succ, Option.some.injEq, exists_eq_left', Nat.reduceAdd, Nat.reduceSub, Nat.sub_zero, Nat.sub_self, Nat.zero_add, Nat.reduceEqDiff, Bool.not_true, Bool.not_false, if_true, if_false, Bool.and_self, Bool.true_and, Bool.and_true, Bool.false_eq_true, ↓reduceIte, true_and, and_true, decide_true, decide_false, wipeR]
        rfl
      · rintro ds s4 rfl
        refine ⟨by rw [rng_len]; exact szL (by omega), fun j acc _ => acc = (List.range j).map fun i => PyData.str (mk (([c] ++ [d] ++ l).take (i + 2))), rfl, ?_, ?_⟩
        · rintro j x acc s5 hx rfl
          obtain ⟨hj, rfl⟩ := rng_get hx
          refine ⟨_, rfl, ?_⟩
          simp only [ok_V0, ok_Vs, ok_K, ok_B, ok_U, ok_nil, ok_cons, ok_N, ok_aN, ok_call, ok_nl, ok_fl, ok_afl, ok_T, ok_qNot, ok_qAnd, ok_qOr, ok_and, ok_or, ok_not, ok_if, ok_Sl, ok_oNo, ok_oOf, ok_Ch, ok_it, ok_itA, ok_yes, v_addI, v_sub, v_neg, v_eqI, v_eqS, v_eqB, v_eq0, v_eqT0, v_neI, v_neS, v_neB, v_ne0, v_neT0, v_ltI, v_leI, v_gtI, v_geI, v_is, v_isNot, v_nn, v_ns, v_ni, v_nl, v_nt, v_tb, v_tl, v_tt, v_tn, v_ti, v_asB, v_asI, v_asL, v_asT, v_asS, v_lenL, v_lenT, v_tupL, v_tupT, v_listL, v_listT, v_intB, v_tup0, v_tup1, v_tup2, v_tup3, v_tup4, v_tup5, v_lst0, v_lst1, v_lst2, v_lst3, v_lst4, v_lst5, v_ok0, v_ok1, v_ok2, v_ix0L, v_ix0, v_ix1, v_ix2, v_ix3, v_fs, v_fi, v_fb, v_fn, v_ft, v_f0, v_fc, startR, List.map_cons, List.map_nil, List.length_cons, List.length_nil, List.replicate, List.cons_append, List.nil_append, List.set_cons_zero, List.set_cons_succ, Option.some.injEq, exists_eq_left', Nat.reduceAdd, Nat.reduceSub, Nat.sub_zero, Nat.sub_self, Nat.zero_add, Nat.reduceEqDiff, Bool.not_true, Bool.not_false, if_true, if_false, Bool.and_self, Bool.true_and, Bool.and_true, Bool.false_eq_true, ↓reduceIte, true_and, and_true, decide_true, decide_false, wipeR]
          rw [v_slS (by rw [mk_len]; exact szL (by simp [hl]))]
          simp only [ok_V0, ok_Vs, ok_K, ok_B, ok_U, ok_nil, ok_cons, ok_N, ok_aN, ok_call, ok_nl, ok_fl, ok_afl, ok_T, ok_qNot, ok_qAnd, ok_qOr, ok_and, ok_or, ok_not, ok_if, ok_Sl, ok_oNo, ok_oOf, ok_Ch, ok_it, ok_itA, ok_yes, v_addI, v_sub, v_neg, v_eqI, v_eqS, v_eqB, v_eq0, v_eqT0, v_neI, v_neS, v_neB, v_ne0, v_neT0, v_ltI, v_leI, v_gtI, v_geI, v_is, v_isNot, v_nn, v_ns, v_ni, v_nl, v_nt, v_tb, v_tl, v_tt, v_tn, v_ti, v_asB, v_asI, v_asL, v_asT, v_asS, v_lenL, v_lenT, v_tupL, v_tupT, v_listL, v_listT, v_intB, v_tup0, v_tup1, v_tup2, v_tup3, v_tup4, v_tup5, v_lst0, v_lst1, v_lst2, v_lst3, v_lst4, v_lst5, v_ok0, v_ok1, v_ok2, v_ix0L, v_ix0, v_ix1, v_ix2, v_ix3, v_fs, v_fi, v_fb, v_fn, v_ft, v_f0, v_fc, startR, List.map_cons, List.map_nil, List.length_cons, List.length_nil, List.replicate, List.cons_append, List.nil_append, List.set_cons_zero, List.set_cons_succ, Option.some.injEq, exists_eq_left', Nat.reduceAdd, Nat.reduceSub, Nat.sub_zero, Nat.sub_self, Nat.zero_add, Nat.reduceEqDiff, Bool.not_true, Bool.not_false, if_true, if_false, Bool.and_self, Bool.true_and, Bool.and_true, Bool.false_eq_true, ↓reduceIte, true_and, and_true, decide_true, decide_false, wipeR]
          rw [show (2 : Int) + (0 + (j : Int)) = ((j + 2 : Nat) : Int) by omega, cut_to, List.range_succ, List.map_append]
          rfl
        · rintro acc s5 rfl
          rw [rng_len]
          have e : ((List.range n).map fun i => PyData.str (mk (([c] ++ [d] ++ l).take (i + 2)))) = ((List.range n).map fun i => mk (([c] ++ [d] ++ l).take (i + 2))).map PyData.str := by rw [List.map_map]; rfl
          rw [e]
          refine q _ _ ⟨by simp, ?_, fun x hx => ?_⟩
          · rw [List.nodup_iff_pairwise_ne, List.pairwise_map]
            refine (List.nodup_iff_pairwise_ne.mp List.nodup_range).imp_of_mem fun {a b} ha hb hab e2 => hab ?_
            have := congrArg Str.length e2
            rw [mk_len, mk_len, List.length_take, List.length_take] at this
            have ha := List.mem_range.mp ha
            have hb := List.mem_range.mp hb
            have hl2 : ([c] ++ [d] ++ l).length = 8 := by simp [hl]
            omega
          · obtain ⟨i, hi, rfl⟩ := List.mem_map.mp hx
            have hi := List.mem_range.mp hi
            show kindB (.str (mk ((c :: d :: l).take (i + 2)))) = true
            rw [List.take_succ_cons, List.take_succ_cons]
            refine kind_mk c1 d1 ?_ (inAll_take hs i)
            rw [List.length_take]
            omega
    · rw [decide_eq_false h7]
      simp only [ok_V0, ok_Vs, ok_K, ok_B, ok_U, ok_nil, ok_cons, ok_N, ok_aN, ok_call, ok_nl, ok_fl, ok_afl, ok_T, ok_qNot, ok_qAnd, ok_qOr, ok_and, ok_or, ok_not, ok_if, ok_Sl, ok_oNo, ok_oOf, ok_Ch, ok_it, ok_itA, ok_yes, v_addI, v_sub, v_neg, v_eqI, v_eqS, v_eqB, v_eq0, v_eqT0, v_neI, v_neS, v_neB, v_ne0, v_neT0, v_ltI, v_leI, v_gtI, v_geI, v_is, v_isNot, v_nn, v_ns, v_ni, v_nl, v_nt, v_tb, v_tl, v_tt, v_tn, v_ti, v_asB, v_asI, v_asL, v_asT, v_asS, v_lenL, v_lenT, v_tupL, v_tupT, v_listL, v_listT, v_intB, v_tup0, v_tup1, v_tup2, v_tup3, v_tup4, v_tup5, v_lst0, v_lst1, v_lst2, v_lst3, v_lst4, v_lst5, v_ok0, v_ok1, v_ok2, v_ix0L, v_ix0, v_ix1, v_ix2, v_ix3, v_fs, v_fi, v_fb, v_fn, v_ft, v_f0, v_fc, startR, List.map_cons, List.map_nil, List.length_cons, List.length_nil, List.replicate, List.cons_append, List.nil_append, List.set_cons_zero, List.set_cons_succ, Option.some.injEq, exists_eq_left', Nat.reduceAdd, Nat.reduceSub, Nat.sub_zero, Nat.sub_self, Nat.zero_add, Nat.reduceEqDiff, Bool.not_true, Bool.not_false, if_true, if_false, Bool.and_self, Bool.true_and, Bool.and_true, Bool.false_eq_true, ↓reduceIte, true_and, and_true, decide_true, decide_false, wipeR]
      exact k_nx (second _)
  · rw [decide_eq_false hw]
    simp only [ok_V0, ok_Vs, ok_K, ok_B, ok_U, ok_nil, ok_cons, ok_N, ok_aN, ok_call, ok_nl, ok_fl, ok_afl, ok_T, ok_qNot, ok_qAnd, ok_qOr, ok_and, ok_or, ok_not, ok_if, ok_Sl, ok_oNo, ok_oOf, ok_Ch, ok_it, ok_itA, ok_yes, v_addI, v_sub, v_neg, v_eqI, v_eqS, v_eqB, v_eq0, v_eqT0, v_neI, v_neS, v_neB, v_ne0, v_neT0, v_ltI, v_leI, v_gtI, v_geI, v_is, v_isNot, v_nn, v_ns, v_ni, v_nl, v_nt, v_tb, v_tl, v_tt, v_tn, v_ti, v_asB, v_asI, v_asL, v_asT, v_asS, v_lenL, v_lenT, v_tupL, v_tupT, v_listL, v_listT, v_intB, v_tup0, v_tup1, v_tup2, v_tup3, v_tup4, v_tup5, v_lst0, v_lst1, v_lst2, v_lst3, v_lst4, v_lst5, v_ok0, v_ok1, v_ok2, v_ix0L, v_ix0, v_ix1, v_ix2, v_ix3, v_fs, v_fi, v_fb, v_fn, v_ft, v_f0, v_fc, startR, List.map_cons, List.map_nil, List.length_cons, List.length_nil, List.replicate, List.cons_append, List.nil_append, List.set_cons_zero, List.set_cons_succ, Option.some.injEq, exists_eq_left', Nat.reduceAdd, Nat.reduceSub, Nat.sub_zero, Nat.sub_self, Nat.zero_add, Nat.reduceEqDiff, Bool.not_true, Bool.not_false, if_true, if_false, Bool.and_self, Bool.true_and, Bool.and_true, Bool.false_eq_true, ↓reduceIte, true_and, and_true, decide_true, decide_false, wipeR]
    exact k_nx (second _)
end Lw01
set_option Elab.async false
set_option linter.all false
set_option maxRecDepth 100000
set_option maxHeartbeats 1000000
namespace Lw01
open PySem PySem.Spec L2 Dl Mx Ds
def vocD (n k d : List Str) : D := .tuple [.tuple (n.map .str), .tuple (k.map .str), .tuple (d.map .str)]
structure Voc (n k d : List Str) : Prop where
  nl : n.length ≤ 6
  kl : k.length ≤ 6
  dl : d.length ≤ 9
  nm : ∀ x ∈ n, nameB (.str x) = true
  kd : ∀ x ∈ k, kindB (.str x) = true
  dd : ∀ x ∈ d, kindB (.str x) = true
  nr : risS n = true
  kr : risS k = true
  dr : risS d = true
  ds : ∀ x ∈ k, x ∉ d
theorem v_sorted {xs : List Str} (h : xs.length < 64) : pSorted [.list (xs.map .str)] = some ((sortS xs).map .str) := by
  unfold pSorted
  simp only
  rw [dStrs_map]
  simp only
  rw [if_pos h]
theorem txt_map (xs : List Str) : (xs.map PyData.str).map txt = xs := by
  rw [List.map_map]
  exact List.map_id' xs
theorem row_of {p : D → Bool} {xs : List Str} (h : ∀ x ∈ xs, p (.str x) = true) (r : risS xs = true) : rowB p (.tuple (xs.map .str)) = true := by
  show ((xs.map PyData.str).all p && risS ((xs.map PyData.str).map txt)) = true
  rw [txt_map, r, Bool.and_true, List.all_map, List.all_eq_true]
  exact h
theorem Voc.voc {n k d : List Str} (v : Voc n k d) : vocB (vocD n k d) = true := by
  show (rowB nameB _ && (rowB kindB _ && (rowB kindB _ && disB _ _))) = true
  rw [row_of v.nm v.nr, row_of v.kd v.kr, row_of v.dd v.dr]
  show (((k.map PyData.str).map txt).all fun x => !decide (x ∈ (d.map PyData.str).map txt)) = true
  rw [txt_map, txt_map, List.all_eq_true]
  intro x hx
  simpa using v.ds x hx
abbrev Fnames : Fn DS := K_w_names Ftake (K_w_tail Ftake)
abbrev Fwords : Fn DS := K_w_words Ftake (K_w_tail Ftake)
abbrev Fvoc : Fn DS := K_w_vocabulary Ftake Fnames Fwords
theorem voc_rest {s : DS} {m0 m1 m2 : Nat} (h0 : m0 ≤ 6) (h1 : m1 ≤ 6) (h2 : m2 ≤ 3) {Q : D → DS → Prop} (q : ∀ n k d s', Voc n k d → Q (vocD n k d) s') :
    Ok (sSeq (sSet 2 (cNl (aN pSorted (aCons (cCall 2 Fnames (aCons (cVar 0) (aCons (cCall 2 Ftake (aCons (cVar 0) (aCons (cB pAdd (cB pIx (cVar 1) (cK (.int 0))) (cK (.int 1))) aNil))) aNil))) aNil))))
    (sSeq (sSet 3 (cCall 2 Ftake (aCons (cVar 0) (aCons (cB pAdd (cB pIx (cVar 1) (cK (.int 1))) (cK (.int 1))) aNil))))
    (sSeq (sSet 4 (cCall 2 Fwords (aCons (cVar 0) (aCons (cB pAdd (cVar 3) (cCall 2 Ftake (aCons (cVar 0) (aCons (cB pAdd (cB pIx (cVar 1) (cK (.int 2))) (cK (.int 1))) aNil)))) aNil))))
    (sSeq (sSet 5 (cCall 2 Ftake (aCons (cVar 0) (aCons (cB pAdd (cN pLen (aCons (cVar 4) aNil)) (cK (.int 1))) aNil))))
    (sSeq (sSet 4 (cB pAdd (cSl pSl (cVar 4) (oOf (cVar 5)) oNo) (cSl pSl (cVar 4) oNo (oOf (cVar 5)))))
    (sRet (cN pTup (aCons (cN pTuple (aCons (cVar 2) aNil)) (aCons (cN pTuple (aCons (cNl (aN pSorted (aCons (cSl pSl (cVar 4) oNo (oOf (cVar 3))) aNil))) aNil)) (aCons (cN pTuple (aCons (cNl (aN pSorted (aCons (cSl pSl (cVar 4) (oOf (cVar 3)) oNo) aNil))) aNil)) aNil))))))))) [some (hnd 0), some (.list [.int (m0 : Nat), .int (m1 : Nat), .int (m2 : Nat)]), none, none, none, none] s) fun r s => match r with | .rt d => Q d s | .nx _ => Q .none s | _ => False := by
  have i1 : pIx (.list [.int (m0 : Nat), .int (m1 : Nat), .int (m2 : Nat)]) (.int 1) = some (.int (m1 : Nat)) := by simp only [pIx]; exact atI_nat (j := 1) rfl
  have i2 : pIx (.list [.int (m0 : Nat), .int (m1 : Nat), .int (m2 : Nat)]) (.int 2) = some (.int (m2 : Nat)) := by simp only [pIx]; exact atI_nat (j := 2) rfl
  refine k_seq (k_set ?_)
  try simp only [ok_V0, ok_Vs, ok_K, ok_B, ok_U, ok_nil, ok_cons, ok_N, ok_aN, ok_call, ok_nl, ok_fl, ok_afl, ok_T, ok_qNot, ok_qAnd, ok_qOr, ok_and, ok_or, ok_not, ok_if, ok_Sl, ok_oNo, ok_oOf, ok_Ch, ok_it, ok_itA, ok_yes, v_addI, v_sub, v_neg, v_eqI, v_eqS, v_eqB, v_eq0, v_eqT0, v_neI, v_neS, v_neB, v_ne0, v_neT0, v_ltI, v_leI, v_gtI, v_geI, v_is, v_isNot, v_nn, v_ns, v_ni, v_nl, v_nt, v_tb, v_tl, v_tt, v_tn, v_ti, v_asB, v_asI, v_asL, v_asT, v_asS, v_lenL, v_lenT, v_tupL, v_tupT, v_listL, v_listT, v_intB, v_tup0, v_tup1, v_tup2, v_tup3, v_tup4, v_tup5, v_lst0, v_lst1, v_lst2, v_lst3, v_lst4, v_lst5, v_ok0, v_ok1, v_ok2, v_ix0L, v_ix0, v_ix1, v_ix2, v_ix3, v_fs, v_fi, v_fb, v_fn, v_ft, v_f0, v_fc, startR, List.map_cons, List.map_nil, List.length_cons, List.length_nil, List.replicate, List.cons_append, List.nil_append, List.set_cons_zero, List.set_cons_succ, Option.some.injEq, exists_eq_left', Nat.reduceAdd, Nat.reduceSub, Nat.sub_zero, Nat.sub_self, Nat.zero_add, Nat.reduceEqDiff, Bool.not_true, Bool.not_false, if_true, if_false, Bool.and_self, Bool.true_and, Bool.and_true, Bool.false_eq_true, ↓reduceIte, true_and, and_true, decide_true, decide_false, wipeR]
  refine k_take (by omega) (by omega) fun a s1 a0 a1 => ?_
  obtain ⟨a, rfl⟩ : ∃ k : Nat, a = k := ⟨a.toNat, by omega⟩
  try simp only [ok_V0, ok_Vs, ok_K, ok_B, ok_U, ok_nil, ok_cons, ok_N, ok_aN, ok_call, ok_nl, ok_fl, ok_afl, ok_T, ok_qNot, ok_qAnd, ok_qOr, ok_and, ok_or, ok_not, ok_if, ok_Sl, ok_oNo, ok_oOf, ok_Ch, ok_it, ok_itA, ok_yes, v_addI, v_sub, v_neg, v_eqI, v_eqS, v_eqB, v_eq0, v_eqT0, v_neI, v_neS, v_neB, v_ne0, v_neT0, v_ltI, v_leI, v_gtI, v_geI, v_is, v_isNot, v_nn, v_ns, v_ni, v_nl, v_nt, v_tb, v_tl, v_tt, v_tn, v_ti, v_asB, v_asI, v_asL, v_asT, v_asS, v_lenL, v_lenT, v_tupL, v_tupT, v_listL, v_listT, v_intB, v_tup0, v_tup1, v_tup2, v_tup3, v_tup4, v_tup5, v_lst0, v_lst1, v_lst2, v_lst3, v_lst4, v_lst5, v_ok0, v_ok1, v_ok2, v_ix0L, v_ix0, v_ix1, v_ix2, v_ix3, v_fs, v_fi, v_fb, v_fn, v_ft, v_f0, v_fc, startR, List.map_cons, List.map_nil, List.length_cons, List.length_nil, List.replicate, List.cons_append, List.nil_append, List.set_cons_zero, List.set_cons_succ, Option.some.injEq, exists_eq_left', Nat.reduceAdd, Nat.reduceSub, Nat.sub_zero, Nat.sub_self, Nat.zero_add, Nat.reduceEqDiff, Bool.not_true, Bool.not_false, if_true, if_false, Bool.and_self, Bool.true_and, Bool.and_true, Bool.false_eq_true, ↓reduceIte, true_and, and_true, decide_true, decide_false, wipeR]
  refine ok_names (n := a) (by omega) fun ns s2 hn => ?_
  try simp only [ok_V0, ok_Vs, ok_K, ok_B, ok_U, ok_nil, ok_cons, ok_N, ok_aN, ok_call, ok_nl, ok_fl, ok_afl, ok_T, ok_qNot, ok_qAnd, ok_qOr, ok_and, ok_or, ok_not, ok_if, ok_Sl, ok_oNo, ok_oOf, ok_Ch, ok_it, ok_itA, ok_yes, v_addI, v_sub, v_neg, v_eqI, v_eqS, v_eqB, v_eq0, v_eqT0, v_neI, v_neS, v_neB, v_ne0, v_neT0, v_ltI, v_leI, v_gtI, v_geI, v_is, v_isNot, v_nn, v_ns, v_ni, v_nl, v_nt, v_tb, v_tl, v_tt, v_tn, v_ti, v_asB, v_asI, v_asL, v_asT, v_asS, v_lenL, v_lenT, v_tupL, v_tupT, v_listL, v_listT, v_intB, v_tup0, v_tup1, v_tup2, v_tup3, v_tup4, v_tup5, v_lst0, v_lst1, v_lst2, v_lst3, v_lst4, v_lst5, v_ok0, v_ok1, v_ok2, v_ix0L, v_ix0, v_ix1, v_ix2, v_ix3, v_fs, v_fi, v_fb, v_fn, v_ft, v_f0, v_fc, startR, List.map_cons, List.map_nil, List.length_cons, List.length_nil, List.replicate, List.cons_append, List.nil_append, List.set_cons_zero, List.set_cons_succ, Option.some.injEq, exists_eq_left', Nat.reduceAdd, Nat.reduceSub, Nat.sub_zero, Nat.sub_self, Nat.zero_add, Nat.reduceEqDiff, Bool.not_true, Bool.not_false, if_true, if_false, Bool.and_self, Bool.true_and, Bool.and_true, Bool.false_eq_true, ↓reduceIte, true_and, and_true, decide_true, decide_false, wipeR]
  rw [v_sorted (by rw [hn.len]; omega)]
  try simp only [ok_V0, ok_Vs, ok_K, ok_B, ok_U, ok_nil, ok_cons, ok_N, ok_aN, ok_call, ok_nl, ok_fl, ok_afl, ok_T, ok_qNot, ok_qAnd, ok_qOr, ok_and, ok_or, ok_not, ok_if, ok_Sl, ok_oNo, ok_oOf, ok_Ch, ok_it, ok_itA, ok_yes, v_addI, v_sub, v_neg, v_eqI, v_eqS, v_eqB, v_eq0, v_eqT0, v_neI, v_neS, v_neB, v_ne0, v_neT0, v_ltI, v_leI, v_gtI, v_geI, v_is, v_isNot, v_nn, v_ns, v_ni, v_nl, v_nt, v_tb, v_tl, v_tt, v_tn, v_ti, v_asB, v_asI, v_asL, v_asT, v_asS, v_lenL, v_lenT, v_tupL, v_tupT, v_listL, v_listT, v_intB, v_tup0, v_tup1, v_tup2, v_tup3, v_tup4, v_tup5, v_lst0, v_lst1, v_lst2, v_lst3, v_lst4, v_lst5, v_ok0, v_ok1, v_ok2, v_ix0L, v_ix0, v_ix1, v_ix2, v_ix3, v_fs, v_fi, v_fb, v_fn, v_ft, v_f0, v_fc, startR, List.map_cons, List.map_nil, List.length_cons, List.length_nil, List.replicate, List.cons_append, List.nil_append, List.set_cons_zero, List.set_cons_succ, Option.some.injEq, exists_eq_left', Nat.reduceAdd, Nat.reduceSub, Nat.sub_zero, Nat.sub_self, Nat.zero_add, Nat.reduceEqDiff, Bool.not_true, Bool.not_false, if_true, if_false, Bool.and_self, Bool.true_and, Bool.and_true, Bool.false_eq_true, ↓reduceIte, true_and, and_true, decide_true, decide_false, wipeR]
  refine k_seq (k_set ?_)
  try simp only [ok_V0, ok_Vs, ok_K, ok_B, ok_U, ok_nil, ok_cons, ok_N, ok_aN, ok_call, ok_nl, ok_fl, ok_afl, ok_T, ok_qNot, ok_qAnd, ok_qOr, ok_and, ok_or, ok_not, ok_if, ok_Sl, ok_oNo, ok_oOf, ok_Ch, ok_it, ok_itA, ok_yes, v_addI, v_sub, v_neg, v_eqI, v_eqS, v_eqB, v_eq0, v_eqT0, v_neI, v_neS, v_neB, v_ne0, v_neT0, v_ltI, v_leI, v_gtI, v_geI, v_is, v_isNot, v_nn, v_ns, v_ni, v_nl, v_nt, v_tb, v_tl, v_tt, v_tn, v_ti, v_asB, v_asI, v_asL, v_asT, v_asS, v_lenL, v_lenT, v_tupL, v_tupT, v_listL, v_listT, v_intB, v_tup0, v_tup1, v_tup2, v_tup3, v_tup4, v_tup5, v_lst0, v_lst1, v_lst2, v_lst3, v_lst4, v_lst5, v_ok0, v_ok1, v_ok2, v_ix0L, v_ix0, v_ix1, v_ix2, v_ix3, v_fs, v_fi, v_fb, v_fn, v_ft, v_f0, v_fc, startR, List.map_cons, List.map_nil, List.length_cons, List.length_nil, List.replicate, List.cons_append, List.nil_append, List.set_cons_zero, List.set_cons_succ, Option.some.injEq, exists_eq_left', Nat.reduceAdd, Nat.reduceSub, Nat.sub_zero, Nat.sub_self, Nat.zero_add, Nat.reduceEqDiff, Bool.not_true, Bool.not_false, if_true, if_false, Bool.and_self, Bool.true_and, Bool.and_true, Bool.false_eq_true, ↓reduceIte, true_and, and_true, decide_true, decide_false, wipeR, i1]
  refine k_take (by omega) (by omega) fun b s3 b0 b1 => ?_
  obtain ⟨b, rfl⟩ : ∃ k : Nat, b = k := ⟨b.toNat, by omega⟩
  refine k_seq (k_set ?_)
  try simp only [ok_V0, ok_Vs, ok_K, ok_B, ok_U, ok_nil, ok_cons, ok_N, ok_aN, ok_call, ok_nl, ok_fl, ok_afl, ok_T, ok_qNot, ok_qAnd, ok_qOr, ok_and, ok_or, ok_not, ok_if, ok_Sl, ok_oNo, ok_oOf, ok_Ch, ok_it, ok_itA, ok_yes, v_addI, v_sub, v_neg, v_eqI, v_eqS, v_eqB, v_eq0, v_eqT0, v_neI, v_neS, v_neB, v_ne0, v_neT0, v_ltI, v_leI, v_gtI, v_geI, v_is, v_isNot, v_nn, v_ns, v_ni, v_nl, v_nt, v_tb, v_tl, v_tt, v_tn, v_ti, v_asB, v_asI, v_asL, v_asT, v_asS, v_lenL, v_lenT, v_tupL, v_tupT, v_listL, v_listT, v_intB, v_tup0, v_tup1, v_tup2, v_tup3, v_tup4, v_tup5, v_lst0, v_lst1, v_lst2, v_lst3, v_lst4, v_lst5, v_ok0, v_ok1, v_ok2, v_ix0L, v_ix0, v_ix1, v_ix2, v_ix3, v_fs, v_fi, v_fb, v_fn, v_ft, v_f0, v_fc, startR, List.map_cons, List.map_nil, List.length_cons, List.length_nil, List.replicate, List.cons_append, List.nil_append, List.set_cons_zero, List.set_cons_succ, Option.some.injEq, exists_eq_left', Nat.reduceAdd, Nat.reduceSub, Nat.sub_zero, Nat.sub_self, Nat.zero_add, Nat.reduceEqDiff, Bool.not_true, Bool.not_false, if_true, if_false, Bool.and_self, Bool.true_and, Bool.and_true, Bool.false_eq_true, ↓reduceIte, true_and, and_true, decide_true, decide_false, wipeR, i2]
  refine k_take (by omega) (by omega) fun c s4 c0 c1 => ?_
  obtain ⟨c, rfl⟩ : ∃ k : Nat, c = k := ⟨c.toNat, by omega⟩
  try simp only [ok_V0, ok_Vs, ok_K, ok_B, ok_U, ok_nil, ok_cons, ok_N, ok_aN, ok_call, ok_nl, ok_fl, ok_afl, ok_T, ok_qNot, ok_qAnd, ok_qOr, ok_and, ok_or, ok_not, ok_if, ok_Sl, ok_oNo, ok_oOf, ok_Ch, ok_it, ok_itA, ok_yes, v_addI, v_sub, v_neg, v_eqI, v_eqS, v_eqB, v_eq0, v_eqT0, v_neI, v_neS, v_neB, v_ne0, v_neT0, v_ltI, v_leI, v_gtI, v_geI, v_is, v_isNot, v_nn, v_ns, v_ni, v_nl, v_nt, v_tb, v_tl, v_tt, v_tn, v_ti, v_asB, v_asI, v_asL, v_asT, v_asS, v_lenL, v_lenT, v_tupL, v_tupT, v_listL, v_listT, v_intB, v_tup0, v_tup1, v_tup2, v_tup3, v_tup4, v_tup5, v_lst0, v_lst1, v_lst2, v_lst3, v_lst4, v_lst5, v_ok0, v_ok1, v_ok2, v_ix0L, v_ix0, v_ix1, v_ix2, v_ix3, v_fs, v_fi, v_fb, v_fn, v_ft, v_f0, v_fc, startR, List.map_cons, List.map_nil, List.length_cons, List.length_nil, List.replicate, List.cons_append, List.nil_append, List.set_cons_zero, List.set_cons_succ, Option.some.injEq, exists_eq_left', Nat.reduceAdd, Nat.reduceSub, Nat.sub_zero, Nat.sub_self, Nat.zero_add, Nat.reduceEqDiff, Bool.not_true, Bool.not_false, if_true, if_false, Bool.and_self, Bool.true_and, Bool.and_true, Bool.false_eq_true, ↓reduceIte, true_and, and_true, decide_true, decide_false, wipeR]
  rw [show (b : Int) + (c : Int) = ((b + c : Nat) : Int) by omega]
  refine ok_words (n := b + c) (by omega) fun ws s5 hw => ?_
  refine k_seq (k_set ?_)
  try simp only [ok_V0, ok_Vs, ok_K, ok_B, ok_U, ok_nil, ok_cons, ok_N, ok_aN, ok_call, ok_nl, ok_fl, ok_afl, ok_T, ok_qNot, ok_qAnd, ok_qOr, ok_and, ok_or, ok_not, ok_if, ok_Sl, ok_oNo, ok_oOf, ok_Ch, ok_it, ok_itA, ok_yes, v_addI, v_sub, v_neg, v_eqI, v_eqS, v_eqB, v_eq0, v_eqT0, v_neI, v_neS, v_neB, v_ne0, v_neT0, v_ltI, v_leI, v_gtI, v_geI, v_is, v_isNot, v_nn, v_ns, v_ni, v_nl, v_nt, v_tb, v_tl, v_tt, v_tn, v_ti, v_asB, v_asI, v_asL, v_asT, v_asS, v_lenL, v_lenT, v_tupL, v_tupT, v_listL, v_listT, v_intB, v_tup0, v_tup1, v_tup2, v_tup3, v_tup4, v_tup5, v_lst0, v_lst1, v_lst2, v_lst3, v_lst4, v_lst5, v_ok0, v_ok1, v_ok2, v_ix0L, v_ix0, v_ix1, v_ix2, v_ix3, v_fs, v_fi, v_fb, v_fn, v_ft, v_f0, v_fc, startR, List.map_cons, List.map_nil, List.length_cons, List.length_nil, List.replicate, List.cons_append, List.nil_append, List.set_cons_zero, List.set_cons_succ, Option.some.injEq, exists_eq_left', Nat.reduceAdd, Nat.reduceSub, Nat.sub_zero, Nat.sub_self, Nat.zero_add, Nat.reduceEqDiff, Bool.not_true, Bool.not_false, if_true, if_false, Bool.and_self, Bool.true_and, Bool.and_true, Bool.false_eq_true, ↓reduceIte, true_and, and_true, decide_true, decide_false, wipeR, List.length_map, hw.len]
  refine k_take (by omega) (by omega) fun t s6 t0 t1 => ?_
  obtain ⟨t, rfl⟩ : ∃ k : Nat, t = k := ⟨t.toNat, by omega⟩
  refine k_seq (k_set ?_)
  try simp only [ok_V0, ok_Vs, ok_K, ok_B, ok_U, ok_nil, ok_cons, ok_N, ok_aN, ok_call, ok_nl, ok_fl, ok_afl, ok_T, ok_qNot, ok_qAnd, ok_qOr, ok_and, ok_or, ok_not, ok_if, ok_Sl, ok_oNo, ok_oOf, ok_Ch, ok_it, ok_itA, ok_yes, v_addI, v_sub, v_neg, v_eqI, v_eqS, v_eqB, v_eq0, v_eqT0, v_neI, v_neS, v_neB, v_ne0, v_neT0, v_ltI, v_leI, v_gtI, v_geI, v_is, v_isNot, v_nn, v_ns, v_ni, v_nl, v_nt, v_tb, v_tl, v_tt, v_tn, v_ti, v_asB, v_asI, v_asL, v_asT, v_asS, v_lenL, v_lenT, v_tupL, v_tupT, v_listL, v_listT, v_intB, v_tup0, v_tup1, v_tup2, v_tup3, v_tup4, v_tup5, v_lst0, v_lst1, v_lst2, v_lst3, v_lst4, v_lst5, v_ok0, v_ok1, v_ok2, v_ix0L, v_ix0, v_ix1, v_ix2, v_ix3, v_fs, v_fi, v_fb, v_fn, v_ft, v_f0, v_fc, startR, List.map_cons, List.map_nil, List.length_cons, List.length_nil, List.replicate, List.cons_append, List.nil_append, List.set_cons_zero, List.set_cons_succ, Option.some.injEq, exists_eq_left', Nat.reduceAdd, Nat.reduceSub, Nat.sub_zero, Nat.sub_self, Nat.zero_add, Nat.reduceEqDiff, Bool.not_true, Bool.not_false, if_true, if_false, Bool.and_self, Bool.true_and, Bool.and_true, Bool.false_eq_true, ↓reduceIte, true_and, and_true, decide_true, decide_false, wipeR, v_slL]
  rw [cutD_from, cutD_to, ← List.map_drop, ← List.map_take]
  rw [v_addL (by rw [List.length_map, List.length_map, List.length_drop, List.length_take, hw.len]; exact szL (by omega)), ← List.map_append]
  try simp only [ok_V0, ok_Vs, ok_K, ok_B, ok_U, ok_nil, ok_cons, ok_N, ok_aN, ok_call, ok_nl, ok_fl, ok_afl, ok_T, ok_qNot, ok_qAnd, ok_qOr, ok_and, ok_or, ok_not, ok_if, ok_Sl, ok_oNo, ok_oOf, ok_Ch, ok_it, ok_itA, ok_yes, v_addI, v_sub, v_neg, v_eqI, v_eqS, v_eqB, v_eq0, v_eqT0, v_neI, v_neS, v_neB, v_ne0, v_neT0, v_ltI, v_leI, v_gtI, v_geI, v_is, v_isNot, v_nn, v_ns, v_ni, v_nl, v_nt, v_tb, v_tl, v_tt, v_tn, v_ti, v_asB, v_asI, v_asL, v_asT, v_asS, v_lenL, v_lenT, v_tupL, v_tupT, v_listL, v_listT, v_intB, v_tup0, v_tup1, v_tup2, v_tup3, v_tup4, v_tup5, v_lst0, v_lst1, v_lst2, v_lst3, v_lst4, v_lst5, v_ok0, v_ok1, v_ok2, v_ix0L, v_ix0, v_ix1, v_ix2, v_ix3, v_fs, v_fi, v_fb, v_fn, v_ft, v_f0, v_fc, startR, List.map_cons, List.map_nil, List.length_cons, List.length_nil, List.replicate, List.cons_append, List.nil_append, List.set_cons_zero, List.set_cons_succ, Option.some.injEq, exists_eq_left', Nat.reduceAdd, Nat.reduceSub, Nat.sub_zero, Nat.sub_self, Nat.zero_add, Nat.reduceEqDiff, Bool.not_true, Bool.not_false, if_true, if_false, Bool.and_self, Bool.true_and, Bool.and_true, Bool.false_eq_true, ↓reduceIte, true_and, and_true, decide_true, decide_false, wipeR]
  have hp : (ws.drop t ++ ws.take t).Perm ws := List.perm_append_comm.trans (by rw [List.take_append_drop])
  have rnd : (ws.drop t ++ ws.take t).Nodup := hp.nodup_iff.mpr hw.nd
  have rkd : ∀ x ∈ ws.drop t ++ ws.take t, kindB (.str x) = true := fun x hx => hw.kd x (hp.mem_iff.mp hx)
  have rln : (ws.drop t ++ ws.take t).length = b + c := hp.length_eq.trans hw.len
  generalize ws.drop t ++ ws.take t = rs at rnd rkd rln ⊢
  refine k_ret ?_
  try simp only [ok_V0, ok_Vs, ok_K, ok_B, ok_U, ok_nil, ok_cons, ok_N, ok_aN, ok_call, ok_nl, ok_fl, ok_afl, ok_T, ok_qNot, ok_qAnd, ok_qOr, ok_and, ok_or, ok_not, ok_if, ok_Sl, ok_oNo, ok_oOf, ok_Ch, ok_it, ok_itA, ok_yes, v_addI, v_sub, v_neg, v_eqI, v_eqS, v_eqB, v_eq0, v_eqT0, v_neI, v_neS, v_neB, v_ne0, v_neT0, v_ltI, v_leI, v_gtI, v_geI, v_is, v_isNot, v_nn, v_ns, v_ni, v_nl, v_nt, v_tb, v_tl, v_tt, v_tn, v_ti, v_asB, v_asI, v_asL, v_asT, v_asS, v_lenL, v_lenT, v_tupL, v_tupT, v_listL, v_listT, v_intB, v_tup0, v_tup1, v_tup2, v_tup3, v_tup4, v_tup5, v_lst0, v_lst1, v_lst2, v_lst3, v_lst4, v_lst5, v_ok0, v_ok1, v_ok2, v_ix0L, v_ix0, v_ix1, v_ix2, v_ix3, v_fs, v_fi, v_fb, v_fn, v_ft, v_f0, v_fc, startR, List.map_cons, List.map_nil, List.length_cons, List.length_nil, List.replicate, List.cons_append, List.nil_append, List.set_cons_zero, List.set_cons_succ, Option.some.injEq, exists_eq_left', Nat.reduceAdd, Nat.reduceSub, Nat.sub_zero, Nat.sub_self, Nat.zero_add, Nat.reduceEqDiff, Bool.not_true, Bool.not_false, if_true, if_false, Bool.and_self, Bool.true_and, Bool.and_true, Bool.false_eq_true, ↓reduceIte, true_and, and_true, decide_true, decide_false, wipeR, v_slL]
  rw [cutD_to, cutD_from, ← List.map_take, ← List.map_drop, v_sorted (by rw [List.length_take]; omega), v_sorted (by rw [List.length_drop]; omega)]
  try simp only [ok_V0, ok_Vs, ok_K, ok_B, ok_U, ok_nil, ok_cons, ok_N, ok_aN, ok_call, ok_nl, ok_fl, ok_afl, ok_T, ok_qNot, ok_qAnd, ok_qOr, ok_and, ok_or, ok_not, ok_if, ok_Sl, ok_oNo, ok_oOf, ok_Ch, ok_it, ok_itA, ok_yes, v_addI, v_sub, v_neg, v_eqI, v_eqS, v_eqB, v_eq0, v_eqT0, v_neI, v_neS, v_neB, v_ne0, v_neT0, v_ltI, v_leI, v_gtI, v_geI, v_is, v_isNot, v_nn, v_ns, v_ni, v_nl, v_nt, v_tb, v_tl, v_tt, v_tn, v_ti, v_asB, v_asI, v_asL, v_asT, v_asS, v_lenL, v_lenT, v_tupL, v_tupT, v_listL, v_listT, v_intB, v_tup0, v_tup1, v_tup2, v_tup3, v_tup4, v_tup5, v_lst0, v_lst1, v_lst2, v_lst3, v_lst4, v_lst5, v_ok0, v_ok1, v_ok2, v_ix0L, v_ix0, v_ix1, v_ix2, v_ix3, v_fs, v_fi, v_fb, v_fn, v_ft, v_f0, v_fc, startR, List.map_cons, List.map_nil, List.length_cons, List.length_nil, List.replicate, List.cons_append, List.nil_append, List.set_cons_zero, List.set_cons_succ, Option.some.injEq, exists_eq_left', Nat.reduceAdd, Nat.reduceSub, Nat.sub_zero, Nat.sub_self, Nat.zero_add, Nat.reduceEqDiff, Bool.not_true, Bool.not_false, if_true, if_false, Bool.and_self, Bool.true_and, Bool.and_true, Bool.false_eq_true, ↓reduceIte, true_and, and_true, decide_true, decide_false, wipeR]
  have tk : ∀ x ∈ sortS (rs.take b), x ∈ rs.take b := fun x hx => (sortS_perm _).mem_iff.mp hx
  have dk : ∀ x ∈ sortS (rs.drop b), x ∈ rs.drop b := fun x hx => (sortS_perm _).mem_iff.mp hx
  refine q (sortS ns) (sortS (rs.take b)) (sortS (rs.drop b)) _ ⟨?_, ?_, ?_, fun x hx => hn.nm x ((sortS_perm _).mem_iff.mp hx), fun x hx => rkd x (List.mem_of_mem_take (tk x hx)), fun x hx => rkd x (List.mem_of_mem_drop (dk x hx)), ris_sort hn.nd, ris_sort (rnd.sublist (List.take_sublist _ _)), ris_sort (rnd.sublist (List.drop_sublist _ _)), fun x hx hx2 => ?_⟩
  · rw [(sortS_perm _).length_eq, hn.len]
    omega
  · rw [(sortS_perm _).length_eq, List.length_take]
    omega
  · rw [(sortS_perm _).length_eq, List.length_drop]
    omega
  · have nd2 := rnd
    rw [← List.take_append_drop b rs, List.nodup_append] at nd2
    exact nd2.2.2 x (tk x hx) x (dk x hx2) rfl
theorem ok_voc {s : DS} {Q : D → DS → Prop} (q : ∀ n k d s', Voc n k d → Q (vocD n k d) s') : Ok (Fvoc [hnd 0] s) Q := by
  unfold Fvoc K_w_vocabulary B_w_vocabulary
  refine k_fn (k_seq (k_set ?_))
  try simp only [ok_V0, ok_Vs, ok_K, ok_B, ok_U, ok_nil, ok_cons, ok_N, ok_aN, ok_call, ok_nl, ok_fl, ok_afl, ok_T, ok_qNot, ok_qAnd, ok_qOr, ok_and, ok_or, ok_not, ok_if, ok_Sl, ok_oNo, ok_oOf, ok_Ch, ok_it, ok_itA, ok_yes, v_addI, v_sub, v_neg, v_eqI, v_eqS, v_eqB, v_eq0, v_eqT0, v_neI, v_neS, v_neB, v_ne0, v_neT0, v_ltI, v_leI, v_gtI, v_geI, v_is, v_isNot, v_nn, v_ns, v_ni, v_nl, v_nt, v_tb, v_tl, v_tt, v_tn, v_ti, v_asB, v_asI, v_asL, v_asT, v_asS, v_lenL, v_lenT, v_tupL, v_tupT, v_listL, v_listT, v_intB, v_tup0, v_tup1, v_tup2, v_tup3, v_tup4, v_tup5, v_lst0, v_lst1, v_lst2, v_lst3, v_lst4, v_lst5, v_ok0, v_ok1, v_ok2, v_ix0L, v_ix0, v_ix1, v_ix2, v_ix3, v_fs, v_fi, v_fb, v_fn, v_ft, v_f0, v_fc, startR, List.map_cons, List.map_nil, List.length_cons, List.length_nil, List.replicate, List.cons_append, List.nil_append, List.set_cons_zero, List.set_cons_succ, Option.some.injEq, exists_eq_left', Nat.reduceAdd, Nat.reduceSub, Nat.sub_zero, Nat.sub_self, Nat.zero_add, Nat.reduceEqDiff, Bool.not_true, Bool.not_false, if_true, if_false, Bool.and_self, Bool.true_and, Bool.and_true, Bool.false_eq_true, ↓reduceIte, true_and, and_true, decide_true, decide_false, wipeR]
  refine k_take (by omega) (by omega) fun w s1 w0 w1 => ?_
  try simp only [ok_V0, ok_Vs, ok_K, ok_B, ok_U, ok_nil, ok_cons, ok_N, ok_aN, ok_call, ok_nl, ok_fl, ok_afl, ok_T, ok_qNot, ok_qAnd, ok_qOr, ok_and, ok_or, ok_not, ok_if, ok_Sl, ok_oNo, ok_oOf, ok_Ch, ok_it, ok_itA, ok_yes, v_addI, v_sub, v_neg, v_eqI, v_eqS, v_eqB, v_eq0, v_eqT0, v_neI, v_neS, v_neB, v_ne0, v_neT0, v_ltI, v_leI, v_gtI, v_geI, v_is, v_isNot, v_nn, v_ns, v_ni, v_nl, v_nt, v_tb, v_tl, v_tt, v_tn, v_ti, v_asB, v_asI, v_asL, v_asT, v_asS, v_lenL, v_lenT, v_tupL, v_tupT, v_listL, v_listT, v_intB, v_tup0, v_tup1, v_tup2, v_tup3, v_tup4, v_tup5, v_lst0, v_lst1, v_lst2, v_lst3, v_lst4, v_lst5, v_ok0, v_ok1, v_ok2, v_ix0L, v_ix0, v_ix1, v_ix2, v_ix3, v_fs, v_fi, v_fb, v_fn, v_ft, v_f0, v_fc, startR, List.map_cons, List.map_nil, List.length_cons, List.length_nil, List.replicate, List.cons_append, List.nil_append, List.set_cons_zero, List.set_cons_succ, Option.some.injEq, exists_eq_left', Nat.reduceAdd, Nat.reduceSub, Nat.sub_zero, Nat.sub_self, Nat.zero_add, Nat.reduceEqDiff, Bool.not_true, Bool.not_false, if_true, if_false, Bool.and_self, Bool.true_and, Bool.and_true, Bool.false_eq_true, ↓reduceIte, true_and, and_true, decide_true, decide_false, wipeR]
  by_cases h : w = 7
  · rw [decide_eq_true h]
    have e : pIx (.list [.list [.int 3, .int 4, .int 2], .list [.int 6, .int 6, .int 3]]) (.int (if true = true then 1 else 0)) = some (.list [.int 6, .int 6, .int 3]) := by simp only [pIx]; exact atI_nat (j := 1) rfl
    refine ⟨_, e, ?_⟩
    exact voc_rest (m0 := 6) (m1 := 6) (m2 := 3) (by omega) (by omega) (by omega) q
  · rw [decide_eq_false h]
    have e : pIx (.list [.list [.int 3, .int 4, .int 2], .list [.int 6, .int 6, .int 3]]) (.int (if false = true then 1 else 0)) = some (.list [.int 3, .int 4, .int 2]) := by simp only [pIx]; exact atI_nat (j := 0) rfl
    refine ⟨_, e, ?_⟩
    exact voc_rest (m0 := 3) (m1 := 4) (m2 := 2) (by omega) (by omega) (by omega) q
end Lw01
set_option Elab.async false
set_option linter.all false
set_option maxRecDepth 100000
set_option maxHeartbeats 1000000
/-! sums of kinds and times: what a dict holds after them, and in which form they are told -/
namespace Lw41
open PySem PySem.Spec L2 Dl Mx Ds Lw01
abbrev Pt := Str × Int
abbrev Tot := List Pt × Int
def ptD (p : Pt) : D := .tuple [.str p.1, .int p.2]
def totD (t : Tot) : D := .tuple [.tuple (t.1.map ptD), .int t.2]
def add (m : KV) (p : Pt) : KV := kvPut m p.1 ((kvGet m p.1).getD 0 + p.2)
def cntP (ps : List Pt) (k : Str) : Int := ((ps.filter fun p => decide (p.1 = k)).map (·.2)).sum
def sumT (ps : List Pt) (n : Int) : Tot := ((sortS (gath (ps.map (·.1)))).map fun k => (k, cntP ps k), n)
def sumOf (ts : List Tot) : Tot := sumT (ts.flatMap (·.1)) ((ts.map (·.2)).sum)
theorem sort_cg {a b : List Str} (h : a.Perm b) : sortS a = sortS b := pw_unique (le := leS) (fun a b => leS_anti) (((sortS_perm a).trans h).trans (sortS_perm b).symm) (sortS_pw a) (sortS_pw b)
theorem sort_set {a b : List Str} (ha : a.Nodup) (hb : b.Nodup) (h : ∀ x, x ∈ a ↔ x ∈ b) : sortS a = sortS b := sort_cg (perm_nd a b ha hb h)
theorem sort_id {a : List Str} (h : a.Pairwise fun a b => ltS a b = true) : sortS a = a := pw_unique (le := leS) (fun a b => leS_anti) (sortS_perm a) (sortS_pw a) (h.imp fun h => ltS_le h)
theorem sort_mem {a : List Str} {x : Str} : x ∈ sortS a ↔ x ∈ a := (sortS_perm a).mem_iff
theorem sort_nd {a : List Str} (h : a.Nodup) : (sortS a).Nodup := (sortS_perm a).nodup_iff.mpr h
theorem get_cons (a : Str) (n : Int) (m : KV) (k : Str) : kvGet ((a, n) :: m) k = if a = k then some n else kvGet m k := by
  unfold kvGet
  by_cases e : a = k
  · simp [e]
  · simp [e]
theorem get_none : ∀ (m : KV) (k : Str), k ∉ m.map (·.1) → kvGet m k = none
  | [], k, _ => rfl
  | (a, n) :: m, k, h => by
    rw [get_cons, if_neg (fun e => h (by simp [e])), get_none m k fun z => h (by simp [z])]
theorem get_some : ∀ (m : KV) (k : Str), k ∈ m.map (·.1) → ∃ n, kvGet m k = some n
  | [], k, h => by simp at h
  | (a, n) :: m, k, h => by
    rw [get_cons]
    by_cases e : a = k
    · exact ⟨n, if_pos e⟩
    · rw [if_neg e]
      refine get_some m k ?_
      rcases List.mem_cons.mp (by simpa using h : k ∈ a :: m.map (·.1)) with z | z
      · exact (e z.symm).elim
      · exact z
theorem any_key (m : KV) (a : Str) : (m.any fun p => decide (p.1 = a)) = decide (a ∈ m.map (·.1)) := by
  rw [Bool.eq_iff_iff, List.any_eq_true, decide_eq_true_eq, List.mem_map]
  constructor
  · rintro ⟨p, h1, h2⟩
    exact ⟨p, h1, of_decide_eq_true h2⟩
  · rintro ⟨p, h1, h2⟩
    exact ⟨p, h1, decide_eq_true h2⟩
theorem get_mapP (a : Str) (v : Int) (k : Str) : ∀ m : KV, a ∈ m.map (·.1) → kvGet (m.map fun p => if p.1 = a then (p.1, v) else p) k = if a = k then some v else kvGet m k
  | [], h => by simp at h
  | (b, n) :: m, h => by
    rw [List.map_cons]
    by_cases e : b = a
    · subst e
      simp only [if_true]
      rw [get_cons, get_cons]
      by_cases e2 : b = k
      · rw [if_pos e2, if_pos e2]
      · rw [if_neg e2, if_neg e2, if_neg e2]
        by_cases hm : b ∈ m.map (·.1)
        · rw [get_mapP b v k m hm, if_neg e2]
        · congr 1
          refine (List.map_congr_left fun p hp => ?_).trans (List.map_id' m)
          exact if_neg fun z => hm (List.mem_map.mpr ⟨p, hp, z⟩)
    · simp only [e, if_false]
      rw [get_cons, get_cons]
      have hm : a ∈ m.map (·.1) := by
        rcases List.mem_cons.mp (by simpa using h : a ∈ b :: m.map (·.1)) with z | z
        · exact (e z.symm).elim
        · exact z
      rw [get_mapP a v k m hm]
      by_cases e2 : b = k
      · subst e2
        rw [if_pos rfl, if_neg (fun z => e z.symm)]
        simp
      · rw [if_neg e2, if_neg e2]
theorem get_snoc (a : Str) (v : Int) (k : Str) : ∀ m : KV, a ∉ m.map (·.1) → kvGet (m ++ [(a, v)]) k = if a = k then some v else kvGet m k
  | [], _ => by rw [List.nil_append, get_cons]
  | (b, n) :: m, h => by
    rw [List.cons_append, get_cons, get_cons, get_snoc a v k m fun z => h (by simp [z])]
    by_cases e2 : b = k
    · subst e2
      rw [if_pos rfl, if_neg (fun z => h (by simp [z]))]
      simp
    · rw [if_neg e2, if_neg e2]
theorem get_put (m : KV) (a k : Str) (v : Int) : kvGet (kvPut m a v) k = if a = k then some v else kvGet m k := by
  unfold kvPut
  rw [any_key]
  by_cases h : a ∈ m.map (·.1)
  · rw [decide_eq_true h, if_pos rfl, get_mapP a v k m h]
  · rw [decide_eq_false h, if_neg (by decide), get_snoc a v k m h]
theorem keys_put (m : KV) (a : Str) (v : Int) : (kvPut m a v).map (·.1) = if a ∈ m.map (·.1) then m.map (·.1) else m.map (·.1) ++ [a] := by
  unfold kvPut
  rw [any_key]
  by_cases h : a ∈ m.map (·.1)
  · rw [decide_eq_true h, if_pos rfl, if_pos h, List.map_map]
    refine List.map_congr_left fun p _ => ?_
    show (if p.1 = a then (p.1, v) else p).1 = p.1
    split <;> rfl
  · rw [decide_eq_false h, if_neg (by decide), if_neg h, List.map_append]
    rfl
theorem cnt_cons (p : Pt) (ps : List Pt) (k : Str) : cntP (p :: ps) k = (if p.1 = k then p.2 else 0) + cntP ps k := by
  unfold cntP
  by_cases e : p.1 = k
  · simp [e]
  · simp [e]
theorem cnt_app (a b : List Pt) (k : Str) : cntP (a ++ b) k = cntP a k + cntP b k := by
  induction a with
  | nil => simp [cntP]
  | cons p a ih => rw [List.cons_append, cnt_cons, cnt_cons, ih]; omega
theorem cnt_not {ps : List Pt} {k : Str} (h : k ∉ ps.map (·.1)) : cntP ps k = 0 := by
  induction ps with
  | nil => rfl
  | cons p ps ih =>
    rw [cnt_cons, if_neg (fun e => h (by simp [e])), ih fun z => h (by simp [z])]
    rfl
structure Had (m : KV) (ps : List Pt) : Prop where
  nd : (m.map (·.1)).Nodup
  mem : ∀ k, k ∈ m.map (·.1) ↔ k ∈ ps.map (·.1)
  get : ∀ k, (kvGet m k).getD 0 = cntP ps k
  len : m.length ≤ ps.length
theorem Had.nil : Had [] [] := ⟨List.nodup_nil, fun k => by simp, fun k => rfl, Nat.le_refl _⟩
theorem Had.add {m : KV} {ps : List Pt} (h : Had m ps) (p : Pt) : Had (add m p) (ps ++ [p]) := by
  have e : (Lw41.add m p).map (·.1) = if p.1 ∈ m.map (·.1) then m.map (·.1) else m.map (·.1) ++ [p.1] := keys_put _ _ _
  refine ⟨?_, fun k => ?_, fun k => ?_, ?_⟩
  · rw [e]
    split
    · exact h.nd
    · exact nodup_snoc h.nd (by assumption)
  · rw [e, List.map_append, List.mem_append]
    split
    · rename_i hp
      rw [h.mem k]
      constructor
      · exact .inl
      · rintro (z | z)
        · exact z
        · have z : k = p.1 := by simpa using z
          rw [z]
          exact (h.mem _).mp hp
    · rw [List.mem_append, h.mem k]
      simp
  · rw [cnt_app]
    unfold Lw41.add
    rw [get_put, cnt_cons, ← h.get k]
    by_cases e : p.1 = k
    · subst e
      rw [if_pos rfl, if_pos rfl]
      show _ + p.2 = _ + (p.2 + 0)
      omega
    · rw [if_neg e, if_neg e]
      show _ = _ + ((0 : Int) + 0)
      omega
  · have l := congrArg List.length e
    rw [List.length_map] at l
    have h0 := h.len
    rw [l, List.length_append]
    split
    · rw [List.length_map]
      omega
    · rw [List.length_append, List.length_map]
      show _ + 1 ≤ _ + 1
      omega
theorem Had.all {m : KV} {ps : List Pt} (h : Had m ps) (qs : List Pt) : Had (qs.foldl Lw41.add m) (ps ++ qs) := by
  induction qs generalizing m ps with
  | nil => rw [List.append_nil]; exact h
  | cons q qs ih =>
    have := ih (h.add q)
    rw [List.append_assoc] at this
    exact this
theorem Had.one {m : KV} {ps : List Pt} (h : Had m ps) {k : Str} (hk : k ∈ m.map (·.1)) : kvGet m k = some (cntP ps k) := by
  obtain ⟨n, e⟩ := get_some m k hk
  have := h.get k
  rw [e] at this ⊢
  exact congrArg some this
theorem Had.keys {m : KV} {ps : List Pt} (h : Had m ps) : sortS (m.map (·.1)) = sortS (gath (ps.map (·.1))) := sort_set h.nd (gath_nd _) fun x => by rw [h.mem x, gath_mem]
/-! ### the form of a sum -/
def Canon (t : Tot) : Prop := (t.1.map (·.1)).Pairwise fun a b => ltS a b = true
theorem sumT_fst (ps : List Pt) (n : Int) : (sumT ps n).1.map (·.1) = sortS (gath (ps.map (·.1))) := by
  unfold sumT
  rw [List.map_map]
  exact List.map_id' _
theorem sumT_canon (ps : List Pt) (n : Int) : Canon (sumT ps n) := by
  unfold Canon
  rw [sumT_fst]
  exact pw_le_lt (sortS_pw _) (sort_nd (gath_nd _))
theorem sumT_ext {ps qs : List Pt} {n m : Int} (hm : ∀ k, k ∈ ps.map (·.1) ↔ k ∈ qs.map (·.1)) (hc : ∀ k, cntP ps k = cntP qs k) (hn : n = m) : sumT ps n = sumT qs m := by
  unfold sumT
  rw [hn, sort_set (gath_nd _) (gath_nd _) (fun x => by rw [gath_mem, gath_mem, hm x] : ∀ x, x ∈ gath (ps.map (·.1)) ↔ x ∈ gath (qs.map (·.1)))]
  refine Prod.ext ?_ rfl
  exact List.map_congr_left fun k _ => by rw [hc k]
theorem cnt_nd : ∀ {ps : List Pt}, (ps.map (·.1)).Nodup → ∀ p ∈ ps, cntP ps p.1 = p.2
  | q :: ps, nd, p, hp => by
    rw [List.map_cons, List.nodup_cons] at nd
    rw [cnt_cons]
    rcases List.mem_cons.mp hp with rfl | h
    · rw [if_pos rfl, cnt_not nd.1]
      omega
    · rw [if_neg (fun e => nd.1 (by rw [e]; exact List.mem_map.mpr ⟨p, h, rfl⟩)), cnt_nd nd.2 p h]
      omega
theorem sum_canon {t : Tot} (h : Canon t) : sumOf [t] = t := by
  obtain ⟨ps, n⟩ := t
  have h : (ps.map (·.1)).Pairwise fun a b => ltS a b = true := h
  have nd : (ps.map (·.1)).Nodup := pw_nd h
  unfold sumOf sumT
  have e : [(ps, n)].flatMap (·.1) = ps := by simp
  rw [e]
  have e2 : sortS (gath (ps.map (·.1))) = ps.map (·.1) := (sort_set (gath_nd _) nd fun x => gath_mem).trans (sort_id h)
  rw [e2, List.map_map]
  refine Prod.ext ?_ (by simp)
  refine (List.map_congr_left fun p hp => ?_).trans (List.map_id' ps)
  exact Prod.ext rfl (cnt_nd nd p hp)
theorem sumT_cnt (ps : List Pt) (n : Int) (k : Str) : cntP (sumT ps n).1 k = cntP ps k := by
  by_cases h : k ∈ ps.map (·.1)
  · have hc := sumT_canon ps n
    have nd : ((sumT ps n).1.map (·.1)).Nodup := pw_nd hc
    have hm : (k, cntP ps k) ∈ (sumT ps n).1 := List.mem_map.mpr ⟨k, sort_mem.mpr (gath_mem.mpr h), rfl⟩
    exact cnt_nd nd _ hm
  · rw [cnt_not h, cnt_not]
    rw [sumT_fst, sort_mem, gath_mem]
    exact h
theorem sumT_mem (ps : List Pt) (n : Int) (k : Str) : k ∈ (sumT ps n).1.map (·.1) ↔ k ∈ ps.map (·.1) := by rw [sumT_fst, sort_mem, gath_mem]
theorem cnt_rev (ps : List Pt) (k : Str) : cntP ps.reverse k = cntP ps k := by
  induction ps with
  | nil => rfl
  | cons p ps ih =>
    rw [List.reverse_cons, cnt_app, ih, cnt_cons, cnt_cons]
    show _ + (_ + 0) = _
    omega
theorem flat_cnt : ∀ (ts : List Tot) (k : Str), cntP (ts.flatMap (·.1)) k = (ts.map fun t => cntP t.1 k).sum
  | [], k => rfl
  | t :: ts, k => by
    rw [List.flatMap_cons, cnt_app, flat_cnt ts k]
    rfl
theorem sum_rev (ts : List Tot) : sumOf ts.reverse = sumOf ts := by
  unfold sumOf
  refine sumT_ext (fun k => ?_) (fun k => ?_) ?_
  · simp only [List.mem_map, List.mem_flatMap, List.mem_reverse]
  · rw [flat_cnt, flat_cnt, List.map_reverse, List.sum_reverse]
  · rw [List.map_reverse, List.sum_reverse]
theorem sum_cut (a b : List Tot) : sumOf [sumOf a, sumOf b] = sumOf (a ++ b) := by
  unfold sumOf
  refine sumT_ext (fun k => ?_) (fun k => ?_) ?_
  · have e : ([sumT (a.flatMap (·.1)) ((a.map (·.2)).sum), sumT (b.flatMap (·.1)) ((b.map (·.2)).sum)].flatMap (·.1)).map (·.1) = (sumT (a.flatMap (·.1)) ((a.map (·.2)).sum)).1.map (·.1) ++ (sumT (b.flatMap (·.1)) ((b.map (·.2)).sum)).1.map (·.1) := by simp
    rw [e, List.mem_append, sumT_mem, sumT_mem, List.flatMap_append, List.map_append, List.mem_append]
  · rw [List.flatMap_append, cnt_app]
    have e : ([sumT (a.flatMap (·.1)) ((a.map (·.2)).sum), sumT (b.flatMap (·.1)) ((b.map (·.2)).sum)].flatMap (·.1)) = (sumT (a.flatMap (·.1)) ((a.map (·.2)).sum)).1 ++ (sumT (b.flatMap (·.1)) ((b.map (·.2)).sum)).1 := by simp
    rw [e, cnt_app, sumT_cnt, sumT_cnt]
  · rw [List.map_append, List.sum_append]
    show (a.map (·.2)).sum + ((b.map (·.2)).sum + 0) = _
    omega
theorem sumT_len (ps : List Pt) (n : Int) : (sumT ps n).1.length ≤ ps.length := by
  have h := Had.nil.all ps
  rw [List.nil_append] at h
  have e := congrArg List.length h.keys
  rw [(sortS_perm _).length_eq, List.length_map] at e
  have : (sumT ps n).1.length = (sortS (gath (ps.map (·.1)))).length := by unfold sumT; rw [List.length_map]
  rw [this, ← e]
  exact h.len
end Lw41
set_option Elab.async false
set_option linter.all false
set_option maxRecDepth 100000
set_option maxHeartbeats 1000000
namespace Lw41
open PySem PySem.Spec L2 Dl Mx Ds Lw01
theorem k_fnDk {S : Type} {n i : Nat} {F : Sv (S × KV)} {ds : List D} {s : S} {Q : D → S → Prop} (hn : noHs ds = true) (h : Ok (F ((startR n ds).set i (some (hnd 1))) (s, [])) fun r s' => ∃ d, r = .rt d ∧ noH d = true ∧ Q d s'.1) : Ok (fnDk n i F ds s) Q := by
  obtain ⟨r, s', e, d, rfl, h1, h2⟩ := h
  unfold fnDk
  rw [if_pos hn, e]
  simp only
  rw [if_pos h1]
  exact ⟨_, _, rfl, h2⟩
theorem noH_pts : ∀ ps : List Pt, noHs (ps.map ptD) = true
  | [] => rfl
  | p :: ps => by
    show (noH (ptD p) && noHs (ps.map ptD)) = true
    rw [noH_pts ps]
    rfl
theorem noH_tot (t : Tot) : noH (totD t) = true := by
  show (noHs (t.1.map ptD) && (true && true)) = true
  rw [noH_pts]
  rfl
theorem noH_tots : ∀ ts : List Tot, noHs (ts.map totD) = true
  | [] => rfl
  | t :: ts => by
    show (noH (totD t) && noHs (ts.map totD)) = true
    rw [noH_tot, noH_tots ts]
    rfl
section
variable {S : Type} {s : S}
abbrev stepS : Sv (S × KV) := sDp 1 (cVar 5) (cB pAdd (cDg2 1 (cVar 5) (cK (.int 0))) (cVar 6))
theorem step_eq {a b c d : Option D} {k : Str} {n : Int} {m : KV} (hl : m.length < 1000) : stepS (S := S) [a, some (hnd 1), b, c, d, some (.str k), some (.int n)] (s, m) = some (.nx [a, some (hnd 1), b, c, d, some (.str k), some (.int n)], (s, add m (k, n))) := by
  have h1 : cDg2 (S := S) 1 (cVar 5) (cK (.int 0)) [a, some (hnd 1), b, c, d, some (.str k), some (.int n)] (s, m) = some (.int ((kvGet m k).getD 0), (s, m)) := by
    unfold cDg2
    rw [if_pos (show isH _ 1 = true from rfl)]
    show some ((match kvGet m k with | some n => PyData.int n | none => PyData.int 0), (s, m)) = _
    cases kvGet m k <;> rfl
  have h2 : cB (S := S × KV) pAdd (cDg2 1 (cVar 5) (cK (.int 0))) (cVar 6) [a, some (hnd 1), b, c, d, some (.str k), some (.int n)] (s, m) = some (.int ((kvGet m k).getD 0 + n), (s, m)) := by
    unfold cB
    rw [h1]
    rfl
  unfold stepS sDp
  rw [if_pos (show isH _ 1 = true from rfl), h2]
  show (if m.length < 1000 then _ else none) = _
  rw [if_pos hl]
  rfl
theorem had_take {qs ps : List Pt} {m : KV} (h : Had m qs) (j : Nat) : Had ((ps.take j).foldl add m) (qs ++ ps.take j) := h.all _
theorem take_snoc {α : Type} {l : List α} {j : Nat} {x : α} (h : l[j]? = some x) : l.take (j + 1) = l.take j ++ [x] := by
  rw [List.take_add_one, h]
  rfl
theorem inner_ok {a b : Option D} {d x y : Option D} {ps qs : List Pt} {m : KV} (hm : Had m qs) (hl : qs.length + ps.length < 1000) {Q : Rs → S × KV → Prop} (q : ∀ y5 y6, Q (.nx [a, some (hnd 1), b, some (.tuple (ps.map ptD)), d, y5, y6]) (s, ps.foldl add m)) :
    Ok (sFor (iOf asT (cVar 3)) (gTp (gC (gNm 5) (gC (gNm 6) gN0))) stepS [a, some (hnd 1), b, some (.tuple (ps.map ptD)), d, x, y] (s, m)) Q := by
  refine k_forP (fun ds s' => ds = ps.map ptD ∧ s' = (s, m)) ⟨_, _, rfl, rfl, rfl⟩ ?_
  rintro ds s' ⟨rfl, rfl⟩
  refine ⟨fun j ρ s' => ∃ y5 y6, ρ = [a, some (hnd 1), b, some (.tuple (ps.map ptD)), d, y5, y6] ∧ s' = (s, (ps.take j).foldl add m), ⟨x, y, rfl, rfl⟩, ?_, ?_⟩
  · rintro j dd ρ s' hd ⟨y5, y6, rfl, rfl⟩
    rw [List.getElem?_map, Option.map_eq_some_iff] at hd
    obtain ⟨p, hp, rfl⟩ := hd
    refine ⟨[a, some (hnd 1), b, some (.tuple (ps.map ptD)), d, some (.str p.1), some (.int p.2)], rfl, ?_⟩
    have h := (had_take hm (ps := ps) j).len
    rw [List.length_append, List.length_take] at h
    rw [step_eq (by omega)]
    refine ⟨_, _, rfl, _, _, rfl, ?_⟩
    rw [take_snoc hp, List.foldl_append]
    rfl
  · rintro ρ s' ⟨y5, y6, rfl, rfl⟩
    rw [List.length_map, List.take_length]
    exact q y5 y6
theorem flat_take (ts : List Tot) {j : Nat} {t : Tot} (h : ts[j]? = some t) : (ts.take (j + 1)).flatMap (·.1) = (ts.take j).flatMap (·.1) ++ t.1 := by
  rw [take_snoc h, List.flatMap_append]
  simp
theorem flat_part (ts : List Tot) (j : Nat) : ((ts.take j).flatMap (·.1)).length ≤ (ts.flatMap (·.1)).length := by
  have : ts.flatMap (·.1) = (ts.take j).flatMap (·.1) ++ (ts.drop j).flatMap (·.1) := by rw [← List.flatMap_append, List.take_append_drop]
  rw [this, List.length_append]
  omega
theorem sum_eq {ts : List Tot} (hl : (ts.flatMap (·.1)).length < 64) : K_sum_of [.tuple (ts.map totD)] s = some (totD (sumOf ts), s) := by
  refine ok_eq ?_
  unfold K_sum_of
  refine k_fnDk (by show (noHs (ts.map totD) && true) = true; rw [noH_tots]; rfl) ?_
  unfold B_sum_of
  refine k_seq (k_set ?_)
  simp only [ok_V0, ok_Vs, ok_K, ok_B, ok_U, ok_nil, ok_cons, ok_N, ok_aN, ok_call, ok_nl, ok_fl, ok_afl, ok_T, ok_qNot, ok_qAnd, ok_qOr, ok_and, ok_or, ok_not, ok_if, ok_Sl, ok_oNo, ok_oOf, ok_Ch, ok_it, ok_itA, ok_yes, v_addI, v_sub, v_neg, v_eqI, v_eqS, v_eqB, v_eq0, v_eqT0, v_neI, v_neS, v_neB, v_ne0, v_neT0, v_ltI, v_leI, v_gtI, v_geI, v_is, v_isNot, v_nn, v_ns, v_ni, v_nl, v_nt, v_tb, v_tl, v_tt, v_tn, v_ti, v_asB, v_asI, v_asL, v_asT, v_asS, v_lenL, v_lenT, v_tupL, v_tupT, v_listL, v_listT, v_intB, v_tup0, v_tup1, v_tup2, v_tup3, v_tup4, v_tup5, v_lst0, v_lst1, v_lst2, v_lst3, v_lst4, v_lst5, v_ok0, v_ok1, v_ok2, v_ix0L, v_ix0, v_ix1, v_ix2, v_ix3, v_fs, v_fi, v_fb, v_fn, v_ft, v_f0, v_fc, startR, List.map_cons, List.map_nil, List.length_cons, List.length_nil, List.replicate, List.cons_append, List.nil_append, List.set_cons_zero, List.set_cons_succ, Option.some.injEq, exists_eq_left', Nat.reduceAdd, Nat.reduceSub, Nat.sub_zero, Nat.sub_self, Nat.zero_add, Nat.reduceEqDiff, Bool.not_true, Bool.not_false, if_true, if_false, Bool.and_self, Bool.true_and, Bool.and_true, Bool.false_eq_true, ↓reduceIte, true_and, and_true, decide_true, decide_false, wipeR]
  refine k_seq (k_forP (fun ds s' => ds = ts.map totD ∧ s' = (s, [])) ⟨_, _, rfl, rfl, rfl⟩ ?_)
  rintro ds s' ⟨rfl, rfl⟩
  refine ⟨fun j ρ s' => ∃ y3 y4 y5 y6 m, ρ = [some (.tuple (ts.map totD)), some (hnd 1), some (.int (((ts.take j).map (·.2)).sum)), y3, y4, y5, y6] ∧ s' = (s, m) ∧ Had m ((ts.take j).flatMap (·.1)), ⟨none, none, none, none, [], rfl, rfl, Had.nil⟩, ?_, ?_⟩
  · rintro j dd ρ s' hd ⟨y3, y4, y5, y6, m, rfl, rfl, hm⟩
    rw [List.getElem?_map, Option.map_eq_some_iff] at hd
    obtain ⟨t, ht, rfl⟩ := hd
    refine ⟨[some (.tuple (ts.map totD)), some (hnd 1), some (.int (((ts.take j).map (·.2)).sum)), some (.tuple (t.1.map ptD)), some (.int t.2), y5, y6], rfl, ?_⟩
    refine k_seq (k_aug rfl ?_)
    simp only [ok_V0, ok_Vs, ok_K, ok_B, ok_U, ok_nil, ok_cons, ok_N, ok_aN, ok_call, ok_nl, ok_fl, ok_afl, ok_T, ok_qNot, ok_qAnd, ok_qOr, ok_and, ok_or, ok_not, ok_if, ok_Sl, ok_oNo, ok_oOf, ok_Ch, ok_it, ok_itA, ok_yes, v_addI, v_sub, v_neg, v_eqI, v_eqS, v_eqB, v_eq0, v_eqT0, v_neI, v_neS, v_neB, v_ne0, v_neT0, v_ltI, v_leI, v_gtI, v_geI, v_is, v_isNot, v_nn, v_ns, v_ni, v_nl, v_nt, v_tb, v_tl, v_tt, v_tn, v_ti, v_asB, v_asI, v_asL, v_asT, v_asS, v_lenL, v_lenT, v_tupL, v_tupT, v_listL, v_listT, v_intB, v_tup0, v_tup1, v_tup2, v_tup3, v_tup4, v_tup5, v_lst0, v_lst1, v_lst2, v_lst3, v_lst4, v_lst5, v_ok0, v_ok1, v_ok2, v_ix0L, v_ix0, v_ix1, v_ix2, v_ix3, v_fs, v_fi, v_fb, v_fn, v_ft, v_f0, v_fc, startR, List.map_cons, List.map_nil, List.length_cons, List.length_nil, List.replicate, List.cons_append, List.nil_append, List.set_cons_zero, List.set_cons_succ, Option.some.injEq, exists_eq_left', Nat.reduceAdd, Nat.reduceSub, Nat.sub_zero, Nat.sub_self, Nat.zero_add, Nat.reduceEqDiff, Bool.not_true, Bool.not_false, if_true, if_false, Bool.and_self, Bool.true_and, Bool.and_true, Bool.false_eq_true, ↓reduceIte, true_and, and_true, decide_true, decide_false, wipeR]
    refine ⟨_, rfl, ?_⟩
    have hf := flat_take ts ht
    have hp := flat_part ts (j + 1)
    rw [hf, List.length_append] at hp
    refine inner_ok hm (by omega) fun y5 y6 => ?_
    refine ⟨some (.tuple (t.1.map ptD)), some (.int t.2), y5, y6, _, ?_, rfl, ?_⟩
    · rw [take_snoc ht, List.map_append, List.sum_append]
      simp
    · rw [hf]
      exact hm.all t.1
  · rintro ρ s' ⟨y3, y4, y5, y6, m, rfl, rfl, hm⟩
    rw [List.length_map, List.take_length] at *
    refine k_ret ?_
    have hml : m.length < 64 := Nat.lt_of_le_of_lt hm.len hl
    have hk : lcF (S := S × KV) (iOf asL (cNl (aSd 1))) (gNm 5) qYes (cN pTup (aCons (cVar 5) (aCons (cDi 1 (cVar 5)) aNil))) [5] [some (.tuple (ts.map totD)), some (hnd 1), some (.int ((ts.map (·.2)).sum)), y3, y4, y5, y6] (s, m) = some ((sumOf ts).1.map ptD, (s, m)) := by
      have hs : aSd (S := S) 1 [some (.tuple (ts.map totD)), some (hnd 1), some (.int ((ts.map (·.2)).sum)), y3, y4, y5, y6] (s, m) = some ((sortS (m.map (·.1))).map .str, (s, m)) := by
        unfold aSd
        rw [if_pos (show isH _ 1 = true ∧ m.length < 64 from ⟨rfl, hml⟩)]
      have h := k_keep (S := S × KV) (ds := (sortS (m.map (·.1))).map PyData.str) (q := qYes) (f := cN pTup (aCons (cVar 5) (aCons (cDi 1 (cVar 5)) aNil))) (fi := iOf asL (cNl (aSd 1))) (t := gNm 5) (vs := [5]) (ρ := [some (.tuple (ts.map totD)), some (hnd 1), some (.int ((ts.map (·.2)).sum)), y3, y4, y5, y6]) (s := (s, m)) (fun _ => true) (fun d => match d with | .str k => ptD (k, cntP (ts.flatMap (·.1)) k) | _ => .none) (by
          rw [List.length_map, (sortS_perm _).length_eq, List.length_map]
          exact szL (by omega)) (by
          unfold iOf cNl
          rw [hs]
          rfl) (fun d hd => by
          obtain ⟨k, hk, rfl⟩ := List.mem_map.mp hd
          refine ⟨_, rfl, rfl, fun _ => ?_⟩
          have hg := hm.one (sort_mem.mp hk)
          have e : cDi (S := S) 1 (cVar 5) [some (.tuple (ts.map totD)), some (hnd 1), some (.int ((ts.map (·.2)).sum)), y3, y4, some (.str k), y6] (s, m) = some (.int (cntP (ts.flatMap (·.1)) k), (s, m)) := by
            unfold cDi
            rw [if_pos (show isH _ 1 = true from rfl)]
            show (match kvGet m k with | some n => some (PyData.int n, (s, m)) | none => none) = _
            rw [hg]
          show cN pTup (aCons (cVar 5) (aCons (cDi 1 (cVar 5)) aNil)) [some (.tuple (ts.map totD)), some (hnd 1), some (.int ((ts.map (·.2)).sum)), y3, y4, some (.str k), y6] (s, m) = _
          unfold cN aCons
          show bnd (bnd (bnd (cDi 1 (cVar 5) [some (.tuple (ts.map totD)), some (hnd 1), some (.int ((ts.map (·.2)).sum)), y3, y4, some (.str k), y6] (s, m)) fun x s => some ([x], s)) fun xs s => some (PyData.str k :: xs, s)) (fun xs s => put (pTup xs) s) = _
          rw [e]
          rfl)
      rw [h, List.filter_eq_self.mpr (fun _ _ => rfl), hm.keys, List.map_map]
      unfold sumOf sumT
      rw [List.map_map]
      rfl
    simp only [ok_V0, ok_Vs, ok_K, ok_B, ok_U, ok_nil, ok_cons, ok_N, ok_aN, ok_call, ok_nl, ok_fl, ok_afl, ok_T, ok_qNot, ok_qAnd, ok_qOr, ok_and, ok_or, ok_not, ok_if, ok_Sl, ok_oNo, ok_oOf, ok_Ch, ok_it, ok_itA, ok_yes, v_addI, v_sub, v_neg, v_eqI, v_eqS, v_eqB, v_eq0, v_eqT0, v_neI, v_neS, v_neB, v_ne0, v_neT0, v_ltI, v_leI, v_gtI, v_geI, v_is, v_isNot, v_nn, v_ns, v_ni, v_nl, v_nt, v_tb, v_tl, v_tt, v_tn, v_ti, v_asB, v_asI, v_asL, v_asT, v_asS, v_lenL, v_lenT, v_tupL, v_tupT, v_listL, v_listT, v_intB, v_tup0, v_tup1, v_tup2, v_tup3, v_tup4, v_tup5, v_lst0, v_lst1, v_lst2, v_lst3, v_lst4, v_lst5, v_ok0, v_ok1, v_ok2, v_ix0L, v_ix0, v_ix1, v_ix2, v_ix3, v_fs, v_fi, v_fb, v_fn, v_ft, v_f0, v_fc, startR, List.map_cons, List.map_nil, List.length_cons, List.length_nil, List.replicate, List.cons_append, List.nil_append, List.set_cons_zero, List.set_cons_succ, Option.some.injEq, exists_eq_left', Nat.reduceAdd, Nat.reduceSub, Nat.sub_zero, Nat.sub_self, Nat.zero_add, Nat.reduceEqDiff, Bool.not_true, Bool.not_false, if_true, if_false, Bool.and_self, Bool.true_and, Bool.and_true, Bool.false_eq_true, ↓reduceIte, true_and, and_true, decide_true, decide_false, wipeR]
    rw [hk]
    refine ⟨_, _, rfl, ?_⟩
    simp only [ok_V0, ok_Vs, ok_K, ok_B, ok_U, ok_nil, ok_cons, ok_N, ok_aN, ok_call, ok_nl, ok_fl, ok_afl, ok_T, ok_qNot, ok_qAnd, ok_qOr, ok_and, ok_or, ok_not, ok_if, ok_Sl, ok_oNo, ok_oOf, ok_Ch, ok_it, ok_itA, ok_yes, v_addI, v_sub, v_neg, v_eqI, v_eqS, v_eqB, v_eq0, v_eqT0, v_neI, v_neS, v_neB, v_ne0, v_neT0, v_ltI, v_leI, v_gtI, v_geI, v_is, v_isNot, v_nn, v_ns, v_ni, v_nl, v_nt, v_tb, v_tl, v_tt, v_tn, v_ti, v_asB, v_asI, v_asL, v_asT, v_asS, v_lenL, v_lenT, v_tupL, v_tupT, v_listL, v_listT, v_intB, v_tup0, v_tup1, v_tup2, v_tup3, v_tup4, v_tup5, v_lst0, v_lst1, v_lst2, v_lst3, v_lst4, v_lst5, v_ok0, v_ok1, v_ok2, v_ix0L, v_ix0, v_ix1, v_ix2, v_ix3, v_fs, v_fi, v_fb, v_fn, v_ft, v_f0, v_fc, startR, List.map_cons, List.map_nil, List.length_cons, List.length_nil, List.replicate, List.cons_append, List.nil_append, List.set_cons_zero, List.set_cons_succ, Option.some.injEq, exists_eq_left', Nat.reduceAdd, Nat.reduceSub, Nat.sub_zero, Nat.sub_self, Nat.zero_add, Nat.reduceEqDiff, Bool.not_true, Bool.not_false, if_true, if_false, Bool.and_self, Bool.true_and, Bool.and_true, Bool.false_eq_true, ↓reduceIte, true_and, and_true, decide_true, decide_false, wipeR]
    exact ⟨_, rfl, noH_tot (sumOf ts), rfl⟩
end
end Lw41
set_option Elab.async false
set_option linter.all false
set_option maxRecDepth 100000
set_option maxHeartbeats 1000000
namespace Lw41
open PySem PySem.Spec L2 Dl Mx Ds Lw01
/-! ### what is drawn -/
theorem cut_from {l : List Nat} (k : Nat) : cutS (mk l) (some (k : Int)) none = mk (l.drop k) := by
  apply cpl_inj
  rw [mk_cps]
  unfold cutS
  rw [HT.sIx_none, HT.sIx_nat, mk_len, mk_cps]
  simp only
  by_cases h : k ≤ l.length
  · rw [Nat.min_eq_left h, List.take_of_length_le (by rw [List.length_drop]; exact Nat.le_refl _)]
  · rw [Nat.min_eq_right (by omega), List.drop_of_length_le (Nat.le_refl _), List.take_nil, List.drop_of_length_le (by omega)]
theorem inAll_drop {l : List Nat} {z : Str} (h : inAll l z = true) (n : Nat) : inAll (l.drop n) z = true := by
  unfold inAll at *
  rw [List.all_eq_true] at *
  exact fun x hx => h x (List.mem_of_mem_drop hx)
structure Wd (l : List Nat) : Prop where
  lo : 1 ≤ l.length
  hi : l.length ≤ 8
  sm : inAll l smS = true
theorem mk_of (x : Str) : x = mk x.cps.toList := cpl_inj (by rw [mk_cps])
theorem wd_len {x : Str} (h : Wd x.cps.toList) : x.length ≤ 8 := by
  have := h.hi
  have e : x.length = x.cps.toList.length := (Array.length_toList).symm
  omega
theorem wd_ok {x : Str} (h : Wd x.cps.toList) : PyData.strOk x = true := by
  unfold PyData.strOk
  rw [Array.all_eq_true_iff_forall_mem]
  intro c hc
  exact decide_eq_true (in_ok (b := smS) (by decide +kernel) h.sm c (by simpa using hc))
theorem ok_word {s : DS} {Q : D → DS → Prop} (q : ∀ l s', 2 ≤ l.length → l.length ≤ 8 → inAll l smS = true → Q (.str (mk l)) s') : Ok (K_w_word Fdraw8 [hnd 0, .int 2, .int 8] s) Q := by
  unfold K_w_word B_w_word
  refine k_fn (k_seq (k_set ?_))
  simp only [ok_V0, ok_Vs, ok_K, ok_B, ok_U, ok_nil, ok_cons, ok_N, ok_aN, ok_call, ok_nl, ok_fl, ok_afl, ok_T, ok_qNot, ok_qAnd, ok_qOr, ok_and, ok_or, ok_not, ok_if, ok_Sl, ok_oNo, ok_oOf, ok_Ch, ok_it, ok_itA, ok_yes, v_addI, v_sub, v_neg, v_eqI, v_eqS, v_eqB, v_eq0, v_eqT0, v_neI, v_neS, v_neB, v_ne0, v_neT0, v_ltI, v_leI, v_gtI, v_geI, v_is, v_isNot, v_nn, v_ns, v_ni, v_nl, v_nt, v_tb, v_tl, v_tt, v_tn, v_ti, v_asB, v_asI, v_asL, v_asT, v_asS, v_lenL, v_lenT, v_tupL, v_tupT, v_listL, v_listT, v_intB, v_tup0, v_tup1, v_tup2, v_tup3, v_tup4, v_tup5, v_lst0, v_lst1, v_lst2, v_lst3, v_lst4, v_lst5, v_ok0, v_ok1, v_ok2, v_ix0L, v_ix0, v_ix1, v_ix2, v_ix3, v_fs, v_fi, v_fb, v_fn, v_ft, v_f0, v_fc, startR, List.map_cons, List.map_nil, List.length_cons, List.length_nil, List.replicate, List.cons_append, List.nil_append, List.set_cons_zero, List.set_cons_succ, Option.some.injEq, exists_eq_left', Nat.reduceAdd, Nat.reduceSub, Nat.sub_zero, Nat.sub_self, Nat.zero_add, Nat.reduceEqDiff, Bool.not_true, Bool.not_false, if_true, if_false, Bool.and_self, Bool.true_and, Bool.and_true, Bool.false_eq_true, ↓reduceIte, true_and, and_true, decide_true, decide_false, wipeR]
  refine k_seq (k_set ?_)
  simp only [ok_V0, ok_Vs, ok_K, ok_B, ok_U, ok_nil, ok_cons, ok_N, ok_aN, ok_call, ok_nl, ok_fl, ok_afl, ok_T, ok_qNot, ok_qAnd, ok_qOr, ok_and, ok_or, ok_not, ok_if, ok_Sl, ok_oNo, ok_oOf, ok_Ch, ok_it, ok_itA, ok_yes, v_addI, v_sub, v_neg, v_eqI, v_eqS, v_eqB, v_eq0, v_eqT0, v_neI, v_neS, v_neB, v_ne0, v_neT0, v_ltI, v_leI, v_gtI, v_geI, v_is, v_isNot, v_nn, v_ns, v_ni, v_nl, v_nt, v_tb, v_tl, v_tt, v_tn, v_ti, v_asB, v_asI, v_asL, v_asT, v_asS, v_lenL, v_lenT, v_tupL, v_tupT, v_listL, v_listT, v_intB, v_tup0, v_tup1, v_tup2, v_tup3, v_tup4, v_tup5, v_lst0, v_lst1, v_lst2, v_lst3, v_lst4, v_lst5, v_ok0, v_ok1, v_ok2, v_ix0L, v_ix0, v_ix1, v_ix2, v_ix3, v_fs, v_fi, v_fb, v_fn, v_ft, v_f0, v_fc, startR, List.map_cons, List.map_nil, List.length_cons, List.length_nil, List.replicate, List.cons_append, List.nil_append, List.set_cons_zero, List.set_cons_succ, Option.some.injEq, exists_eq_left', Nat.reduceAdd, Nat.reduceSub, Nat.sub_zero, Nat.sub_self, Nat.zero_add, Nat.reduceEqDiff, Bool.not_true, Bool.not_false, if_true, if_false, Bool.and_self, Bool.true_and, Bool.and_true, Bool.false_eq_true, ↓reduceIte, true_and, and_true, decide_true, decide_false, wipeR]
  refine k_seq (k_forP (fun ds s' => ∃ n : Nat, 2 ≤ n ∧ n ≤ 8 ∧ ds = rngD 0 n) ?_ ?_)
  · simp only [ok_V0, ok_Vs, ok_K, ok_B, ok_U, ok_nil, ok_cons, ok_N, ok_aN, ok_call, ok_nl, ok_fl, ok_afl, ok_T, ok_qNot, ok_qAnd, ok_qOr, ok_and, ok_or, ok_not, ok_if, ok_Sl, ok_oNo, ok_oOf, ok_Ch, ok_it, ok_itA, ok_yes, v_addI, v_sub, v_neg, v_eqI, v_eqS, v_eqB, v_eq0, v_eqT0, v_neI, v_neS, v_neB, v_ne0, v_neT0, v_ltI, v_leI, v_gtI, v_geI, v_is, v_isNot, v_nn, v_ns, v_ni, v_nl, v_nt, v_tb, v_tl, v_tt, v_tn, v_ti, v_asB, v_asI, v_asL, v_asT, v_asS, v_lenL, v_lenT, v_tupL, v_tupT, v_listL, v_listT, v_intB, v_tup0, v_tup1, v_tup2, v_tup3, v_tup4, v_tup5, v_lst0, v_lst1, v_lst2, v_lst3, v_lst4, v_lst5, v_ok0, v_ok1, v_ok2, v_ix0L, v_ix0, v_ix1, v_ix2, v_ix3, v_fs, v_fi, v_fb, v_fn, v_ft, v_f0, v_fc, startR, List.map_cons, List.map_nil, List.length_cons, List.length_nil, List.replicate, List.cons_append, List.nil_append, List.set_cons_zero, List.set_cons_succ, Option.some.injEq, exists_eq_left', Nat.reduceAdd, Nat.reduceSub, Nat.sub_zero, Nat.sub_self, Nat.zero_add, Nat.reduceEqDiff, Bool.not_true, Bool.not_false, if_true, if_false, Bool.and_self, Bool.true_and, Bool.and_true, Bool.false_eq_true, ↓reduceIte, true_and, and_true, decide_true, decide_false, wipeR]
    refine k_draw8 (by omega) (by omega) fun r s1 r0 r1 => ?_
    exact ⟨_, rfl, _, pr1 (by omega) (by omega), (2 + r).toNat, by omega, by omega, rfl⟩
  · rintro ds s1 ⟨n, n2, n8, rfl⟩
    refine ⟨fun j ρ _ => ∃ (l : List Nat) (o : Option D), ρ = [some (hnd 0), some (.int 2), some (.int 8), some (.str smS), some (.str (mk l)), o] ∧ l.length = j ∧ inAll l smS = true, ⟨[], none, rfl, rfl, rfl⟩, ?_, ?_⟩
    · rintro j d ρ s2 hd ⟨l, o, rfl, hl, hx⟩
      obtain ⟨hj, rfl⟩ := rng_get hd
      refine ⟨_, rfl, ?_⟩
      refine k_set ?_
      simp only [ok_V0, ok_Vs, ok_K, ok_B, ok_U, ok_nil, ok_cons, ok_N, ok_aN, ok_call, ok_nl, ok_fl, ok_afl, ok_T, ok_qNot, ok_qAnd, ok_qOr, ok_and, ok_or, ok_not, ok_if, ok_Sl, ok_oNo, ok_oOf, ok_Ch, ok_it, ok_itA, ok_yes, v_addI, v_sub, v_neg, v_eqI, v_eqS, v_eqB, v_eq0, v_eqT0, v_neI, v_neS, v_neB, v_ne0, v_neT0, v_ltI, v_leI, v_gtI, v_geI, v_is, v_isNot, v_nn, v_ns, v_ni, v_nl, v_nt, v_tb, v_tl, v_tt, v_tn, v_ti, v_asB, v_asI, v_asL, v_asT, v_asS, v_lenL, v_lenT, v_tupL, v_tupT, v_listL, v_listT, v_intB, v_tup0, v_tup1, v_tup2, v_tup3, v_tup4, v_tup5, v_lst0, v_lst1, v_lst2, v_lst3, v_lst4, v_lst5, v_ok0, v_ok1, v_ok2, v_ix0L, v_ix0, v_ix1, v_ix2, v_ix3, v_fs, v_fi, v_fb, v_fn, v_ft, v_f0, v_fc, startR, List.map_cons, List.map_nil, List.length_cons, List.length_nil, List.replicate, List.cons_append, List.nil_append, List.set_cons_zero, List.set_cons_succ, Option.some.injEq, exists_eq_left', Nat.reduceAdd, Nat.reduceSub, Nat.sub_zero, Nat.sub_self, Nat.zero_add, Nat.reduceEqDiff, Bool.not_true, Bool.not_false, if_true, if_false, Bool.and_self, Bool.true_and, Bool.and_true, Bool.false_eq_true, ↓reduceIte, true_and, and_true, decide_true, decide_false, wipeR]
      refine k_draw8 (by omega) (by omega) fun r s3 r0 r1 => ?_
      obtain ⟨c, c1, _, hc⟩ := ix_at (z := smS) (r := r) (by decide) r0 r1
      refine ⟨_, hc, _, v_addS (by rw [mk_len, mk_len]; exact szL (by simp; omega)), ?_⟩
      rw [mk_app]
      refine ⟨l ++ [c], _, rfl, by simp [hl], ?_⟩
      rw [inAll_app, hx, inAll_one c1]
      rfl
    · rintro ρ s2 ⟨l, o, rfl, hl, hx⟩
      rw [rng_len] at hl
      refine k_ret ?_
      simp only [ok_V0, ok_Vs, ok_K, ok_B, ok_U, ok_nil, ok_cons, ok_N, ok_aN, ok_call, ok_nl, ok_fl, ok_afl, ok_T, ok_qNot, ok_qAnd, ok_qOr, ok_and, ok_or, ok_not, ok_if, ok_Sl, ok_oNo, ok_oOf, ok_Ch, ok_it, ok_itA, ok_yes, v_addI, v_sub, v_neg, v_eqI, v_eqS, v_eqB, v_eq0, v_eqT0, v_neI, v_neS, v_neB, v_ne0, v_neT0, v_ltI, v_leI, v_gtI, v_geI, v_is, v_isNot, v_nn, v_ns, v_ni, v_nl, v_nt, v_tb, v_tl, v_tt, v_tn, v_ti, v_asB, v_asI, v_asL, v_asT, v_asS, v_lenL, v_lenT, v_tupL, v_tupT, v_listL, v_listT, v_intB, v_tup0, v_tup1, v_tup2, v_tup3, v_tup4, v_tup5, v_lst0, v_lst1, v_lst2, v_lst3, v_lst4, v_lst5, v_ok0, v_ok1, v_ok2, v_ix0L, v_ix0, v_ix1, v_ix2, v_ix3, v_fs, v_fi, v_fb, v_fn, v_ft, v_f0, v_fc, startR, List.map_cons, List.map_nil, List.length_cons, List.length_nil, List.replicate, List.cons_append, List.nil_append, List.set_cons_zero, List.set_cons_succ, Option.some.injEq, exists_eq_left', Nat.reduceAdd, Nat.reduceSub, Nat.sub_zero, Nat.sub_self, Nat.zero_add, Nat.reduceEqDiff, Bool.not_true, Bool.not_false, if_true, if_false, Bool.and_self, Bool.true_and, Bool.and_true, Bool.false_eq_true, ↓reduceIte, true_and, and_true, decide_true, decide_false, wipeR]
      exact q l _ (by omega) (by omega) hx
def candS : List Str := (Str.ofString "abcdefghijklmnopqrst").cps.toList.map fun c => Str.ofString "q" ++ ⟨#[c]⟩
theorem cand_nd : candS.Nodup := by decide +kernel
theorem cand_len : candS.length = 20 := by decide +kernel
theorem cand_wd : ∀ x ∈ candS, Wd x.cps.toList := by
  have h : (candS.all fun x => decide (1 ≤ x.cps.toList.length) && decide (x.cps.toList.length ≤ 8) && inAll x.cps.toList smS) = true := by decide +kernel
  intro x hx
  have := List.all_eq_true.mp h x hx
  rw [Bool.and_eq_true, Bool.and_eq_true, decide_eq_true_eq, decide_eq_true_eq] at this
  exact ⟨this.1.1, this.1.2, this.2⟩
theorem nd_sub : ∀ {a b : List Str}, a.Nodup → (∀ x ∈ a, x ∈ b) → a.length ≤ b.length
  | [], b, _, _ => Nat.zero_le _
  | x :: a, b, nd, h => by
    rw [List.nodup_cons] at nd
    have hx := h x List.mem_cons_self
    have := nd_sub (a := a) (b := b.erase x) nd.2 fun y hy => (List.mem_erase_of_ne (fun (e : y = x) => nd.1 (by rw [← e]; exact hy))).mpr (h y (List.mem_cons_of_mem _ hy))
    rw [List.length_erase_of_mem hx] at this
    have hp : 0 < b.length := List.length_pos_of_mem hx
    rw [List.length_cons]
    omega
theorem cand_one {xs : List Str} (h : xs.length < 20) : ∃ x r, (candS.filter fun y => !decide (y ∈ xs)) = x :: r ∧ x ∈ candS ∧ x ∉ xs := by
  cases e : candS.filter fun y => !decide (y ∈ xs) with
  | nil =>
    exfalso
    have : ∀ y ∈ candS, y ∈ xs := fun y hy => by
      have := List.filter_eq_nil_iff.mp e y hy
      simpa using this
    have := nd_sub cand_nd this
    rw [cand_len] at this
    omega
  | cons x r =>
    have hm : x ∈ candS.filter fun y => !decide (y ∈ xs) := by rw [e]; exact List.mem_cons_self
    rw [List.mem_filter] at hm
    exact ⟨x, r, rfl, hm.1, by simpa using hm.2⟩
section
variable {S : Type} {s : S}
theorem split_eq {f g : Ev S} {ρ : Rho} {a c : Str} (hf : f ρ s = some (.str a, s)) (hg : g ρ s = some (.str c, s)) (hc : (c.length == 0) = false) (hl : a.length + 2 ≤ sizeLine) : aSplit f g ρ s = some ((Txt.split a c).map .str, s) := by
  unfold aSplit
  rw [hf]
  show bnd (g ρ s) _ = _
  rw [hg]
  show (if (c.length == 0) = false ∧ a.length + 2 ≤ sizeLine then some ((Txt.split a c).map PyData.str, s) else none) = _
  rw [if_pos ⟨hc, hl⟩]
theorem it_nl {G : Ea S} {ρ : Rho} {l : List D} (h : G ρ s = some (l, s)) : iOf asL (cNl G) ρ s = some (l, s) := by
  unfold iOf cNl
  rw [h]
  rfl
theorem fl_ix0 {G : Ea S} {ρ : Rho} {x : Str} {r : List D} (h : G ρ s = some (.str x :: r, s)) : cFl (cB pIx (cNl G) (cK (.int 0))) ρ s = some (.str x, s) := by
  unfold cFl cB cNl
  rw [h]
  show bnd (put (pIx (.list (.str x :: r)) (.int 0)) s) _ = _
  rw [v_ix0L]
  rfl
abbrev fbE : Ev S := cFl (cB pIx (cNl (lcF (iOf asL (cNl (lcF (iOf asS (cK (.str "abcdefghijklmnopqrst"))) (gNm 9) qYes (cB pAdd (cK (.str "q")) (cVar 9)) [9]))) (gNm 8) (qT (cB pNotIn (cVar 8) (cVar 3))) (cVar 8) [8])) (cK (.int 0)))
theorem fb_eq {xs : List Str} {a b c d e f g h i : Option D} (hl : xs.length < 20) : ∃ x, fbE [a, b, c, some (.list (xs.map .str)), d, e, f, g, h, i] s = some (.str x, s) ∧ x ∈ candS ∧ x ∉ xs := by
  obtain ⟨x, r, e1, hx, hn⟩ := cand_one hl
  refine ⟨x, ?_, hx, hn⟩
  have h1 : lcF (S := S) (iOf asS (cK (.str "abcdefghijklmnopqrst"))) (gNm 9) qYes (cB pAdd (cK (.str "q")) (cVar 9)) [9] [a, b, c, some (.list (xs.map .str)), d, e, f, g, h, i] s = some (candS.map .str, s) := by
    have := k_keep (S := S) (ds := (Str.ofString "abcdefghijklmnopqrst").cps.toList.map sgD) (q := qYes) (f := cB pAdd (cK (.str "q")) (cVar 9)) (fi := iOf asS (cK (.str "abcdefghijklmnopqrst"))) (t := gNm 9) (vs := [9]) (ρ := [a, b, c, some (.list (xs.map .str)), d, e, f, g, h, i]) (s := s) (fun _ => true) (fun d => match d with | .str z => .str (Str.ofString "q" ++ z) | _ => .none) (by decide) rfl (fun d hd => by
      obtain ⟨z, hz, rfl⟩ := List.mem_map.mp hd
      refine ⟨_, rfl, rfl, fun _ => ?_⟩
      show put (pAdd (.str (Str.ofString "q")) (.str (mk [z]))) s = _
      rw [v_addS (by rw [mk_len]; exact szL (by show 1 + 1 ≤ 100000; decide))]
      rfl)
    rw [this, List.filter_eq_self.mpr (fun _ _ => rfl), List.map_map]
    unfold candS
    rw [List.map_map]
    rfl
  have h2 : lcF (S := S) (iOf asL (cNl (lcF (iOf asS (cK (.str "abcdefghijklmnopqrst"))) (gNm 9) qYes (cB pAdd (cK (.str "q")) (cVar 9)) [9]))) (gNm 8) (qT (cB pNotIn (cVar 8) (cVar 3))) (cVar 8) [8] [a, b, c, some (.list (xs.map .str)), d, e, f, g, h, i] s = some ((candS.filter fun y => !decide (y ∈ xs)).map .str, s) := by
    have := k_keep (S := S) (ds := candS.map PyData.str) (q := qT (cB pNotIn (cVar 8) (cVar 3))) (f := cVar 8) (fi := iOf asL (cNl (lcF (iOf asS (cK (.str "abcdefghijklmnopqrst"))) (gNm 9) qYes (cB pAdd (cK (.str "q")) (cVar 9)) [9]))) (t := gNm 8) (vs := [8]) (ρ := [a, b, c, some (.list (xs.map .str)), d, e, f, g, h, i]) (s := s) (fun d => match d with | .str z => !decide (z ∈ xs) | _ => false) id (by rw [List.length_map, cand_len]; exact szL (by decide)) (it_nl h1) (fun d hd => by
      obtain ⟨z, hz, rfl⟩ := List.mem_map.mp hd
      refine ⟨_, rfl, ?_, fun _ => rfl⟩
      show bnd (put (pNotIn (.str z) (.list (xs.map .str))) s) (fun x s => put (truth x) s) = _
      rw [notIn_strsL]
      rfl)
    rw [this, List.map_id, List.filter_map]
    rfl
  rw [e1] at h2
  exact fl_ix0 h2
end
structure Kds (xs : List Str) (n : Nat) : Prop where
  len : xs.length = n
  nd : xs.Nodup
  wd : ∀ x ∈ xs, Wd x.cps.toList
abbrev Fword : Fn DS := K_w_word Fdraw8
theorem ok_kinds {s : DS} {Q : D → DS → Prop} (q : ∀ xs s', Kds xs 6 → Q (.list (xs.map .str)) s') : Ok (K_w_kinds Fword Fdraw8 [hnd 0, .int 6] s) Q := by
  unfold K_w_kinds B_w_kinds
  refine k_fn (k_seq (k_set ?_))
  simp only [ok_V0, ok_Vs, ok_K, ok_B, ok_U, ok_nil, ok_cons, ok_N, ok_aN, ok_call, ok_nl, ok_fl, ok_afl, ok_T, ok_qNot, ok_qAnd, ok_qOr, ok_and, ok_or, ok_not, ok_if, ok_Sl, ok_oNo, ok_oOf, ok_Ch, ok_it, ok_itA, ok_yes, v_addI, v_sub, v_neg, v_eqI, v_eqS, v_eqB, v_eq0, v_eqT0, v_neI, v_neS, v_neB, v_ne0, v_neT0, v_ltI, v_leI, v_gtI, v_geI, v_is, v_isNot, v_nn, v_ns, v_ni, v_nl, v_nt, v_tb, v_tl, v_tt, v_tn, v_ti, v_asB, v_asI, v_asL, v_asT, v_asS, v_lenL, v_lenT, v_tupL, v_tupT, v_listL, v_listT, v_intB, v_tup0, v_tup1, v_tup2, v_tup3, v_tup4, v_tup5, v_lst0, v_lst1, v_lst2, v_lst3, v_lst4, v_lst5, v_ok0, v_ok1, v_ok2, v_ix0L, v_ix0, v_ix1, v_ix2, v_ix3, v_fs, v_fi, v_fb, v_fn, v_ft, v_f0, v_fc, startR, List.map_cons, List.map_nil, List.length_cons, List.length_nil, List.replicate, List.cons_append, List.nil_append, List.set_cons_zero, List.set_cons_succ, Option.some.injEq, exists_eq_left', Nat.reduceAdd, Nat.reduceSub, Nat.sub_zero, Nat.sub_self, Nat.zero_add, Nat.reduceEqDiff, Bool.not_true, Bool.not_false, if_true, if_false, Bool.and_self, Bool.true_and, Bool.and_true, Bool.false_eq_true, ↓reduceIte, true_and, and_true, decide_true, decide_false, wipeR]
  refine k_seq (k_set ?_)
  simp only [ok_V0, ok_Vs, ok_K, ok_B, ok_U, ok_nil, ok_cons, ok_N, ok_aN, ok_call, ok_nl, ok_fl, ok_afl, ok_T, ok_qNot, ok_qAnd, ok_qOr, ok_and, ok_or, ok_not, ok_if, ok_Sl, ok_oNo, ok_oOf, ok_Ch, ok_it, ok_itA, ok_yes, v_addI, v_sub, v_neg, v_eqI, v_eqS, v_eqB, v_eq0, v_eqT0, v_neI, v_neS, v_neB, v_ne0, v_neT0, v_ltI, v_leI, v_gtI, v_geI, v_is, v_isNot, v_nn, v_ns, v_ni, v_nl, v_nt, v_tb, v_tl, v_tt, v_tn, v_ti, v_asB, v_asI, v_asL, v_asT, v_asS, v_lenL, v_lenT, v_tupL, v_tupT, v_listL, v_listT, v_intB, v_tup0, v_tup1, v_tup2, v_tup3, v_tup4, v_tup5, v_lst0, v_lst1, v_lst2, v_lst3, v_lst4, v_lst5, v_ok0, v_ok1, v_ok2, v_ix0L, v_ix0, v_ix1, v_ix2, v_ix3, v_fs, v_fi, v_fb, v_fn, v_ft, v_f0, v_fc, startR, List.map_cons, List.map_nil, List.length_cons, List.length_nil, List.replicate, List.cons_append, List.nil_append, List.set_cons_zero, List.set_cons_succ, Option.some.injEq, exists_eq_left', Nat.reduceAdd, Nat.reduceSub, Nat.sub_zero, Nat.sub_self, Nat.zero_add, Nat.reduceEqDiff, Bool.not_true, Bool.not_false, if_true, if_false, Bool.and_self, Bool.true_and, Bool.and_true, Bool.false_eq_true, ↓reduceIte, true_and, and_true, decide_true, decide_false, wipeR]
  have hsp : ∃ tk : List Str, aSplit (S := DS) (cB pAdd (cVar 2) (cK (.str " the then there every either unless"))) (cK (.str " ")) [some (hnd 0), some (.int 6), some (.str "absurd all an and any are as at be by false if is least many more no not only or same some than"), none, none, none, none, none, none, none] s = some (tk.map .str, s) := by
    refine ⟨Txt.split ((Str.ofString "absurd all an and any are as at be by false if is least many more no not only or same some than") ++ (Str.ofString " the then there every either unless")) (Str.ofString " "), ?_⟩
    refine split_eq ?_ rfl (by decide) (szL (by decide))
    show put (pAdd (.str (Str.ofString "absurd all an and any are as at be by false if is least many more no not only or same some than")) (.str (Str.ofString " the then there every either unless"))) s = _
    rw [v_addS (szL (by decide))]
    rfl
  obtain ⟨tk, hsp⟩ := hsp
  rw [hsp]
  refine ⟨_, _, rfl, ?_⟩
  clear hsp
  refine k_seq (k_own ?_)
  simp only [ok_V0, ok_Vs, ok_K, ok_B, ok_U, ok_nil, ok_cons, ok_N, ok_aN, ok_call, ok_nl, ok_fl, ok_afl, ok_T, ok_qNot, ok_qAnd, ok_qOr, ok_and, ok_or, ok_not, ok_if, ok_Sl, ok_oNo, ok_oOf, ok_Ch, ok_it, ok_itA, ok_yes, v_addI, v_sub, v_neg, v_eqI, v_eqS, v_eqB, v_eq0, v_eqT0, v_neI, v_neS, v_neB, v_ne0, v_neT0, v_ltI, v_leI, v_gtI, v_geI, v_is, v_isNot, v_nn, v_ns, v_ni, v_nl, v_nt, v_tb, v_tl, v_tt, v_tn, v_ti, v_asB, v_asI, v_asL, v_asT, v_asS, v_lenL, v_lenT, v_tupL, v_tupT, v_listL, v_listT, v_intB, v_tup0, v_tup1, v_tup2, v_tup3, v_tup4, v_tup5, v_lst0, v_lst1, v_lst2, v_lst3, v_lst4, v_lst5, v_ok0, v_ok1, v_ok2, v_ix0L, v_ix0, v_ix1, v_ix2, v_ix3, v_fs, v_fi, v_fb, v_fn, v_ft, v_f0, v_fc, startR, List.map_cons, List.map_nil, List.length_cons, List.length_nil, List.replicate, List.cons_append, List.nil_append, List.set_cons_zero, List.set_cons_succ, Option.some.injEq, exists_eq_left', Nat.reduceAdd, Nat.reduceSub, Nat.sub_zero, Nat.sub_self, Nat.zero_add, Nat.reduceEqDiff, Bool.not_true, Bool.not_false, if_true, if_false, Bool.and_self, Bool.true_and, Bool.and_true, Bool.false_eq_true, ↓reduceIte, true_and, and_true, decide_true, decide_false, wipeR]
  refine k_seq (k_forP (fun ds s' => ds = rngD 0 6) ?_ ?_)
  · simp only [ok_V0, ok_Vs, ok_K, ok_B, ok_U, ok_nil, ok_cons, ok_N, ok_aN, ok_call, ok_nl, ok_fl, ok_afl, ok_T, ok_qNot, ok_qAnd, ok_qOr, ok_and, ok_or, ok_not, ok_if, ok_Sl, ok_oNo, ok_oOf, ok_Ch, ok_it, ok_itA, ok_yes, v_addI, v_sub, v_neg, v_eqI, v_eqS, v_eqB, v_eq0, v_eqT0, v_neI, v_neS, v_neB, v_ne0, v_neT0, v_ltI, v_leI, v_gtI, v_geI, v_is, v_isNot, v_nn, v_ns, v_ni, v_nl, v_nt, v_tb, v_tl, v_tt, v_tn, v_ti, v_asB, v_asI, v_asL, v_asT, v_asS, v_lenL, v_lenT, v_tupL, v_tupT, v_listL, v_listT, v_intB, v_tup0, v_tup1, v_tup2, v_tup3, v_tup4, v_tup5, v_lst0, v_lst1, v_lst2, v_lst3, v_lst4, v_lst5, v_ok0, v_ok1, v_ok2, v_ix0L, v_ix0, v_ix1, v_ix2, v_ix3, v_fs, v_fi, v_fb, v_fn, v_ft, v_f0, v_fc, startR, List.map_cons, List.map_nil, List.length_cons, List.length_nil, List.replicate, List.cons_append, List.nil_append, List.set_cons_zero, List.set_cons_succ, Option.some.injEq, exists_eq_left', Nat.reduceAdd, Nat.reduceSub, Nat.sub_zero, Nat.sub_self, Nat.zero_add, Nat.reduceEqDiff, Bool.not_true, Bool.not_false, if_true, if_false, Bool.and_self, Bool.true_and, Bool.and_true, Bool.false_eq_true, ↓reduceIte, true_and, and_true, decide_true, decide_false, wipeR]
    rw [pr1 (by omega) (by omega)]
    simp only [ok_V0, ok_Vs, ok_K, ok_B, ok_U, ok_nil, ok_cons, ok_N, ok_aN, ok_call, ok_nl, ok_fl, ok_afl, ok_T, ok_qNot, ok_qAnd, ok_qOr, ok_and, ok_or, ok_not, ok_if, ok_Sl, ok_oNo, ok_oOf, ok_Ch, ok_it, ok_itA, ok_yes, v_addI, v_sub, v_neg, v_eqI, v_eqS, v_eqB, v_eq0, v_eqT0, v_neI, v_neS, v_neB, v_ne0, v_neT0, v_ltI, v_leI, v_gtI, v_geI, v_is, v_isNot, v_nn, v_ns, v_ni, v_nl, v_nt, v_tb, v_tl, v_tt, v_tn, v_ti, v_asB, v_asI, v_asL, v_asT, v_asS, v_lenL, v_lenT, v_tupL, v_tupT, v_listL, v_listT, v_intB, v_tup0, v_tup1, v_tup2, v_tup3, v_tup4, v_tup5, v_lst0, v_lst1, v_lst2, v_lst3, v_lst4, v_lst5, v_ok0, v_ok1, v_ok2, v_ix0L, v_ix0, v_ix1, v_ix2, v_ix3, v_fs, v_fi, v_fb, v_fn, v_ft, v_f0, v_fc, startR, List.map_cons, List.map_nil, List.length_cons, List.length_nil, List.replicate, List.cons_append, List.nil_append, List.set_cons_zero, List.set_cons_succ, Option.some.injEq, exists_eq_left', Nat.reduceAdd, Nat.reduceSub, Nat.sub_zero, Nat.sub_self, Nat.zero_add, Nat.reduceEqDiff, Bool.not_true, Bool.not_false, if_true, if_false, Bool.and_self, Bool.true_and, Bool.and_true, Bool.false_eq_true, ↓reduceIte, true_and, and_true, decide_true, decide_false, wipeR]
    rfl
  · rintro ds s1 rfl
    refine ⟨fun j ρ _ => ∃ (xs : List Str) (o4 o5 o6 o7 o8 o9 : Option D), ρ = [some (hnd 0), some (.int 6), some (.list (tk.map .str)), some (.list (xs.map .str)), o4, o5, o6, o7, o8, o9] ∧ Kds xs j, ⟨[], none, none, none, none, none, none, rfl, rfl, List.nodup_nil, by simp⟩, ?_, ?_⟩
    · rintro j d ρ s2 hd ⟨xs, o4, o5, o6, o7, o8, o9, rfl, hk⟩
      obtain ⟨hj, rfl⟩ := rng_get hd
      refine ⟨_, rfl, ?_⟩
      refine k_seq (k_set ?_)
      simp only [ok_V0, ok_Vs, ok_K, ok_B, ok_U, ok_nil, ok_cons, ok_N, ok_aN, ok_call, ok_nl, ok_fl, ok_afl, ok_T, ok_qNot, ok_qAnd, ok_qOr, ok_and, ok_or, ok_not, ok_if, ok_Sl, ok_oNo, ok_oOf, ok_Ch, ok_it, ok_itA, ok_yes, v_addI, v_sub, v_neg, v_eqI, v_eqS, v_eqB, v_eq0, v_eqT0, v_neI, v_neS, v_neB, v_ne0, v_neT0, v_ltI, v_leI, v_gtI, v_geI, v_is, v_isNot, v_nn, v_ns, v_ni, v_nl, v_nt, v_tb, v_tl, v_tt, v_tn, v_ti, v_asB, v_asI, v_asL, v_asT, v_asS, v_lenL, v_lenT, v_tupL, v_tupT, v_listL, v_listT, v_intB, v_tup0, v_tup1, v_tup2, v_tup3, v_tup4, v_tup5, v_lst0, v_lst1, v_lst2, v_lst3, v_lst4, v_lst5, v_ok0, v_ok1, v_ok2, v_ix0L, v_ix0, v_ix1, v_ix2, v_ix3, v_fs, v_fi, v_fb, v_fn, v_ft, v_f0, v_fc, startR, List.map_cons, List.map_nil, List.length_cons, List.length_nil, List.replicate, List.cons_append, List.nil_append, List.set_cons_zero, List.set_cons_succ, Option.some.injEq, exists_eq_left', Nat.reduceAdd, Nat.reduceSub, Nat.sub_zero, Nat.sub_self, Nat.zero_add, Nat.reduceEqDiff, Bool.not_true, Bool.not_false, if_true, if_false, Bool.and_self, Bool.true_and, Bool.and_true, Bool.false_eq_true, ↓reduceIte, true_and, and_true, decide_true, decide_false, wipeR]
      refine ok_word fun l0 s3 l2 l8 hs0 => ?_
      have hw0 : Wd l0 := ⟨by omega, l8, hs0⟩
      refine k_seq (k_set ?_)
      simp only [ok_V0, ok_Vs, ok_K, ok_B, ok_U, ok_nil, ok_cons, ok_N, ok_aN, ok_call, ok_nl, ok_fl, ok_afl, ok_T, ok_qNot, ok_qAnd, ok_qOr, ok_and, ok_or, ok_not, ok_if, ok_Sl, ok_oNo, ok_oOf, ok_Ch, ok_it, ok_itA, ok_yes, v_addI, v_sub, v_neg, v_eqI, v_eqS, v_eqB, v_eq0, v_eqT0, v_neI, v_neS, v_neB, v_ne0, v_neT0, v_ltI, v_leI, v_gtI, v_geI, v_is, v_isNot, v_nn, v_ns, v_ni, v_nl, v_nt, v_tb, v_tl, v_tt, v_tn, v_ti, v_asB, v_asI, v_asL, v_asT, v_asS, v_lenL, v_lenT, v_tupL, v_tupT, v_listL, v_listT, v_intB, v_tup0, v_tup1, v_tup2, v_tup3, v_tup4, v_tup5, v_lst0, v_lst1, v_lst2, v_lst3, v_lst4, v_lst5, v_ok0, v_ok1, v_ok2, v_ix0L, v_ix0, v_ix1, v_ix2, v_ix3, v_fs, v_fi, v_fb, v_fn, v_ft, v_f0, v_fc, startR, List.map_cons, List.map_nil, List.length_cons, List.length_nil, List.replicate, List.cons_append, List.nil_append, List.set_cons_zero, List.set_cons_succ, Option.some.injEq, exists_eq_left', Nat.reduceAdd, Nat.reduceSub, Nat.sub_zero, Nat.sub_self, Nat.zero_add, Nat.reduceEqDiff, Bool.not_true, Bool.not_false, if_true, if_false, Bool.and_self, Bool.true_and, Bool.and_true, Bool.false_eq_true, ↓reduceIte, true_and, and_true, decide_true, decide_false, wipeR]
      refine k_draw8 (by omega) (by omega) fun w s4 w0 w1 => ?_
      refine k_seq (Ok.imp (Q := fun r _ => ∃ l, r = .nx [some (hnd 0), some (.int 6), some (.list (tk.map .str)), some (.list (xs.map .str)), some (.int (0 + (j : Int))), some (.str (mk l)), some (.int w), o7, o8, o9] ∧ Wd l) ?_ ?_)
      · refine k_sIf ?_
        simp only [ok_V0, ok_Vs, ok_K, ok_B, ok_U, ok_nil, ok_cons, ok_N, ok_aN, ok_call, ok_nl, ok_fl, ok_afl, ok_T, ok_qNot, ok_qAnd, ok_qOr, ok_and, ok_or, ok_not, ok_if, ok_Sl, ok_oNo, ok_oOf, ok_Ch, ok_it, ok_itA, ok_yes, v_addI, v_sub, v_neg, v_eqI, v_eqS, v_eqB, v_eq0, v_eqT0, v_neI, v_neS, v_neB, v_ne0, v_neT0, v_ltI, v_leI, v_gtI, v_geI, v_is, v_isNot, v_nn, v_ns, v_ni, v_nl, v_nt, v_tb, v_tl, v_tt, v_tn, v_ti, v_asB, v_asI, v_asL, v_asT, v_asS, v_lenL, v_lenT, v_tupL, v_tupT, v_listL, v_listT, v_intB, v_tup0, v_tup1, v_tup2, v_tup3, v_tup4, v_tup5, v_lst0, v_lst1, v_lst2, v_lst3, v_lst4, v_lst5, v_ok0, v_ok1, v_ok2, v_ix0L, v_ix0, v_ix1, v_ix2, v_ix3, v_fs, v_fi, v_fb, v_fn, v_ft, v_f0, v_fc, startR, List.map_cons, List.map_nil, List.length_cons, List.length_nil, List.replicate, List.cons_append, List.nil_append, List.set_cons_zero, List.set_cons_succ, Option.some.injEq, exists_eq_left', Nat.reduceAdd, Nat.reduceSub, Nat.sub_zero, Nat.sub_self, Nat.zero_add, Nat.reduceEqDiff, Bool.not_true, Bool.not_false, if_true, if_false, Bool.and_self, Bool.true_and, Bool.and_true, Bool.false_eq_true, ↓reduceIte, true_and, and_true, decide_true, decide_false, wipeR]
        by_cases hw : w = 1
        · rw [decide_eq_true hw]
          simp only [ok_V0, ok_Vs, ok_K, ok_B, ok_U, ok_nil, ok_cons, ok_N, ok_aN, ok_call, ok_nl, ok_fl, ok_afl, ok_T, ok_qNot, ok_qAnd, ok_qOr, ok_and, ok_or, ok_not, ok_if, ok_Sl, ok_oNo, ok_oOf, ok_Ch, ok_it, ok_itA, ok_yes, v_addI, v_sub, v_neg, v_eqI, v_eqS, v_eqB, v_eq0, v_eqT0, v_neI, v_neS, v_neB, v_ne0, v_neT0, v_ltI, v_leI, v_gtI, v_geI, v_is, v_isNot, v_nn, v_ns, v_ni, v_nl, v_nt, v_tb, v_tl, v_tt, v_tn, v_ti, v_asB, v_asI, v_asL, v_asT, v_asS, v_lenL, v_lenT, v_tupL, v_tupT, v_listL, v_listT, v_intB, v_tup0, v_tup1, v_tup2, v_tup3, v_tup4, v_tup5, v_lst0, v_lst1, v_lst2, v_lst3, v_lst4, v_lst5, v_ok0, v_ok1, v_ok2, v_ix0L, v_ix0, v_ix1, v_ix2, v_ix3, v_fs, v_fi, v_fb, v_fn, v_ft, v_f0, v_fc, startR, List.map_cons, List.map_nil, List.length_cons, List.length_nil, List.replicate, List.cons_append, List.nil_append, List.set_cons_zero, List.set_cons_succ, Option.some.injEq, exists_eq_left', Nat.reduceAdd, Nat.reduceSub, Nat.sub_zero, Nat.sub_self, Nat.zero_add, Nat.reduceEqDiff, Bool.not_true, Bool.not_false, if_true, if_false, Bool.and_self, Bool.true_and, Bool.and_true, Bool.false_eq_true, ↓reduceIte, true_and, and_true, decide_true, decide_false, wipeR]
          cases xs with
          | nil =>
            simp only [ok_V0, ok_Vs, ok_K, ok_B, ok_U, ok_nil, ok_cons, ok_N, ok_aN, ok_call, ok_nl, ok_fl, ok_afl, ok_T, ok_qNot, ok_qAnd, ok_qOr, ok_and, ok_or, ok_not, ok_if, ok_Sl, ok_oNo, ok_oOf, ok_Ch, ok_it, ok_itA, ok_yes, v_addI, v_sub, v_neg, v_eqI, v_eqS, v_eqB, v_eq0, v_eqT0, v_neI, v_neS, v_neB, v_ne0, v_neT0, v_ltI, v_leI, v_gtI, v_geI, v_is, v_isNot, v_nn, v_ns, v_ni, v_nl, v_nt, v_tb, v_tl, v_tt, v_tn, v_ti, v_asB, v_asI, v_asL, v_asT, v_asS, v_lenL, v_lenT, v_tupL, v_tupT, v_listL, v_listT, v_intB, v_tup0, v_tup1, v_tup2, v_tup3, v_tup4, v_tup5, v_lst0, v_lst1, v_lst2, v_lst3, v_lst4, v_lst5, v_ok0, v_ok1, v_ok2, v_ix0L, v_ix0, v_ix1, v_ix2, v_ix3, v_fs, v_fi, v_fb, v_fn, v_ft, v_f0, v_fc, startR, List.map_cons, List.map_nil, List.length_cons, List.length_nil, List.replicate, List.cons_append, List.nil_append, List.set_cons_zero, List.set_cons_succ, Option.some.injEq, exists_eq_left', Nat.reduceAdd, Nat.reduceSub, Nat.sub_zero, Nat.sub_self, Nat.zero_add, Nat.reduceEqDiff, Bool.not_true, Bool.not_false, if_true, if_false, Bool.and_self, Bool.true_and, Bool.and_true, Bool.false_eq_true, ↓reduceIte, true_and, and_true, decide_true, decide_false, wipeR, List.isEmpty_nil]
            exact k_nx ⟨l0, rfl, hw0⟩
          | cons x xs =>
            have hx := hk.wd x List.mem_cons_self
            simp only [ok_V0, ok_Vs, ok_K, ok_B, ok_U, ok_nil, ok_cons, ok_N, ok_aN, ok_call, ok_nl, ok_fl, ok_afl, ok_T, ok_qNot, ok_qAnd, ok_qOr, ok_and, ok_or, ok_not, ok_if, ok_Sl, ok_oNo, ok_oOf, ok_Ch, ok_it, ok_itA, ok_yes, v_addI, v_sub, v_neg, v_eqI, v_eqS, v_eqB, v_eq0, v_eqT0, v_neI, v_neS, v_neB, v_ne0, v_neT0, v_ltI, v_leI, v_gtI, v_geI, v_is, v_isNot, v_nn, v_ns, v_ni, v_nl, v_nt, v_tb, v_tl, v_tt, v_tn, v_ti, v_asB, v_asI, v_asL, v_asT, v_asS, v_lenL, v_lenT, v_tupL, v_tupT, v_listL, v_listT, v_intB, v_tup0, v_tup1, v_tup2, v_tup3, v_tup4, v_tup5, v_lst0, v_lst1, v_lst2, v_lst3, v_lst4, v_lst5, v_ok0, v_ok1, v_ok2, v_ix0L, v_ix0, v_ix1, v_ix2, v_ix3, v_fs, v_fi, v_fb, v_fn, v_ft, v_f0, v_fc, startR, List.map_cons, List.map_nil, List.length_cons, List.length_nil, List.replicate, List.cons_append, List.nil_append, List.set_cons_zero, List.set_cons_succ, Option.some.injEq, exists_eq_left', Nat.reduceAdd, Nat.reduceSub, Nat.sub_zero, Nat.sub_self, Nat.zero_add, Nat.reduceEqDiff, Bool.not_true, Bool.not_false, if_true, if_false, Bool.and_self, Bool.true_and, Bool.and_true, Bool.false_eq_true, ↓reduceIte, true_and, and_true, decide_true, decide_false, wipeR, List.isEmpty_cons]
            refine k_set ?_
            simp only [ok_V0, ok_Vs, ok_K, ok_B, ok_U, ok_nil, ok_cons, ok_N, ok_aN, ok_call, ok_nl, ok_fl, ok_afl, ok_T, ok_qNot, ok_qAnd, ok_qOr, ok_and, ok_or, ok_not, ok_if, ok_Sl, ok_oNo, ok_oOf, ok_Ch, ok_it, ok_itA, ok_yes, v_addI, v_sub, v_neg, v_eqI, v_eqS, v_eqB, v_eq0, v_eqT0, v_neI, v_neS, v_neB, v_ne0, v_neT0, v_ltI, v_leI, v_gtI, v_geI, v_is, v_isNot, v_nn, v_ns, v_ni, v_nl, v_nt, v_tb, v_tl, v_tt, v_tn, v_ti, v_asB, v_asI, v_asL, v_asT, v_asS, v_lenL, v_lenT, v_tupL, v_tupT, v_listL, v_listT, v_intB, v_tup0, v_tup1, v_tup2, v_tup3, v_tup4, v_tup5, v_lst0, v_lst1, v_lst2, v_lst3, v_lst4, v_lst5, v_ok0, v_ok1, v_ok2, v_ix0L, v_ix0, v_ix1, v_ix2, v_ix3, v_fs, v_fi, v_fb, v_fn, v_ft, v_f0, v_fc, startR, List.map_cons, List.map_nil, List.length_cons, List.length_nil, List.replicate, List.cons_append, List.nil_append, List.set_cons_zero, List.set_cons_succ, Option.some.injEq, exists_eq_left', Nat.reduceAdd, Nat.reduceSub, Nat.sub_zero, Nat.sub_self, Nat.zero_add, Nat.reduceEqDiff, Bool.not_true, Bool.not_false, if_true, if_false, Bool.and_self, Bool.true_and, Bool.and_true, Bool.false_eq_true, ↓reduceIte, true_and, and_true, decide_true, decide_false, wipeR]
            rw [mk_of x]
            generalize x.cps.toList = lx at hx
            have h1 := hx.lo
            have h2 := hx.hi
            refine ⟨_, v_addS (by rw [mk_len, mk_len]; exact szL (by omega)), ?_⟩
            rw [mk_app, v_slS (by rw [mk_len, List.length_append]; exact szL (by omega))]
            refine ⟨_, rfl, rfl, (lx ++ l0).take 8, ?_, ?_, ?_, ?_⟩
            · rw [show (8 : Int) = ((8 : Nat) : Int) from rfl, cut_to]
            · rw [List.length_take, List.length_append]; omega
            · rw [List.length_take]; omega
            · refine inAll_take ?_ 8
              rw [inAll_app, hx.sm, hs0]
              rfl
        · rw [decide_eq_false hw]
          simp only [ok_V0, ok_Vs, ok_K, ok_B, ok_U, ok_nil, ok_cons, ok_N, ok_aN, ok_call, ok_nl, ok_fl, ok_afl, ok_T, ok_qNot, ok_qAnd, ok_qOr, ok_and, ok_or, ok_not, ok_if, ok_Sl, ok_oNo, ok_oOf, ok_Ch, ok_it, ok_itA, ok_yes, v_addI, v_sub, v_neg, v_eqI, v_eqS, v_eqB, v_eq0, v_eqT0, v_neI, v_neS, v_neB, v_ne0, v_neT0, v_ltI, v_leI, v_gtI, v_geI, v_is, v_isNot, v_nn, v_ns, v_ni, v_nl, v_nt, v_tb, v_tl, v_tt, v_tn, v_ti, v_asB, v_asI, v_asL, v_asT, v_asS, v_lenL, v_lenT, v_tupL, v_tupT, v_listL, v_listT, v_intB, v_tup0, v_tup1, v_tup2, v_tup3, v_tup4, v_tup5, v_lst0, v_lst1, v_lst2, v_lst3, v_lst4, v_lst5, v_ok0, v_ok1, v_ok2, v_ix0L, v_ix0, v_ix1, v_ix2, v_ix3, v_fs, v_fi, v_fb, v_fn, v_ft, v_f0, v_fc, startR, List.map_cons, List.map_nil, List.length_cons, List.length_nil, List.replicate, List.cons_append, List.nil_append, List.set_cons_zero, List.set_cons_succ, Option.some.injEq, exists_eq_left', Nat.reduceAdd, Nat.reduceSub, Nat.sub_zero, Nat.sub_self, Nat.zero_add, Nat.reduceEqDiff, Bool.not_true, Bool.not_false, if_true, if_false, Bool.and_self, Bool.true_and, Bool.and_true, Bool.false_eq_true, ↓reduceIte, true_and, and_true, decide_true, decide_false, wipeR]
          exact k_nx ⟨l0, rfl, hw0⟩
      rintro r s5 ⟨l1, rfl, hw1⟩
      refine k_seq (Ok.imp (Q := fun r _ => ∃ l o7, r = .nx [some (hnd 0), some (.int 6), some (.list (tk.map .str)), some (.list (xs.map .str)), some (.int (0 + (j : Int))), some (.str (mk l)), some (.int w), o7, o8, o9] ∧ Wd l) ?_ ?_)
      · refine k_sIf ?_
        simp only [ok_V0, ok_Vs, ok_K, ok_B, ok_U, ok_nil, ok_cons, ok_N, ok_aN, ok_call, ok_nl, ok_fl, ok_afl, ok_T, ok_qNot, ok_qAnd, ok_qOr, ok_and, ok_or, ok_not, ok_if, ok_Sl, ok_oNo, ok_oOf, ok_Ch, ok_it, ok_itA, ok_yes, v_addI, v_sub, v_neg, v_eqI, v_eqS, v_eqB, v_eq0, v_eqT0, v_neI, v_neS, v_neB, v_ne0, v_neT0, v_ltI, v_leI, v_gtI, v_geI, v_is, v_isNot, v_nn, v_ns, v_ni, v_nl, v_nt, v_tb, v_tl, v_tt, v_tn, v_ti, v_asB, v_asI, v_asL, v_asT, v_asS, v_lenL, v_lenT, v_tupL, v_tupT, v_listL, v_listT, v_intB, v_tup0, v_tup1, v_tup2, v_tup3, v_tup4, v_tup5, v_lst0, v_lst1, v_lst2, v_lst3, v_lst4, v_lst5, v_ok0, v_ok1, v_ok2, v_ix0L, v_ix0, v_ix1, v_ix2, v_ix3, v_fs, v_fi, v_fb, v_fn, v_ft, v_f0, v_fc, startR, List.map_cons, List.map_nil, List.length_cons, List.length_nil, List.replicate, List.cons_append, List.nil_append, List.set_cons_zero, List.set_cons_succ, Option.some.injEq, exists_eq_left', Nat.reduceAdd, Nat.reduceSub, Nat.sub_zero, Nat.sub_self, Nat.zero_add, Nat.reduceEqDiff, Bool.not_true, Bool.not_false, if_true, if_false, Bool.and_self, Bool.true_and, Bool.and_true, Bool.false_eq_true, ↓reduceIte, true_and, and_true, decide_true, decide_false, wipeR]
        by_cases hw : w = 2
        · rw [decide_eq_true hw]
          simp only [ok_V0, ok_Vs, ok_K, ok_B, ok_U, ok_nil, ok_cons, ok_N, ok_aN, ok_call, ok_nl, ok_fl, ok_afl, ok_T, ok_qNot, ok_qAnd, ok_qOr, ok_and, ok_or, ok_not, ok_if, ok_Sl, ok_oNo, ok_oOf, ok_Ch, ok_it, ok_itA, ok_yes, v_addI, v_sub, v_neg, v_eqI, v_eqS, v_eqB, v_eq0, v_eqT0, v_neI, v_neS, v_neB, v_ne0, v_neT0, v_ltI, v_leI, v_gtI, v_geI, v_is, v_isNot, v_nn, v_ns, v_ni, v_nl, v_nt, v_tb, v_tl, v_tt, v_tn, v_ti, v_asB, v_asI, v_asL, v_asT, v_asS, v_lenL, v_lenT, v_tupL, v_tupT, v_listL, v_listT, v_intB, v_tup0, v_tup1, v_tup2, v_tup3, v_tup4, v_tup5, v_lst0, v_lst1, v_lst2, v_lst3, v_lst4, v_lst5, v_ok0, v_ok1, v_ok2, v_ix0L, v_ix0, v_ix1, v_ix2, v_ix3, v_fs, v_fi, v_fb, v_fn, v_ft, v_f0, v_fc, startR, List.map_cons, List.map_nil, List.length_cons, List.length_nil, List.replicate, List.cons_append, List.nil_append, List.set_cons_zero, List.set_cons_succ, Option.some.injEq, exists_eq_left', Nat.reduceAdd, Nat.reduceSub, Nat.sub_zero, Nat.sub_self, Nat.zero_add, Nat.reduceEqDiff, Bool.not_true, Bool.not_false, if_true, if_false, Bool.and_self, Bool.true_and, Bool.and_true, Bool.false_eq_true, ↓reduceIte, true_and, and_true, decide_true, decide_false, wipeR]
          cases xs with
          | nil =>
            simp only [ok_V0, ok_Vs, ok_K, ok_B, ok_U, ok_nil, ok_cons, ok_N, ok_aN, ok_call, ok_nl, ok_fl, ok_afl, ok_T, ok_qNot, ok_qAnd, ok_qOr, ok_and, ok_or, ok_not, ok_if, ok_Sl, ok_oNo, ok_oOf, ok_Ch, ok_it, ok_itA, ok_yes, v_addI, v_sub, v_neg, v_eqI, v_eqS, v_eqB, v_eq0, v_eqT0, v_neI, v_neS, v_neB, v_ne0, v_neT0, v_ltI, v_leI, v_gtI, v_geI, v_is, v_isNot, v_nn, v_ns, v_ni, v_nl, v_nt, v_tb, v_tl, v_tt, v_tn, v_ti, v_asB, v_asI, v_asL, v_asT, v_asS, v_lenL, v_lenT, v_tupL, v_tupT, v_listL, v_listT, v_intB, v_tup0, v_tup1, v_tup2, v_tup3, v_tup4, v_tup5, v_lst0, v_lst1, v_lst2, v_lst3, v_lst4, v_lst5, v_ok0, v_ok1, v_ok2, v_ix0L, v_ix0, v_ix1, v_ix2, v_ix3, v_fs, v_fi, v_fb, v_fn, v_ft, v_f0, v_fc, startR, List.map_cons, List.map_nil, List.length_cons, List.length_nil, List.replicate, List.cons_append, List.nil_append, List.set_cons_zero, List.set_cons_succ, Option.some.injEq, exists_eq_left', Nat.reduceAdd, Nat.reduceSub, Nat.sub_zero, Nat.sub_self, Nat.zero_add, Nat.reduceEqDiff, Bool.not_true, Bool.not_false, if_true, if_false, Bool.and_self, Bool.true_and, Bool.and_true, Bool.false_eq_true, ↓reduceIte, true_and, and_true, decide_true, decide_false, wipeR, List.isEmpty_nil]
            exact k_nx ⟨l1, o7, rfl, hw1⟩
          | cons x xs =>
            have hx := hk.wd x List.mem_cons_self
            simp only [ok_V0, ok_Vs, ok_K, ok_B, ok_U, ok_nil, ok_cons, ok_N, ok_aN, ok_call, ok_nl, ok_fl, ok_afl, ok_T, ok_qNot, ok_qAnd, ok_qOr, ok_and, ok_or, ok_not, ok_if, ok_Sl, ok_oNo, ok_oOf, ok_Ch, ok_it, ok_itA, ok_yes, v_addI, v_sub, v_neg, v_eqI, v_eqS, v_eqB, v_eq0, v_eqT0, v_neI, v_neS, v_neB, v_ne0, v_neT0, v_ltI, v_leI, v_gtI, v_geI, v_is, v_isNot, v_nn, v_ns, v_ni, v_nl, v_nt, v_tb, v_tl, v_tt, v_tn, v_ti, v_asB, v_asI, v_asL, v_asT, v_asS, v_lenL, v_lenT, v_tupL, v_tupT, v_listL, v_listT, v_intB, v_tup0, v_tup1, v_tup2, v_tup3, v_tup4, v_tup5, v_lst0, v_lst1, v_lst2, v_lst3, v_lst4, v_lst5, v_ok0, v_ok1, v_ok2, v_ix0L, v_ix0, v_ix1, v_ix2, v_ix3, v_fs, v_fi, v_fb, v_fn, v_ft, v_f0, v_fc, startR, List.map_cons, List.map_nil, List.length_cons, List.length_nil, List.replicate, List.cons_append, List.nil_append, List.set_cons_zero, List.set_cons_succ, Option.some.injEq, exists_eq_left', Nat.reduceAdd, Nat.reduceSub, Nat.sub_zero, Nat.sub_self, Nat.zero_add, Nat.reduceEqDiff, Bool.not_true, Bool.not_false, if_true, if_false, Bool.and_self, Bool.true_and, Bool.and_true, Bool.false_eq_true, ↓reduceIte, true_and, and_true, decide_true, decide_false, wipeR, List.isEmpty_cons]
            refine k_seq (k_set ?_)
            simp only [ok_V0, ok_Vs, ok_K, ok_B, ok_U, ok_nil, ok_cons, ok_N, ok_aN, ok_call, ok_nl, ok_fl, ok_afl, ok_T, ok_qNot, ok_qAnd, ok_qOr, ok_and, ok_or, ok_not, ok_if, ok_Sl, ok_oNo, ok_oOf, ok_Ch, ok_it, ok_itA, ok_yes, v_addI, v_sub, v_neg, v_eqI, v_eqS, v_eqB, v_eq0, v_eqT0, v_neI, v_neS, v_neB, v_ne0, v_neT0, v_ltI, v_leI, v_gtI, v_geI, v_is, v_isNot, v_nn, v_ns, v_ni, v_nl, v_nt, v_tb, v_tl, v_tt, v_tn, v_ti, v_asB, v_asI, v_asL, v_asT, v_asS, v_lenL, v_lenT, v_tupL, v_tupT, v_listL, v_listT, v_intB, v_tup0, v_tup1, v_tup2, v_tup3, v_tup4, v_tup5, v_lst0, v_lst1, v_lst2, v_lst3, v_lst4, v_lst5, v_ok0, v_ok1, v_ok2, v_ix0L, v_ix0, v_ix1, v_ix2, v_ix3, v_fs, v_fi, v_fb, v_fn, v_ft, v_f0, v_fc, startR, List.map_cons, List.map_nil, List.length_cons, List.length_nil, List.replicate, List.cons_append, List.nil_append, List.set_cons_zero, List.set_cons_succ, Option.some.injEq, exists_eq_left', Nat.reduceAdd, Nat.reduceSub, Nat.sub_zero, Nat.sub_self, Nat.zero_add, Nat.reduceEqDiff, Bool.not_true, Bool.not_false, if_true, if_false, Bool.and_self, Bool.true_and, Bool.and_true, Bool.false_eq_true, ↓reduceIte, true_and, and_true, decide_true, decide_false, wipeR]
            rw [mk_of x]
            generalize x.cps.toList = lx at hx
            have h1 := hx.lo
            have h2 := hx.hi
            have h3 := hw1.lo
            rw [v_lenS (by rw [mk_len]; exact szL (by omega)), mk_len]
            simp only [ok_V0, ok_Vs, ok_K, ok_B, ok_U, ok_nil, ok_cons, ok_N, ok_aN, ok_call, ok_nl, ok_fl, ok_afl, ok_T, ok_qNot, ok_qAnd, ok_qOr, ok_and, ok_or, ok_not, ok_if, ok_Sl, ok_oNo, ok_oOf, ok_Ch, ok_it, ok_itA, ok_yes, v_addI, v_sub, v_neg, v_eqI, v_eqS, v_eqB, v_eq0, v_eqT0, v_neI, v_neS, v_neB, v_ne0, v_neT0, v_ltI, v_leI, v_gtI, v_geI, v_is, v_isNot, v_nn, v_ns, v_ni, v_nl, v_nt, v_tb, v_tl, v_tt, v_tn, v_ti, v_asB, v_asI, v_asL, v_asT, v_asS, v_lenL, v_lenT, v_tupL, v_tupT, v_listL, v_listT, v_intB, v_tup0, v_tup1, v_tup2, v_tup3, v_tup4, v_tup5, v_lst0, v_lst1, v_lst2, v_lst3, v_lst4, v_lst5, v_ok0, v_ok1, v_ok2, v_ix0L, v_ix0, v_ix1, v_ix2, v_ix3, v_fs, v_fi, v_fb, v_fn, v_ft, v_f0, v_fc, startR, List.map_cons, List.map_nil, List.length_cons, List.length_nil, List.replicate, List.cons_append, List.nil_append, List.set_cons_zero, List.set_cons_succ, Option.some.injEq, exists_eq_left', Nat.reduceAdd, Nat.reduceSub, Nat.sub_zero, Nat.sub_self, Nat.zero_add, Nat.reduceEqDiff, Bool.not_true, Bool.not_false, if_true, if_false, Bool.and_self, Bool.true_and, Bool.and_true, Bool.false_eq_true, ↓reduceIte, true_and, and_true, decide_true, decide_false, wipeR]
            refine k_draw8 (by omega) (by omega) fun a s6 a0 a1 => ?_
            obtain ⟨a, rfl⟩ : ∃ k : Nat, a = k := ⟨a.toNat, by omega⟩
            simp only [ok_V0, ok_Vs, ok_K, ok_B, ok_U, ok_nil, ok_cons, ok_N, ok_aN, ok_call, ok_nl, ok_fl, ok_afl, ok_T, ok_qNot, ok_qAnd, ok_qOr, ok_and, ok_or, ok_not, ok_if, ok_Sl, ok_oNo, ok_oOf, ok_Ch, ok_it, ok_itA, ok_yes, v_addI, v_sub, v_neg, v_eqI, v_eqS, v_eqB, v_eq0, v_eqT0, v_neI, v_neS, v_neB, v_ne0, v_neT0, v_ltI, v_leI, v_gtI, v_geI, v_is, v_isNot, v_nn, v_ns, v_ni, v_nl, v_nt, v_tb, v_tl, v_tt, v_tn, v_ti, v_asB, v_asI, v_asL, v_asT, v_asS, v_lenL, v_lenT, v_tupL, v_tupT, v_listL, v_listT, v_intB, v_tup0, v_tup1, v_tup2, v_tup3, v_tup4, v_tup5, v_lst0, v_lst1, v_lst2, v_lst3, v_lst4, v_lst5, v_ok0, v_ok1, v_ok2, v_ix0L, v_ix0, v_ix1, v_ix2, v_ix3, v_fs, v_fi, v_fb, v_fn, v_ft, v_f0, v_fc, startR, List.map_cons, List.map_nil, List.length_cons, List.length_nil, List.replicate, List.cons_append, List.nil_append, List.set_cons_zero, List.set_cons_succ, Option.some.injEq, exists_eq_left', Nat.reduceAdd, Nat.reduceSub, Nat.sub_zero, Nat.sub_self, Nat.zero_add, Nat.reduceEqDiff, Bool.not_true, Bool.not_false, if_true, if_false, Bool.and_self, Bool.true_and, Bool.and_true, Bool.false_eq_true, ↓reduceIte, true_and, and_true, decide_true, decide_false, wipeR]
            refine k_set ?_
            simp only [ok_V0, ok_Vs, ok_K, ok_B, ok_U, ok_nil, ok_cons, ok_N, ok_aN, ok_call, ok_nl, ok_fl, ok_afl, ok_T, ok_qNot, ok_qAnd, ok_qOr, ok_and, ok_or, ok_not, ok_if, ok_Sl, ok_oNo, ok_oOf, ok_Ch, ok_it, ok_itA, ok_yes, v_addI, v_sub, v_neg, v_eqI, v_eqS, v_eqB, v_eq0, v_eqT0, v_neI, v_neS, v_neB, v_ne0, v_neT0, v_ltI, v_leI, v_gtI, v_geI, v_is, v_isNot, v_nn, v_ns, v_ni, v_nl, v_nt, v_tb, v_tl, v_tt, v_tn, v_ti, v_asB, v_asI, v_asL, v_asT, v_asS, v_lenL, v_lenT, v_tupL, v_tupT, v_listL, v_listT, v_intB, v_tup0, v_tup1, v_tup2, v_tup3, v_tup4, v_tup5, v_lst0, v_lst1, v_lst2, v_lst3, v_lst4, v_lst5, v_ok0, v_ok1, v_ok2, v_ix0L, v_ix0, v_ix1, v_ix2, v_ix3, v_fs, v_fi, v_fb, v_fn, v_ft, v_f0, v_fc, startR, List.map_cons, List.map_nil, List.length_cons, List.length_nil, List.replicate, List.cons_append, List.nil_append, List.set_cons_zero, List.set_cons_succ, Option.some.injEq, exists_eq_left', Nat.reduceAdd, Nat.reduceSub, Nat.sub_zero, Nat.sub_self, Nat.zero_add, Nat.reduceEqDiff, Bool.not_true, Bool.not_false, if_true, if_false, Bool.and_self, Bool.true_and, Bool.and_true, Bool.false_eq_true, ↓reduceIte, true_and, and_true, decide_true, decide_false, wipeR]
            rw [v_slS (by rw [mk_len]; exact szL (by omega)), v_slS (by rw [mk_len]; exact szL (by omega))]
            obtain ⟨c, c1, _, hc⟩ := ix_at (z := mk l1) (r := 0) (by rw [mk_len]; have := hw1.hi; exact szL (by omega)) (by omega) (by rw [mk_len]; omega)
            rw [mk_cps] at c1
            have hc9 : c ∈ smS.cps.toList := of_decide_eq_true (List.all_eq_true.mp hw1.sm c c1)
            rw [cut_to, show (a : Int) + 1 = ((a + 1 : Nat) : Int) by omega, cut_from, hc]
            simp only [ok_V0, ok_Vs, ok_K, ok_B, ok_U, ok_nil, ok_cons, ok_N, ok_aN, ok_call, ok_nl, ok_fl, ok_afl, ok_T, ok_qNot, ok_qAnd, ok_qOr, ok_and, ok_or, ok_not, ok_if, ok_Sl, ok_oNo, ok_oOf, ok_Ch, ok_it, ok_itA, ok_yes, v_addI, v_sub, v_neg, v_eqI, v_eqS, v_eqB, v_eq0, v_eqT0, v_neI, v_neS, v_neB, v_ne0, v_neT0, v_ltI, v_leI, v_gtI, v_geI, v_is, v_isNot, v_nn, v_ns, v_ni, v_nl, v_nt, v_tb, v_tl, v_tt, v_tn, v_ti, v_asB, v_asI, v_asL, v_asT, v_asS, v_lenL, v_lenT, v_tupL, v_tupT, v_listL, v_listT, v_intB, v_tup0, v_tup1, v_tup2, v_tup3, v_tup4, v_tup5, v_lst0, v_lst1, v_lst2, v_lst3, v_lst4, v_lst5, v_ok0, v_ok1, v_ok2, v_ix0L, v_ix0, v_ix1, v_ix2, v_ix3, v_fs, v_fi, v_fb, v_fn, v_ft, v_f0, v_fc, startR, List.map_cons, List.map_nil, List.length_cons, List.length_nil, List.replicate, List.cons_append, List.nil_append, List.set_cons_zero, List.set_cons_succ, Option.some.injEq, exists_eq_left', Nat.reduceAdd, Nat.reduceSub, Nat.sub_zero, Nat.sub_self, Nat.zero_add, Nat.reduceEqDiff, Bool.not_true, Bool.not_false, if_true, if_false, Bool.and_self, Bool.true_and, Bool.and_true, Bool.false_eq_true, ↓reduceIte, true_and, and_true, decide_true, decide_false, wipeR]
            refine ⟨_, v_addS (by rw [mk_len, mk_len, List.length_take]; exact szL (by show _ + 1 ≤ _; omega)), ?_⟩
            rw [mk_app]
            refine ⟨_, v_addS (by rw [mk_len, mk_len, List.length_append, List.length_take, List.length_drop]; exact szL (by show _ + 1 + _ ≤ _; omega)), ?_⟩
            rw [mk_app]
            refine ⟨rfl, _, _, rfl, ?_, ?_, ?_⟩
            · simp only [List.length_append, List.length_take, List.length_drop, List.length_cons, List.length_nil]; omega
            · simp only [List.length_append, List.length_take, List.length_drop, List.length_cons, List.length_nil]; omega
            · rw [inAll_app, inAll_app, inAll_take hx.sm, inAll_drop hx.sm, inAll_one hc9]
              rfl
        · rw [decide_eq_false hw]
          simp only [ok_V0, ok_Vs, ok_K, ok_B, ok_U, ok_nil, ok_cons, ok_N, ok_aN, ok_call, ok_nl, ok_fl, ok_afl, ok_T, ok_qNot, ok_qAnd, ok_qOr, ok_and, ok_or, ok_not, ok_if, ok_Sl, ok_oNo, ok_oOf, ok_Ch, ok_it, ok_itA, ok_yes, v_addI, v_sub, v_neg, v_eqI, v_eqS, v_eqB, v_eq0, v_eqT0, v_neI, v_neS, v_neB, v_ne0, v_neT0, v_ltI, v_leI, v_gtI, v_geI, v_is, v_isNot, v_nn, v_ns, v_ni, v_nl, v_nt, v_tb, v_tl, v_tt, v_tn, v_ti, v_asB, v_asI, v_asL, v_asT, v_asS, v_lenL, v_lenT, v_tupL, v_tupT, v_listL, v_listT, v_intB, v_tup0, v_tup1, v_tup2, v_tup3, v_tup4, v_tup5, v_lst0, v_lst1, v_lst2, v_lst3, v_lst4, v_lst5, v_ok0, v_ok1, v_ok2, v_ix0L, v_ix0, v_ix1, v_ix2, v_ix3, v_fs, v_fi, v_fb, v_fn, v_ft, v_f0, v_fc, startR, List.map_cons, List.map_nil, List.length_cons, List.length_nil, List.replicate, List.cons_append, List.nil_append, List.set_cons_zero, List.set_cons_succ, Option.some.injEq, exists_eq_left', Nat.reduceAdd, Nat.reduceSub, Nat.sub_zero, Nat.sub_self, Nat.zero_add, Nat.reduceEqDiff, Bool.not_true, Bool.not_false, if_true, if_false, Bool.and_self, Bool.true_and, Bool.and_true, Bool.false_eq_true, ↓reduceIte, true_and, and_true, decide_true, decide_false, wipeR]
          exact k_nx ⟨l1, o7, rfl, hw1⟩
      rintro r s6 ⟨l2', o7', rfl, hw2⟩
      refine k_seq (Ok.imp (Q := fun r _ => ∃ x, r = .nx [some (hnd 0), some (.int 6), some (.list (tk.map .str)), some (.list (xs.map .str)), some (.int (0 + (j : Int))), some (.str x), some (.int w), o7', o8, o9] ∧ Wd x.cps.toList ∧ x ∉ xs) ?_ ?_)
      · refine k_sIf ?_
        simp only [ok_V0, ok_Vs, ok_K, ok_B, ok_U, ok_nil, ok_cons, ok_N, ok_aN, ok_call, ok_nl, ok_fl, ok_afl, ok_T, ok_qNot, ok_qAnd, ok_qOr, ok_and, ok_or, ok_not, ok_if, ok_Sl, ok_oNo, ok_oOf, ok_Ch, ok_it, ok_itA, ok_yes, v_addI, v_sub, v_neg, v_eqI, v_eqS, v_eqB, v_eq0, v_eqT0, v_neI, v_neS, v_neB, v_ne0, v_neT0, v_ltI, v_leI, v_gtI, v_geI, v_is, v_isNot, v_nn, v_ns, v_ni, v_nl, v_nt, v_tb, v_tl, v_tt, v_tn, v_ti, v_asB, v_asI, v_asL, v_asT, v_asS, v_lenL, v_lenT, v_tupL, v_tupT, v_listL, v_listT, v_intB, v_tup0, v_tup1, v_tup2, v_tup3, v_tup4, v_tup5, v_lst0, v_lst1, v_lst2, v_lst3, v_lst4, v_lst5, v_ok0, v_ok1, v_ok2, v_ix0L, v_ix0, v_ix1, v_ix2, v_ix3, v_fs, v_fi, v_fb, v_fn, v_ft, v_f0, v_fc, startR, List.map_cons, List.map_nil, List.length_cons, List.length_nil, List.replicate, List.cons_append, List.nil_append, List.set_cons_zero, List.set_cons_succ, Option.some.injEq, exists_eq_left', Nat.reduceAdd, Nat.reduceSub, Nat.sub_zero, Nat.sub_self, Nat.zero_add, Nat.reduceEqDiff, Bool.not_true, Bool.not_false, if_true, if_false, Bool.and_self, Bool.true_and, Bool.and_true, Bool.false_eq_true, ↓reduceIte, true_and, and_true, decide_true, decide_false, wipeR]
        rw [in_strsL, in_strsL]
        simp only [ok_V0, ok_Vs, ok_K, ok_B, ok_U, ok_nil, ok_cons, ok_N, ok_aN, ok_call, ok_nl, ok_fl, ok_afl, ok_T, ok_qNot, ok_qAnd, ok_qOr, ok_and, ok_or, ok_not, ok_if, ok_Sl, ok_oNo, ok_oOf, ok_Ch, ok_it, ok_itA, ok_yes, v_addI, v_sub, v_neg, v_eqI, v_eqS, v_eqB, v_eq0, v_eqT0, v_neI, v_neS, v_neB, v_ne0, v_neT0, v_ltI, v_leI, v_gtI, v_geI, v_is, v_isNot, v_nn, v_ns, v_ni, v_nl, v_nt, v_tb, v_tl, v_tt, v_tn, v_ti, v_asB, v_asI, v_asL, v_asT, v_asS, v_lenL, v_lenT, v_tupL, v_tupT, v_listL, v_listT, v_intB, v_tup0, v_tup1, v_tup2, v_tup3, v_tup4, v_tup5, v_lst0, v_lst1, v_lst2, v_lst3, v_lst4, v_lst5, v_ok0, v_ok1, v_ok2, v_ix0L, v_ix0, v_ix1, v_ix2, v_ix3, v_fs, v_fi, v_fb, v_fn, v_ft, v_f0, v_fc, startR, List.map_cons, List.map_nil, List.length_cons, List.length_nil, List.replicate, List.cons_append, List.nil_append, List.set_cons_zero, List.set_cons_succ, Option.some.injEq, exists_eq_left', Nat.reduceAdd, Nat.reduceSub, Nat.sub_zero, Nat.sub_self, Nat.zero_add, Nat.reduceEqDiff, Bool.not_true, Bool.not_false, if_true, if_false, Bool.and_self, Bool.true_and, Bool.and_true, Bool.false_eq_true, ↓reduceIte, true_and, and_true, decide_true, decide_false, wipeR]
        obtain ⟨x, hx, hx1, hx2⟩ := fb_eq (S := DS) (s := s6) (xs := xs) (a := some (hnd 0)) (b := some (.int 6)) (c := some (.list (tk.map .str))) (d := some (.int (0 + (j : Int)))) (e := some (.str (mk l2'))) (f := some (.int w)) (g := o7') (h := o8) (i := o9) (by rw [hk.len]; omega)
        by_cases ht : mk l2' ∈ tk
        · rw [decide_eq_true ht]
          simp only [ok_V0, ok_Vs, ok_K, ok_B, ok_U, ok_nil, ok_cons, ok_N, ok_aN, ok_call, ok_nl, ok_fl, ok_afl, ok_T, ok_qNot, ok_qAnd, ok_qOr, ok_and, ok_or, ok_not, ok_if, ok_Sl, ok_oNo, ok_oOf, ok_Ch, ok_it, ok_itA, ok_yes, v_addI, v_sub, v_neg, v_eqI, v_eqS, v_eqB, v_eq0, v_eqT0, v_neI, v_neS, v_neB, v_ne0, v_neT0, v_ltI, v_leI, v_gtI, v_geI, v_is, v_isNot, v_nn, v_ns, v_ni, v_nl, v_nt, v_tb, v_tl, v_tt, v_tn, v_ti, v_asB, v_asI, v_asL, v_asT, v_asS, v_lenL, v_lenT, v_tupL, v_tupT, v_listL, v_listT, v_intB, v_tup0, v_tup1, v_tup2, v_tup3, v_tup4, v_tup5, v_lst0, v_lst1, v_lst2, v_lst3, v_lst4, v_lst5, v_ok0, v_ok1, v_ok2, v_ix0L, v_ix0, v_ix1, v_ix2, v_ix3, v_fs, v_fi, v_fb, v_fn, v_ft, v_f0, v_fc, startR, List.map_cons, List.map_nil, List.length_cons, List.length_nil, List.replicate, List.cons_append, List.nil_append, List.set_cons_zero, List.set_cons_succ, Option.some.injEq, exists_eq_left', Nat.reduceAdd, Nat.reduceSub, Nat.sub_zero, Nat.sub_self, Nat.zero_add, Nat.reduceEqDiff, Bool.not_true, Bool.not_false, if_true, if_false, Bool.and_self, Bool.true_and, Bool.and_true, Bool.false_eq_true, ↓reduceIte, true_and, and_true, decide_true, decide_false, wipeR]
          refine k_set ?_
          exact ⟨_, _, hx, x, rfl, cand_wd x hx1, hx2⟩
        · rw [decide_eq_false ht]
          simp only [ok_V0, ok_Vs, ok_K, ok_B, ok_U, ok_nil, ok_cons, ok_N, ok_aN, ok_call, ok_nl, ok_fl, ok_afl, ok_T, ok_qNot, ok_qAnd, ok_qOr, ok_and, ok_or, ok_not, ok_if, ok_Sl, ok_oNo, ok_oOf, ok_Ch, ok_it, ok_itA, ok_yes, v_addI, v_sub, v_neg, v_eqI, v_eqS, v_eqB, v_eq0, v_eqT0, v_neI, v_neS, v_neB, v_ne0, v_neT0, v_ltI, v_leI, v_gtI, v_geI, v_is, v_isNot, v_nn, v_ns, v_ni, v_nl, v_nt, v_tb, v_tl, v_tt, v_tn, v_ti, v_asB, v_asI, v_asL, v_asT, v_asS, v_lenL, v_lenT, v_tupL, v_tupT, v_listL, v_listT, v_intB, v_tup0, v_tup1, v_tup2, v_tup3, v_tup4, v_tup5, v_lst0, v_lst1, v_lst2, v_lst3, v_lst4, v_lst5, v_ok0, v_ok1, v_ok2, v_ix0L, v_ix0, v_ix1, v_ix2, v_ix3, v_fs, v_fi, v_fb, v_fn, v_ft, v_f0, v_fc, startR, List.map_cons, List.map_nil, List.length_cons, List.length_nil, List.replicate, List.cons_append, List.nil_append, List.set_cons_zero, List.set_cons_succ, Option.some.injEq, exists_eq_left', Nat.reduceAdd, Nat.reduceSub, Nat.sub_zero, Nat.sub_self, Nat.zero_add, Nat.reduceEqDiff, Bool.not_true, Bool.not_false, if_true, if_false, Bool.and_self, Bool.true_and, Bool.and_true, Bool.false_eq_true, ↓reduceIte, true_and, and_true, decide_true, decide_false, wipeR]
          by_cases hi : mk l2' ∈ xs
          · rw [decide_eq_true hi]
            simp only [ok_V0, ok_Vs, ok_K, ok_B, ok_U, ok_nil, ok_cons, ok_N, ok_aN, ok_call, ok_nl, ok_fl, ok_afl, ok_T, ok_qNot, ok_qAnd, ok_qOr, ok_and, ok_or, ok_not, ok_if, ok_Sl, ok_oNo, ok_oOf, ok_Ch, ok_it, ok_itA, ok_yes, v_addI, v_sub, v_neg, v_eqI, v_eqS, v_eqB, v_eq0, v_eqT0, v_neI, v_neS, v_neB, v_ne0, v_neT0, v_ltI, v_leI, v_gtI, v_geI, v_is, v_isNot, v_nn, v_ns, v_ni, v_nl, v_nt, v_tb, v_tl, v_tt, v_tn, v_ti, v_asB, v_asI, v_asL, v_asT, v_asS, v_lenL, v_lenT, v_tupL, v_tupT, v_listL, v_listT, v_intB, v_tup0, v_tup1, v_tup2, v_tup3, v_tup4, v_tup5, v_lst0, v_lst1, v_lst2, v_lst3, v_lst4, v_lst5, v_ok0, v_ok1, v_ok2, v_ix0L, v_ix0, v_ix1, v_ix2, v_ix3, v_fs, v_fi, v_fb, v_fn, v_ft, v_f0, v_fc, startR, List.map_cons, List.map_nil, List.length_cons, List.length_nil, List.replicate, List.cons_append, List.nil_append, List.set_cons_zero, List.set_cons_succ, Option.some.injEq, exists_eq_left', Nat.reduceAdd, Nat.reduceSub, Nat.sub_zero, Nat.sub_self, Nat.zero_add, Nat.reduceEqDiff, Bool.not_true, Bool.not_false, if_true, if_false, Bool.and_self, Bool.true_and, Bool.and_true, Bool.false_eq_true, ↓reduceIte, true_and, and_true, decide_true, decide_false, wipeR]
            refine k_set ?_
            exact ⟨_, _, hx, x, rfl, cand_wd x hx1, hx2⟩
          · rw [decide_eq_false hi]
            simp only [ok_V0, ok_Vs, ok_K, ok_B, ok_U, ok_nil, ok_cons, ok_N, ok_aN, ok_call, ok_nl, ok_fl, ok_afl, ok_T, ok_qNot, ok_qAnd, ok_qOr, ok_and, ok_or, ok_not, ok_if, ok_Sl, ok_oNo, ok_oOf, ok_Ch, ok_it, ok_itA, ok_yes, v_addI, v_sub, v_neg, v_eqI, v_eqS, v_eqB, v_eq0, v_eqT0, v_neI, v_neS, v_neB, v_ne0, v_neT0, v_ltI, v_leI, v_gtI, v_geI, v_is, v_isNot, v_nn, v_ns, v_ni, v_nl, v_nt, v_tb, v_tl, v_tt, v_tn, v_ti, v_asB, v_asI, v_asL, v_asT, v_asS, v_lenL, v_lenT, v_tupL, v_tupT, v_listL, v_listT, v_intB, v_tup0, v_tup1, v_tup2, v_tup3, v_tup4, v_tup5, v_lst0, v_lst1, v_lst2, v_lst3, v_lst4, v_lst5, v_ok0, v_ok1, v_ok2, v_ix0L, v_ix0, v_ix1, v_ix2, v_ix3, v_fs, v_fi, v_fb, v_fn, v_ft, v_f0, v_fc, startR, List.map_cons, List.map_nil, List.length_cons, List.length_nil, List.replicate, List.cons_append, List.nil_append, List.set_cons_zero, List.set_cons_succ, Option.some.injEq, exists_eq_left', Nat.reduceAdd, Nat.reduceSub, Nat.sub_zero, Nat.sub_self, Nat.zero_add, Nat.reduceEqDiff, Bool.not_true, Bool.not_false, if_true, if_false, Bool.and_self, Bool.true_and, Bool.and_true, Bool.false_eq_true, ↓reduceIte, true_and, and_true, decide_true, decide_false, wipeR]
            exact k_nx ⟨mk l2', rfl, by rw [mk_cps]; exact hw2, hi⟩
      rintro r s7 ⟨x, rfl, hx, hn⟩
      refine k_app (ds := xs.map PyData.str) rfl (by rw [List.length_map, hk.len]; exact szl (by omega)) ?_
      simp only [ok_V0, ok_Vs, ok_K, ok_B, ok_U, ok_nil, ok_cons, ok_N, ok_aN, ok_call, ok_nl, ok_fl, ok_afl, ok_T, ok_qNot, ok_qAnd, ok_qOr, ok_and, ok_or, ok_not, ok_if, ok_Sl, ok_oNo, ok_oOf, ok_Ch, ok_it, ok_itA, ok_yes, v_addI, v_sub, v_neg, v_eqI, v_eqS, v_eqB, v_eq0, v_eqT0, v_neI, v_neS, v_neB, v_ne0, v_neT0, v_ltI, v_leI, v_gtI, v_geI, v_is, v_isNot, v_nn, v_ns, v_ni, v_nl, v_nt, v_tb, v_tl, v_tt, v_tn, v_ti, v_asB, v_asI, v_asL, v_asT, v_asS, v_lenL, v_lenT, v_tupL, v_tupT, v_listL, v_listT, v_intB, v_tup0, v_tup1, v_tup2, v_tup3, v_tup4, v_tup5, v_lst0, v_lst1, v_lst2, v_lst3, v_lst4, v_lst5, v_ok0, v_ok1, v_ok2, v_ix0L, v_ix0, v_ix1, v_ix2, v_ix3, v_fs, v_fi, v_fb, v_fn, v_ft, v_f0, v_fc, startR, List.map_cons, List.map_nil, List.length_cons, List.length_nil, List.replicate, List.cons_append, List.nil_append, List.set_cons_zero, List.set_cons_succ, Option.some.injEq, exists_eq_left', Nat.reduceAdd, Nat.reduceSub, Nat.sub_zero, Nat.sub_self, Nat.zero_add, Nat.reduceEqDiff, Bool.not_true, Bool.not_false, if_true, if_false, Bool.and_self, Bool.true_and, Bool.and_true, Bool.false_eq_true, ↓reduceIte, true_and, and_true, decide_true, decide_false, wipeR]
      refine ⟨xs ++ [x], some (.int (0 + (j : Int))), some (.str x), some (.int w), o7', o8, o9, by simp only [List.map_append, List.map_cons, List.map_nil], by simp [hk.len], nodup_snoc hk.nd hn, fun y hy => ?_⟩
      rcases List.mem_append.mp hy with hy | hy
      · exact hk.wd y hy
      · rw [List.mem_singleton.mp hy]
        exact hx
    · rintro ρ s2 ⟨xs, o4, o5, o6, o7, o8, o9, rfl, hk⟩
      rw [rng_len] at hk
      refine k_ret ?_
      simp only [ok_V0, ok_Vs, ok_K, ok_B, ok_U, ok_nil, ok_cons, ok_N, ok_aN, ok_call, ok_nl, ok_fl, ok_afl, ok_T, ok_qNot, ok_qAnd, ok_qOr, ok_and, ok_or, ok_not, ok_if, ok_Sl, ok_oNo, ok_oOf, ok_Ch, ok_it, ok_itA, ok_yes, v_addI, v_sub, v_neg, v_eqI, v_eqS, v_eqB, v_eq0, v_eqT0, v_neI, v_neS, v_neB, v_ne0, v_neT0, v_ltI, v_leI, v_gtI, v_geI, v_is, v_isNot, v_nn, v_ns, v_ni, v_nl, v_nt, v_tb, v_tl, v_tt, v_tn, v_ti, v_asB, v_asI, v_asL, v_asT, v_asS, v_lenL, v_lenT, v_tupL, v_tupT, v_listL, v_listT, v_intB, v_tup0, v_tup1, v_tup2, v_tup3, v_tup4, v_tup5, v_lst0, v_lst1, v_lst2, v_lst3, v_lst4, v_lst5, v_ok0, v_ok1, v_ok2, v_ix0L, v_ix0, v_ix1, v_ix2, v_ix3, v_fs, v_fi, v_fb, v_fn, v_ft, v_f0, v_fc, startR, List.map_cons, List.map_nil, List.length_cons, List.length_nil, List.replicate, List.cons_append, List.nil_append, List.set_cons_zero, List.set_cons_succ, Option.some.injEq, exists_eq_left', Nat.reduceAdd, Nat.reduceSub, Nat.sub_zero, Nat.sub_self, Nat.zero_add, Nat.reduceEqDiff, Bool.not_true, Bool.not_false, if_true, if_false, Bool.and_self, Bool.true_and, Bool.and_true, Bool.false_eq_true, ↓reduceIte, true_and, and_true, decide_true, decide_false, wipeR]
      exact q xs _ hk
end Lw41
set_option Elab.async false
set_option linter.all false
set_option maxRecDepth 100000
set_option maxHeartbeats 1000000
namespace Lw41
open PySem PySem.Spec L2 Dl Mx Ds Lw01
abbrev Ftimes : Fn DS := K_w_times Fdraw8
abbrev Fsum : Fn DS := K_w_sum Fdraw8 Ftimes
theorem pow8 : pPow (.int 10) (.int 8) = some (.int 100000000) := rfl
theorem ix_two {a b r : Int} (h0 : 0 ≤ r) (h1 : r < 2) : ∃ z, (z = a ∨ z = b) ∧ pIx (.list [.int a, .int b]) (.int r) = some (.int z) := by
  by_cases h : r = 0
  · subst h
    exact ⟨a, .inl rfl, v_ix0L⟩
  · have : r = 1 := by omega
    subst this
    exact ⟨b, .inr rfl, by simp only [pIx]; exact atI_nat (j := 1) rfl⟩
theorem ok_times {s : DS} {Q : D → DS → Prop} (q : ∀ (n : Int) s', 1 ≤ n → Q (.int n) s') : Ok (K_w_times Fdraw8 [hnd 0] s) Q := by
  unfold K_w_times B_w_times
  refine k_fn (k_ret ?_)
  simp only [ok_V0, ok_Vs, ok_K, ok_B, ok_U, ok_nil, ok_cons, ok_N, ok_aN, ok_call, ok_nl, ok_fl, ok_afl, ok_T, ok_qNot, ok_qAnd, ok_qOr, ok_and, ok_or, ok_not, ok_if, ok_Sl, ok_oNo, ok_oOf, ok_Ch, ok_it, ok_itA, ok_yes, v_addI, v_sub, v_neg, v_eqI, v_eqS, v_eqB, v_eq0, v_eqT0, v_neI, v_neS, v_neB, v_ne0, v_neT0, v_ltI, v_leI, v_gtI, v_geI, v_is, v_isNot, v_nn, v_ns, v_ni, v_nl, v_nt, v_tb, v_tl, v_tt, v_tn, v_ti, v_asB, v_asI, v_asL, v_asT, v_asS, v_lenL, v_lenT, v_tupL, v_tupT, v_listL, v_listT, v_intB, v_tup0, v_tup1, v_tup2, v_tup3, v_tup4, v_tup5, v_lst0, v_lst1, v_lst2, v_lst3, v_lst4, v_lst5, v_ok0, v_ok1, v_ok2, v_ix0L, v_ix0, v_ix1, v_ix2, v_ix3, v_fs, v_fi, v_fb, v_fn, v_ft, v_f0, v_fc, startR, List.map_cons, List.map_nil, List.length_cons, List.length_nil, List.replicate, List.cons_append, List.nil_append, List.set_cons_zero, List.set_cons_succ, Option.some.injEq, exists_eq_left', Nat.reduceAdd, Nat.reduceSub, Nat.sub_zero, Nat.sub_self, Nat.zero_add, Nat.reduceEqDiff, Bool.not_true, Bool.not_false, if_true, if_false, Bool.and_self, Bool.true_and, Bool.and_true, Bool.false_eq_true, ↓reduceIte, true_and, and_true, decide_true, decide_false, wipeR, pow8]
  refine k_draw8 (by omega) (by omega) fun r s1 r0 r1 => ?_
  obtain ⟨z, hz, e⟩ := ix_two (a := 3) (b := 100000000) r0 r1
  rw [e]
  simp only [ok_V0, ok_Vs, ok_K, ok_B, ok_U, ok_nil, ok_cons, ok_N, ok_aN, ok_call, ok_nl, ok_fl, ok_afl, ok_T, ok_qNot, ok_qAnd, ok_qOr, ok_and, ok_or, ok_not, ok_if, ok_Sl, ok_oNo, ok_oOf, ok_Ch, ok_it, ok_itA, ok_yes, v_addI, v_sub, v_neg, v_eqI, v_eqS, v_eqB, v_eq0, v_eqT0, v_neI, v_neS, v_neB, v_ne0, v_neT0, v_ltI, v_leI, v_gtI, v_geI, v_is, v_isNot, v_nn, v_ns, v_ni, v_nl, v_nt, v_tb, v_tl, v_tt, v_tn, v_ti, v_asB, v_asI, v_asL, v_asT, v_asS, v_lenL, v_lenT, v_tupL, v_tupT, v_listL, v_listT, v_intB, v_tup0, v_tup1, v_tup2, v_tup3, v_tup4, v_tup5, v_lst0, v_lst1, v_lst2, v_lst3, v_lst4, v_lst5, v_ok0, v_ok1, v_ok2, v_ix0L, v_ix0, v_ix1, v_ix2, v_ix3, v_fs, v_fi, v_fb, v_fn, v_ft, v_f0, v_fc, startR, List.map_cons, List.map_nil, List.length_cons, List.length_nil, List.replicate, List.cons_append, List.nil_append, List.set_cons_zero, List.set_cons_succ, Option.some.injEq, exists_eq_left', Nat.reduceAdd, Nat.reduceSub, Nat.sub_zero, Nat.sub_self, Nat.zero_add, Nat.reduceEqDiff, Bool.not_true, Bool.not_false, if_true, if_false, Bool.and_self, Bool.true_and, Bool.and_true, Bool.false_eq_true, ↓reduceIte, true_and, and_true, decide_true, decide_false, wipeR]
  refine k_draw8 (by omega) (by omega) fun t s2 t0 t1 => ?_
  exact ⟨_, rfl, q _ _ (by omega)⟩
/-- a sum as it is drawn -/
structure Sm (xs : List Str) (t : Tot) : Prop where
  canon : Canon t
  sub : ∀ p ∈ t.1, p.1 ∈ xs
  pos : ∀ p ∈ t.1, 1 ≤ p.2
  len : t.1.length ≤ 6
theorem ok_sum {s : DS} {xs : List Str} (hk : Kds xs 6) {Q : D → DS → Prop} (q : ∀ t s', Sm xs t → Q (totD t) s') : Ok (K_w_sum Fdraw8 Ftimes [hnd 0, .list (xs.map .str)] s) Q := by
  unfold K_w_sum B_w_sum
  refine k_fn (k_seq (k_own ?_))
  simp only [ok_V0, ok_Vs, ok_K, ok_B, ok_U, ok_nil, ok_cons, ok_N, ok_aN, ok_call, ok_nl, ok_fl, ok_afl, ok_T, ok_qNot, ok_qAnd, ok_qOr, ok_and, ok_or, ok_not, ok_if, ok_Sl, ok_oNo, ok_oOf, ok_Ch, ok_it, ok_itA, ok_yes, v_addI, v_sub, v_neg, v_eqI, v_eqS, v_eqB, v_eq0, v_eqT0, v_neI, v_neS, v_neB, v_ne0, v_neT0, v_ltI, v_leI, v_gtI, v_geI, v_is, v_isNot, v_nn, v_ns, v_ni, v_nl, v_nt, v_tb, v_tl, v_tt, v_tn, v_ti, v_asB, v_asI, v_asL, v_asT, v_asS, v_lenL, v_lenT, v_tupL, v_tupT, v_listL, v_listT, v_intB, v_tup0, v_tup1, v_tup2, v_tup3, v_tup4, v_tup5, v_lst0, v_lst1, v_lst2, v_lst3, v_lst4, v_lst5, v_ok0, v_ok1, v_ok2, v_ix0L, v_ix0, v_ix1, v_ix2, v_ix3, v_fs, v_fi, v_fb, v_fn, v_ft, v_f0, v_fc, startR, List.map_cons, List.map_nil, List.length_cons, List.length_nil, List.replicate, List.cons_append, List.nil_append, List.set_cons_zero, List.set_cons_succ, Option.some.injEq, exists_eq_left', Nat.reduceAdd, Nat.reduceSub, Nat.sub_zero, Nat.sub_self, Nat.zero_add, Nat.reduceEqDiff, Bool.not_true, Bool.not_false, if_true, if_false, Bool.and_self, Bool.true_and, Bool.and_true, Bool.false_eq_true, ↓reduceIte, true_and, and_true, decide_true, decide_false, wipeR]
  refine k_seq (k_forP (fun ds s' => ds = (sortS xs).map .str) ?_ ?_)
  · simp only [ok_V0, ok_Vs, ok_K, ok_B, ok_U, ok_nil, ok_cons, ok_N, ok_aN, ok_call, ok_nl, ok_fl, ok_afl, ok_T, ok_qNot, ok_qAnd, ok_qOr, ok_and, ok_or, ok_not, ok_if, ok_Sl, ok_oNo, ok_oOf, ok_Ch, ok_it, ok_itA, ok_yes, v_addI, v_sub, v_neg, v_eqI, v_eqS, v_eqB, v_eq0, v_eqT0, v_neI, v_neS, v_neB, v_ne0, v_neT0, v_ltI, v_leI, v_gtI, v_geI, v_is, v_isNot, v_nn, v_ns, v_ni, v_nl, v_nt, v_tb, v_tl, v_tt, v_tn, v_ti, v_asB, v_asI, v_asL, v_asT, v_asS, v_lenL, v_lenT, v_tupL, v_tupT, v_listL, v_listT, v_intB, v_tup0, v_tup1, v_tup2, v_tup3, v_tup4, v_tup5, v_lst0, v_lst1, v_lst2, v_lst3, v_lst4, v_lst5, v_ok0, v_ok1, v_ok2, v_ix0L, v_ix0, v_ix1, v_ix2, v_ix3, v_fs, v_fi, v_fb, v_fn, v_ft, v_f0, v_fc, startR, List.map_cons, List.map_nil, List.length_cons, List.length_nil, List.replicate, List.cons_append, List.nil_append, List.set_cons_zero, List.set_cons_succ, Option.some.injEq, exists_eq_left', Nat.reduceAdd, Nat.reduceSub, Nat.sub_zero, Nat.sub_self, Nat.zero_add, Nat.reduceEqDiff, Bool.not_true, Bool.not_false, if_true, if_false, Bool.and_self, Bool.true_and, Bool.and_true, Bool.false_eq_true, ↓reduceIte, true_and, and_true, decide_true, decide_false, wipeR]
    rw [v_sorted (by rw [hk.len]; omega)]
    simp only [ok_V0, ok_Vs, ok_K, ok_B, ok_U, ok_nil, ok_cons, ok_N, ok_aN, ok_call, ok_nl, ok_fl, ok_afl, ok_T, ok_qNot, ok_qAnd, ok_qOr, ok_and, ok_or, ok_not, ok_if, ok_Sl, ok_oNo, ok_oOf, ok_Ch, ok_it, ok_itA, ok_yes, v_addI, v_sub, v_neg, v_eqI, v_eqS, v_eqB, v_eq0, v_eqT0, v_neI, v_neS, v_neB, v_ne0, v_neT0, v_ltI, v_leI, v_gtI, v_geI, v_is, v_isNot, v_nn, v_ns, v_ni, v_nl, v_nt, v_tb, v_tl, v_tt, v_tn, v_ti, v_asB, v_asI, v_asL, v_asT, v_asS, v_lenL, v_lenT, v_tupL, v_tupT, v_listL, v_listT, v_intB, v_tup0, v_tup1, v_tup2, v_tup3, v_tup4, v_tup5, v_lst0, v_lst1, v_lst2, v_lst3, v_lst4, v_lst5, v_ok0, v_ok1, v_ok2, v_ix0L, v_ix0, v_ix1, v_ix2, v_ix3, v_fs, v_fi, v_fb, v_fn, v_ft, v_f0, v_fc, startR, List.map_cons, List.map_nil, List.length_cons, List.length_nil, List.replicate, List.cons_append, List.nil_append, List.set_cons_zero, List.set_cons_succ, Option.some.injEq, exists_eq_left', Nat.reduceAdd, Nat.reduceSub, Nat.sub_zero, Nat.sub_self, Nat.zero_add, Nat.reduceEqDiff, Bool.not_true, Bool.not_false, if_true, if_false, Bool.and_self, Bool.true_and, Bool.and_true, Bool.false_eq_true, ↓reduceIte, true_and, and_true, decide_true, decide_false, wipeR]
  · rintro ds s1 rfl
    refine ⟨fun j ρ _ => ∃ (ps : List Pt) (o : Option D), ρ = [some (hnd 0), some (.list (xs.map .str)), some (.list (ps.map ptD)), o] ∧ (ps.map (·.1)).Sublist ((sortS xs).take j) ∧ ∀ p ∈ ps, 1 ≤ p.2, ⟨[], none, rfl, by simp, by simp⟩, ?_, ?_⟩
    · rintro j d ρ s2 hd ⟨ps, o, rfl, hs, hp⟩
      rw [List.getElem?_map, Option.map_eq_some_iff] at hd
      obtain ⟨k, hk1, rfl⟩ := hd
      refine ⟨_, rfl, ?_⟩
      have htk := take_snoc hk1
      have hlen := hs.length_le
      rw [List.length_map, List.length_take, (sortS_perm _).length_eq, hk.len] at hlen
      refine k_sIf ?_
      simp only [ok_V0, ok_Vs, ok_K, ok_B, ok_U, ok_nil, ok_cons, ok_N, ok_aN, ok_call, ok_nl, ok_fl, ok_afl, ok_T, ok_qNot, ok_qAnd, ok_qOr, ok_and, ok_or, ok_not, ok_if, ok_Sl, ok_oNo, ok_oOf, ok_Ch, ok_it, ok_itA, ok_yes, v_addI, v_sub, v_neg, v_eqI, v_eqS, v_eqB, v_eq0, v_eqT0, v_neI, v_neS, v_neB, v_ne0, v_neT0, v_ltI, v_leI, v_gtI, v_geI, v_is, v_isNot, v_nn, v_ns, v_ni, v_nl, v_nt, v_tb, v_tl, v_tt, v_tn, v_ti, v_asB, v_asI, v_asL, v_asT, v_asS, v_lenL, v_lenT, v_tupL, v_tupT, v_listL, v_listT, v_intB, v_tup0, v_tup1, v_tup2, v_tup3, v_tup4, v_tup5, v_lst0, v_lst1, v_lst2, v_lst3, v_lst4, v_lst5, v_ok0, v_ok1, v_ok2, v_ix0L, v_ix0, v_ix1, v_ix2, v_ix3, v_fs, v_fi, v_fb, v_fn, v_ft, v_f0, v_fc, startR, List.map_cons, List.map_nil, List.length_cons, List.length_nil, List.replicate, List.cons_append, List.nil_append, List.set_cons_zero, List.set_cons_succ, Option.some.injEq, exists_eq_left', Nat.reduceAdd, Nat.reduceSub, Nat.sub_zero, Nat.sub_self, Nat.zero_add, Nat.reduceEqDiff, Bool.not_true, Bool.not_false, if_true, if_false, Bool.and_self, Bool.true_and, Bool.and_true, Bool.false_eq_true, ↓reduceIte, true_and, and_true, decide_true, decide_false, wipeR]
      refine k_draw8 (by omega) (by omega) fun r s3 r0 r1 => ?_
      simp only [ok_V0, ok_Vs, ok_K, ok_B, ok_U, ok_nil, ok_cons, ok_N, ok_aN, ok_call, ok_nl, ok_fl, ok_afl, ok_T, ok_qNot, ok_qAnd, ok_qOr, ok_and, ok_or, ok_not, ok_if, ok_Sl, ok_oNo, ok_oOf, ok_Ch, ok_it, ok_itA, ok_yes, v_addI, v_sub, v_neg, v_eqI, v_eqS, v_eqB, v_eq0, v_eqT0, v_neI, v_neS, v_neB, v_ne0, v_neT0, v_ltI, v_leI, v_gtI, v_geI, v_is, v_isNot, v_nn, v_ns, v_ni, v_nl, v_nt, v_tb, v_tl, v_tt, v_tn, v_ti, v_asB, v_asI, v_asL, v_asT, v_asS, v_lenL, v_lenT, v_tupL, v_tupT, v_listL, v_listT, v_intB, v_tup0, v_tup1, v_tup2, v_tup3, v_tup4, v_tup5, v_lst0, v_lst1, v_lst2, v_lst3, v_lst4, v_lst5, v_ok0, v_ok1, v_ok2, v_ix0L, v_ix0, v_ix1, v_ix2, v_ix3, v_fs, v_fi, v_fb, v_fn, v_ft, v_f0, v_fc, startR, List.map_cons, List.map_nil, List.length_cons, List.length_nil, List.replicate, List.cons_append, List.nil_append, List.set_cons_zero, List.set_cons_succ, Option.some.injEq, exists_eq_left', Nat.reduceAdd, Nat.reduceSub, Nat.sub_zero, Nat.sub_self, Nat.zero_add, Nat.reduceEqDiff, Bool.not_true, Bool.not_false, if_true, if_false, Bool.and_self, Bool.true_and, Bool.and_true, Bool.false_eq_true, ↓reduceIte, true_and, and_true, decide_true, decide_false, wipeR]
      by_cases hr : r = 1
      · rw [decide_eq_true hr]
        simp only [ok_V0, ok_Vs, ok_K, ok_B, ok_U, ok_nil, ok_cons, ok_N, ok_aN, ok_call, ok_nl, ok_fl, ok_afl, ok_T, ok_qNot, ok_qAnd, ok_qOr, ok_and, ok_or, ok_not, ok_if, ok_Sl, ok_oNo, ok_oOf, ok_Ch, ok_it, ok_itA, ok_yes, v_addI, v_sub, v_neg, v_eqI, v_eqS, v_eqB, v_eq0, v_eqT0, v_neI, v_neS, v_neB, v_ne0, v_neT0, v_ltI, v_leI, v_gtI, v_geI, v_is, v_isNot, v_nn, v_ns, v_ni, v_nl, v_nt, v_tb, v_tl, v_tt, v_tn, v_ti, v_asB, v_asI, v_asL, v_asT, v_asS, v_lenL, v_lenT, v_tupL, v_tupT, v_listL, v_listT, v_intB, v_tup0, v_tup1, v_tup2, v_tup3, v_tup4, v_tup5, v_lst0, v_lst1, v_lst2, v_lst3, v_lst4, v_lst5, v_ok0, v_ok1, v_ok2, v_ix0L, v_ix0, v_ix1, v_ix2, v_ix3, v_fs, v_fi, v_fb, v_fn, v_ft, v_f0, v_fc, startR, List.map_cons, List.map_nil, List.length_cons, List.length_nil, List.replicate, List.cons_append, List.nil_append, List.set_cons_zero, List.set_cons_succ, Option.some.injEq, exists_eq_left', Nat.reduceAdd, Nat.reduceSub, Nat.sub_zero, Nat.sub_self, Nat.zero_add, Nat.reduceEqDiff, Bool.not_true, Bool.not_false, if_true, if_false, Bool.and_self, Bool.true_and, Bool.and_true, Bool.false_eq_true, ↓reduceIte, true_and, and_true, decide_true, decide_false, wipeR]
        refine k_app (ds := ps.map ptD) rfl (by rw [List.length_map]; exact szl (by omega)) ?_
        simp only [ok_V0, ok_Vs, ok_K, ok_B, ok_U, ok_nil, ok_cons, ok_N, ok_aN, ok_call, ok_nl, ok_fl, ok_afl, ok_T, ok_qNot, ok_qAnd, ok_qOr, ok_and, ok_or, ok_not, ok_if, ok_Sl, ok_oNo, ok_oOf, ok_Ch, ok_it, ok_itA, ok_yes, v_addI, v_sub, v_neg, v_eqI, v_eqS, v_eqB, v_eq0, v_eqT0, v_neI, v_neS, v_neB, v_ne0, v_neT0, v_ltI, v_leI, v_gtI, v_geI, v_is, v_isNot, v_nn, v_ns, v_ni, v_nl, v_nt, v_tb, v_tl, v_tt, v_tn, v_ti, v_asB, v_asI, v_asL, v_asT, v_asS, v_lenL, v_lenT, v_tupL, v_tupT, v_listL, v_listT, v_intB, v_tup0, v_tup1, v_tup2, v_tup3, v_tup4, v_tup5, v_lst0, v_lst1, v_lst2, v_lst3, v_lst4, v_lst5, v_ok0, v_ok1, v_ok2, v_ix0L, v_ix0, v_ix1, v_ix2, v_ix3, v_fs, v_fi, v_fb, v_fn, v_ft, v_f0, v_fc, startR, List.map_cons, List.map_nil, List.length_cons, List.length_nil, List.replicate, List.cons_append, List.nil_append, List.set_cons_zero, List.set_cons_succ, Option.some.injEq, exists_eq_left', Nat.reduceAdd, Nat.reduceSub, Nat.sub_zero, Nat.sub_self, Nat.zero_add, Nat.reduceEqDiff, Bool.not_true, Bool.not_false, if_true, if_false, Bool.and_self, Bool.true_and, Bool.and_true, Bool.false_eq_true, ↓reduceIte, true_and, and_true, decide_true, decide_false, wipeR]
        refine ok_times fun n s4 hn => ?_
        refine ⟨ps ++ [(k, n)], some (.str k), ?_, ?_, ?_⟩
        · rw [List.map_append]
          rfl
        · rw [htk, List.map_append]
          exact hs.append (List.Sublist.refl _)
        · intro p hp2
          rcases List.mem_append.mp hp2 with hp2 | hp2
          · exact hp p hp2
          · rw [List.mem_singleton.mp hp2]
            exact hn
      · rw [decide_eq_false hr]
        simp only [ok_V0, ok_Vs, ok_K, ok_B, ok_U, ok_nil, ok_cons, ok_N, ok_aN, ok_call, ok_nl, ok_fl, ok_afl, ok_T, ok_qNot, ok_qAnd, ok_qOr, ok_and, ok_or, ok_not, ok_if, ok_Sl, ok_oNo, ok_oOf, ok_Ch, ok_it, ok_itA, ok_yes, v_addI, v_sub, v_neg, v_eqI, v_eqS, v_eqB, v_eq0, v_eqT0, v_neI, v_neS, v_neB, v_ne0, v_neT0, v_ltI, v_leI, v_gtI, v_geI, v_is, v_isNot, v_nn, v_ns, v_ni, v_nl, v_nt, v_tb, v_tl, v_tt, v_tn, v_ti, v_asB, v_asI, v_asL, v_asT, v_asS, v_lenL, v_lenT, v_tupL, v_tupT, v_listL, v_listT, v_intB, v_tup0, v_tup1, v_tup2, v_tup3, v_tup4, v_tup5, v_lst0, v_lst1, v_lst2, v_lst3, v_lst4, v_lst5, v_ok0, v_ok1, v_ok2, v_ix0L, v_ix0, v_ix1, v_ix2, v_ix3, v_fs, v_fi, v_fb, v_fn, v_ft, v_f0, v_fc, startR, List.map_cons, List.map_nil, List.length_cons, List.length_nil, List.replicate, List.cons_append, List.nil_append, List.set_cons_zero, List.set_cons_succ, Option.some.injEq, exists_eq_left', Nat.reduceAdd, Nat.reduceSub, Nat.sub_zero, Nat.sub_self, Nat.zero_add, Nat.reduceEqDiff, Bool.not_true, Bool.not_false, if_true, if_false, Bool.and_self, Bool.true_and, Bool.and_true, Bool.false_eq_true, ↓reduceIte, true_and, and_true, decide_true, decide_false, wipeR]
        refine k_nx ⟨ps, some (.str k), rfl, ?_, hp⟩
        rw [htk]
        exact hs.trans (List.sublist_append_left _ _)
    · rintro ρ s2 ⟨ps, o, rfl, hs, hp⟩
      rw [List.length_map, List.take_length] at hs
      refine k_ret ?_
      simp only [ok_V0, ok_Vs, ok_K, ok_B, ok_U, ok_nil, ok_cons, ok_N, ok_aN, ok_call, ok_nl, ok_fl, ok_afl, ok_T, ok_qNot, ok_qAnd, ok_qOr, ok_and, ok_or, ok_not, ok_if, ok_Sl, ok_oNo, ok_oOf, ok_Ch, ok_it, ok_itA, ok_yes, v_addI, v_sub, v_neg, v_eqI, v_eqS, v_eqB, v_eq0, v_eqT0, v_neI, v_neS, v_neB, v_ne0, v_neT0, v_ltI, v_leI, v_gtI, v_geI, v_is, v_isNot, v_nn, v_ns, v_ni, v_nl, v_nt, v_tb, v_tl, v_tt, v_tn, v_ti, v_asB, v_asI, v_asL, v_asT, v_asS, v_lenL, v_lenT, v_tupL, v_tupT, v_listL, v_listT, v_intB, v_tup0, v_tup1, v_tup2, v_tup3, v_tup4, v_tup5, v_lst0, v_lst1, v_lst2, v_lst3, v_lst4, v_lst5, v_ok0, v_ok1, v_ok2, v_ix0L, v_ix0, v_ix1, v_ix2, v_ix3, v_fs, v_fi, v_fb, v_fn, v_ft, v_f0, v_fc, startR, List.map_cons, List.map_nil, List.length_cons, List.length_nil, List.replicate, List.cons_append, List.nil_append, List.set_cons_zero, List.set_cons_succ, Option.some.injEq, exists_eq_left', Nat.reduceAdd, Nat.reduceSub, Nat.sub_zero, Nat.sub_self, Nat.zero_add, Nat.reduceEqDiff, Bool.not_true, Bool.not_false, if_true, if_false, Bool.and_self, Bool.true_and, Bool.and_true, Bool.false_eq_true, ↓reduceIte, true_and, and_true, decide_true, decide_false, wipeR, pow8]
      refine k_draw8 (by omega) (by omega) fun r s3 r0 r1 => ?_
      obtain ⟨z, hz, e⟩ := ix_two (a := 4) (b := 100000000) r0 r1
      rw [e]
      simp only [ok_V0, ok_Vs, ok_K, ok_B, ok_U, ok_nil, ok_cons, ok_N, ok_aN, ok_call, ok_nl, ok_fl, ok_afl, ok_T, ok_qNot, ok_qAnd, ok_qOr, ok_and, ok_or, ok_not, ok_if, ok_Sl, ok_oNo, ok_oOf, ok_Ch, ok_it, ok_itA, ok_yes, v_addI, v_sub, v_neg, v_eqI, v_eqS, v_eqB, v_eq0, v_eqT0, v_neI, v_neS, v_neB, v_ne0, v_neT0, v_ltI, v_leI, v_gtI, v_geI, v_is, v_isNot, v_nn, v_ns, v_ni, v_nl, v_nt, v_tb, v_tl, v_tt, v_tn, v_ti, v_asB, v_asI, v_asL, v_asT, v_asS, v_lenL, v_lenT, v_tupL, v_tupT, v_listL, v_listT, v_intB, v_tup0, v_tup1, v_tup2, v_tup3, v_tup4, v_tup5, v_lst0, v_lst1, v_lst2, v_lst3, v_lst4, v_lst5, v_ok0, v_ok1, v_ok2, v_ix0L, v_ix0, v_ix1, v_ix2, v_ix3, v_fs, v_fi, v_fb, v_fn, v_ft, v_f0, v_fc, startR, List.map_cons, List.map_nil, List.length_cons, List.length_nil, List.replicate, List.cons_append, List.nil_append, List.set_cons_zero, List.set_cons_succ, Option.some.injEq, exists_eq_left', Nat.reduceAdd, Nat.reduceSub, Nat.sub_zero, Nat.sub_self, Nat.zero_add, Nat.reduceEqDiff, Bool.not_true, Bool.not_false, if_true, if_false, Bool.and_self, Bool.true_and, Bool.and_true, Bool.false_eq_true, ↓reduceIte, true_and, and_true, decide_true, decide_false, wipeR]
      refine k_draw8 (by omega) (by omega) fun t s4 t0 t1 => ?_
      refine q (ps, t) _ ⟨?_, fun p hp2 => ?_, hp, ?_⟩
      · exact (pw_le_lt (sortS_pw xs) (sort_nd hk.nd)).sublist hs
      · exact sort_mem.mp (hs.subset (List.mem_map.mpr ⟨p, hp2, rfl⟩))
      · have := hs.length_le
        rw [List.length_map, (sortS_perm _).length_eq, hk.len] at this
        exact this
/-! ### equality of sums as data -/
theorem lay_pts : ∀ ps : List Pt, (∀ p ∈ ps, PyData.strOk p.1 = true) → PyData.canLayAll0 (ps.map ptD) = true
  | [], _ => by simp [PyData.canLayAll0]
  | p :: ps, h => by simp [ptD, PyData.canLayAll0, PyData.canLay0, h p List.mem_cons_self]; exact lay_pts ps fun x hx => h x (List.mem_cons_of_mem _ hx)
theorem dep_pts : ∀ ps : List Pt, PyData.depthAll (ps.map ptD) ≤ 1
  | [] => by simp [PyData.depthAll]
  | p :: ps => by
    have := dep_pts ps
    simp only [List.map_cons, PyData.depthAll, ptD, PyData.depth]
    omega
theorem tot_shape {t : Tot} (h : ∀ p ∈ t.1, PyData.strOk p.1 = true) : SeqAt.shaped (totD t) = true := by
  have h1 : PyData.canLay0 (totD t) = true := by simp [totD, PyData.canLay0, PyData.canLayAll0, lay_pts t.1 h]
  have h2 : PyData.depth (totD t) ≤ 64 := by
    have := dep_pts t.1
    simp only [totD, PyData.depth, PyData.depthAll]
    omega
  unfold SeqAt.shaped
  rw [h1, decide_eq_true h2]
  rfl
theorem eqv_pts : ∀ ps : List Pt, PyData.eqvAll (ps.map ptD) (ps.map ptD) = true
  | [] => by simp [PyData.eqvAll]
  | p :: ps => by simp [ptD, PyData.eqvAll, PyData.eqv]; exact eqv_pts ps
theorem ne_tot {t : Tot} (h : ∀ p ∈ t.1, PyData.strOk p.1 = true) : pNe (totD t) (totD t) = some (.bool false) := by
  have e : PyData.eqv (totD t) (totD t) = true := by simp [totD, PyData.eqv, PyData.eqvAll, eqv_pts]
  have hs := tot_shape h
  have e2 := v_neD (ds := [.tuple (t.1.map ptD), .int t.2]) (es := [.tuple (t.1.map ptD), .int t.2]) hs hs
  have e3 : PyData.eqv (.tuple [.tuple (t.1.map ptD), .int t.2]) (.tuple [.tuple (t.1.map ptD), .int t.2]) = true := e
  rw [e3] at e2
  exact e2
end Lw41
set_option Elab.async false
set_option linter.all false
set_option maxRecDepth 100000
set_option maxHeartbeats 1000000
namespace Lw41
open PySem PySem.Spec L2 Dl Mx Ds Lw01
section
variable {S : Type} {s : S}
theorem ints_map : ∀ ns : List Int, dInts (ns.map .int) = some ns
  | [] => rfl
  | n :: ns => by
    show (dInts (ns.map PyData.int)).map (n :: ·) = _
    rw [ints_map ns]
    rfl
theorem v_sum (ns : List Int) : pSum [.list (ns.map .int)] = some (.int ns.sum) := by
  show (dInts (ns.map PyData.int)).map (fun ns => PyData.int ns.sum) = _
  rw [ints_map]
  rfl
theorem of_eq {t : Tot} {k : Str} (hl : t.1.length ≤ 1000) : K_w_of [totD t, .str k] s = some (.int (cntP t.1 k), s) := by
  refine ok_eq ?_
  unfold K_w_of B_w_of
  refine k_fn (k_ret ?_)
  have h := k_keep (S := S) (ds := t.1.map ptD) (q := qT (cB pEq (cVar 2) (cVar 1))) (f := cVar 3) (fi := iOf asT (cB pIx (cVar 0) (cK (.int 0)))) (t := gTp (gC (gNm 2) (gC (gNm 3) gN0))) (vs := [2, 3]) (ρ := [some (totD t), some (.str k), none, none]) (s := s) (fun d => match d with | .tuple [.str a, _] => decide (a = k) | _ => false) (fun d => match d with | .tuple [_, n] => n | _ => .none) (by rw [List.length_map]; exact szL (by omega)) rfl (fun d hd => by
    obtain ⟨p, hp, rfl⟩ := List.mem_map.mp hd
    exact ⟨_, rfl, rfl, fun _ => rfl⟩)
  have e : ((t.1.map ptD).filter (fun d => match d with | .tuple [.str a, _] => decide (a = k) | _ => false)).map (fun d => match d with | .tuple [_, n] => n | _ => .none) = ((t.1.filter fun p => decide (p.1 = k)).map (·.2)).map PyData.int := by
    rw [List.filter_map, List.map_map, List.map_map]
    rfl
  rw [e] at h
  simp only [ok_V0, ok_Vs, ok_K, ok_B, ok_U, ok_nil, ok_cons, ok_N, ok_aN, ok_call, ok_nl, ok_fl, ok_afl, ok_T, ok_qNot, ok_qAnd, ok_qOr, ok_and, ok_or, ok_not, ok_if, ok_Sl, ok_oNo, ok_oOf, ok_Ch, ok_it, ok_itA, ok_yes, v_addI, v_sub, v_neg, v_eqI, v_eqS, v_eqB, v_eq0, v_eqT0, v_neI, v_neS, v_neB, v_ne0, v_neT0, v_ltI, v_leI, v_gtI, v_geI, v_is, v_isNot, v_nn, v_ns, v_ni, v_nl, v_nt, v_tb, v_tl, v_tt, v_tn, v_ti, v_asB, v_asI, v_asL, v_asT, v_asS, v_lenL, v_lenT, v_tupL, v_tupT, v_listL, v_listT, v_intB, v_tup0, v_tup1, v_tup2, v_tup3, v_tup4, v_tup5, v_lst0, v_lst1, v_lst2, v_lst3, v_lst4, v_lst5, v_ok0, v_ok1, v_ok2, v_ix0L, v_ix0, v_ix1, v_ix2, v_ix3, v_fs, v_fi, v_fb, v_fn, v_ft, v_f0, v_fc, startR, List.map_cons, List.map_nil, List.length_cons, List.length_nil, List.replicate, List.cons_append, List.nil_append, List.set_cons_zero, List.set_cons_succ, Option.some.injEq, exists_eq_left', Nat.reduceAdd, Nat.reduceSub, Nat.sub_zero, Nat.sub_self, Nat.zero_add, Nat.reduceEqDiff, Bool.not_true, Bool.not_false, if_true, if_false, Bool.and_self, Bool.true_and, Bool.and_true, Bool.false_eq_true, ↓reduceIte, true_and, and_true, decide_true, decide_false, wipeR]
  refine ⟨_, _, h, ?_⟩
  exact ⟨_, v_sum _, rfl, rfl⟩
theorem whole_eq {n : Int} : K_w_whole [.int n] s = some (.bool true, s) := rfl
theorem sortX_eq {f : Ev S} {ρ : Rho} {xs : List Str} (h : f ρ s = some (.list (xs.map .str), s)) (hl : xs.length ≤ 1000) : aSortX (xSet f) ρ s = some ((sortS (gath xs)).map .str, s) := by
  have e : asStrs (.list (xs.map .str)) = some xs := by
    unfold asStrs
    simp only
    rw [dStrs_map]
    simp only
    rw [if_pos hl]
  unfold aSortX xSet
  rw [h]
  show bnd (bnd (some (_, s)) _) _ = _
  simp only [bnd_of, e]
  rfl
theorem eq_strs {a : List Str} (h : ∀ n ∈ a, PyData.strOk n = true) : pEq (.list (a.map .str)) (.list (a.map .str)) = some (.bool true) := by
  have := ne_strs h h
  unfold pNe at this
  split at this
  · rename_i b e
    rw [e]
    simp at this
    rw [this]
  · cases this
theorem kinds_eq {t : Tot} (hl : t.1.length ≤ 1000) {a b c : Option D} : lcF (S := S) (iOf asT (cB pIx (cVar 0) (cK (.int 0)))) (gTp (gC (gNm 2) (gC (gNm 3) gN0))) qYes (cVar 2) [2, 3] [some (totD t), a, b, c] s = some ((t.1.map (·.1)).map .str, s) := by
  have h := k_keep (S := S) (ds := t.1.map ptD) (q := qYes) (f := cVar 2) (fi := iOf asT (cB pIx (cVar 0) (cK (.int 0)))) (t := gTp (gC (gNm 2) (gC (gNm 3) gN0))) (vs := [2, 3]) (ρ := [some (totD t), a, b, c]) (s := s) (fun _ => true) (fun d => match d with | .tuple [a, _] => a | _ => .none) (by rw [List.length_map]; exact szL (by omega)) rfl (fun d hd => by
    obtain ⟨p, hp, rfl⟩ := List.mem_map.mp hd
    exact ⟨_, rfl, rfl, fun _ => rfl⟩)
  rw [h, List.filter_eq_self.mpr (fun _ _ => rfl), List.map_map, List.map_map]
  rfl
theorem is_eq {t : Tot} (hc : Canon t) (hl : t.1.length ≤ 1000) (hk : ∀ p ∈ t.1, PyData.strOk p.1 = true) : K_w_is_sum K_w_whole [totD t] s = some (.bool true, s) := by
  refine ok_eq ?_
  unfold K_w_is_sum B_w_is_sum
  refine k_fn (k_seq ?_)
  have h1 : qOr (S := S) (qNot (qT (cU (pIsi "tuple") (cVar 0)))) (qOr (qT (cB pNe (cN pLen (aCons (cVar 0) aNil)) (cK (.int 2)))) (qOr (qNot (qT (cU (pIsi "tuple") (cB pIx (cVar 0) (cK (.int 0)))))) (qNot (qT (cCall 1 K_w_whole (aCons (cB pIx (cVar 0) (cK (.int 1))) aNil)))))) [some (totD t), none, none, none] s = some (false, s) := rfl
  refine k_sIf ⟨_, _, h1, ?_⟩
  refine k_nx (k_seq (k_forP (fun ds s' => ds = t.1.map ptD ∧ s' = s) ⟨_, _, rfl, rfl, rfl⟩ ?_))
  rintro ds s1 ⟨rfl, rfl⟩
  refine ⟨fun j ρ s' => ∃ o, ρ = [some (totD t), o, none, none] ∧ s' = s1, ⟨none, rfl, rfl⟩, ?_, ?_⟩
  · rintro j d ρ s2 hd ⟨o, rfl, rfl⟩
    obtain ⟨p, hp, rfl⟩ := List.mem_map.mp (List.mem_of_getElem? hd)
    refine ⟨_, rfl, ?_⟩
    have h2 : qOr (S := S) (qNot (qT (cU (pIsi "tuple") (cVar 1)))) (qOr (qT (cB pNe (cN pLen (aCons (cVar 1) aNil)) (cK (.int 2)))) (qOr (qNot (qT (cU (pIsi "str") (cB pIx (cVar 1) (cK (.int 0)))))) (qNot (qT (cCall 1 K_w_whole (aCons (cB pIx (cVar 1) (cK (.int 1))) aNil)))))) [some (totD t), some (ptD p), none, none] s2 = some (false, s2) := rfl
    refine k_sIf ⟨_, _, h2, ?_⟩
    exact k_nx ⟨_, rfl, rfl⟩
  · rintro ρ s2 ⟨o, rfl, rfl⟩
    refine k_ret ?_
    have h3 := kinds_eq (S := S) (s := s2) (t := t) hl (a := o) (b := none) (c := none)
    have h4 : cNl (lcF (S := S) (iOf asT (cB pIx (cVar 0) (cK (.int 0)))) (gTp (gC (gNm 2) (gC (gNm 3) gN0))) qYes (cVar 2) [2, 3]) [some (totD t), o, none, none] s2 = some (.list ((t.1.map (·.1)).map .str), s2) := by
      unfold cNl
      rw [h3]
      rfl
    have h5 := sortX_eq (S := S) h4 (by rw [List.length_map]; exact hl)
    have e : sortS (gath (t.1.map (·.1))) = t.1.map (·.1) := (sort_set (gath_nd _) (pw_nd hc) fun x => gath_mem).trans (sort_id hc)
    rw [e] at h5
    simp only [ok_V0, ok_Vs, ok_K, ok_B, ok_U, ok_nil, ok_cons, ok_N, ok_aN, ok_call, ok_nl, ok_fl, ok_afl, ok_T, ok_qNot, ok_qAnd, ok_qOr, ok_and, ok_or, ok_not, ok_if, ok_Sl, ok_oNo, ok_oOf, ok_Ch, ok_it, ok_itA, ok_yes, v_addI, v_sub, v_neg, v_eqI, v_eqS, v_eqB, v_eq0, v_eqT0, v_neI, v_neS, v_neB, v_ne0, v_neT0, v_ltI, v_leI, v_gtI, v_geI, v_is, v_isNot, v_nn, v_ns, v_ni, v_nl, v_nt, v_tb, v_tl, v_tt, v_tn, v_ti, v_asB, v_asI, v_asL, v_asT, v_asS, v_lenL, v_lenT, v_tupL, v_tupT, v_listL, v_listT, v_intB, v_tup0, v_tup1, v_tup2, v_tup3, v_tup4, v_tup5, v_lst0, v_lst1, v_lst2, v_lst3, v_lst4, v_lst5, v_ok0, v_ok1, v_ok2, v_ix0L, v_ix0, v_ix1, v_ix2, v_ix3, v_fs, v_fi, v_fb, v_fn, v_ft, v_f0, v_fc, startR, List.map_cons, List.map_nil, List.length_cons, List.length_nil, List.replicate, List.cons_append, List.nil_append, List.set_cons_zero, List.set_cons_succ, Option.some.injEq, exists_eq_left', Nat.reduceAdd, Nat.reduceSub, Nat.sub_zero, Nat.sub_self, Nat.zero_add, Nat.reduceEqDiff, Bool.not_true, Bool.not_false, if_true, if_false, Bool.and_self, Bool.true_and, Bool.and_true, Bool.false_eq_true, ↓reduceIte, true_and, and_true, decide_true, decide_false, wipeR]
    refine ⟨_, _, h3, ?_⟩
    refine ⟨_, _, h5, ?_⟩
    exact ⟨_, eq_strs (fun n hn => by obtain ⟨p, hp, rfl⟩ := List.mem_map.mp hn; exact hk p hp), rfl, rfl⟩
theorem cnt_pos : ∀ {ps : List Pt}, (∀ p ∈ ps, 1 ≤ p.2) → ∀ k, 0 ≤ cntP ps k ∧ (k ∈ ps.map (·.1) → 1 ≤ cntP ps k)
  | [], _, k => ⟨Int.le_refl _, fun h => by simp at h⟩
  | p :: ps, h, k => by
    have ih := cnt_pos (ps := ps) (fun q hq => h q (List.mem_cons_of_mem _ hq)) k
    have hp := h p List.mem_cons_self
    rw [cnt_cons]
    by_cases e : p.1 = k
    · rw [if_pos e]
      exact ⟨by omega, fun _ => by omega⟩
    · rw [if_neg e]
      refine ⟨by omega, fun hm => ?_⟩
      have : k ∈ ps.map (·.1) := by
        rcases List.mem_cons.mp (by simpa using hm : k ∈ p.1 :: ps.map (·.1)) with z | z
        · exact (e z.symm).elim
        · exact z
      have := ih.2 this
      omega
structure Sms (xs : List Str) (ts : List Tot) : Prop where
  ks : Kds xs 6
  sm : ∀ t ∈ ts, Sm xs t
  few : ts.length ≤ 9
theorem flat_len : ∀ {ts : List Tot}, (∀ t ∈ ts, t.1.length ≤ 6) → (ts.flatMap (·.1)).length ≤ 6 * ts.length
  | [], _ => Nat.le_refl _
  | t :: ts, h => by
    have ih := flat_len (ts := ts) fun x hx => h x (List.mem_cons_of_mem _ hx)
    have h0 := h t List.mem_cons_self
    rw [List.flatMap_cons, List.length_append, List.length_cons]
    omega
theorem Sms.len {xs : List Str} {ts : List Tot} (h : Sms xs ts) : (ts.flatMap (·.1)).length < 64 := by
  have := flat_len fun t ht => (h.sm t ht).len
  have := h.few
  omega
theorem Sms.flat {xs : List Str} {ts : List Tot} (h : Sms xs ts) {p : Pt} (hp : p ∈ ts.flatMap (·.1)) : p.1 ∈ xs ∧ 1 ≤ p.2 := by
  obtain ⟨t, ht, hp⟩ := List.mem_flatMap.mp hp
  exact ⟨(h.sm t ht).sub p hp, (h.sm t ht).pos p hp⟩
theorem Sms.found {xs : List Str} {ts : List Tot} (h : Sms xs ts) {p : Pt} (hp : p ∈ (sumOf ts).1) : p.1 ∈ xs ∧ 1 ≤ p.2 := by
  obtain ⟨k, hk, rfl⟩ := List.mem_map.mp hp
  have hk := gath_mem.mp (sort_mem.mp hk)
  refine ⟨?_, (cnt_pos (fun p hp => (h.flat hp).2) k).2 hk⟩
  obtain ⟨q, hq, rfl⟩ := List.mem_map.mp hk
  exact (h.flat hq).1
theorem Sms.ok {xs : List Str} {ts : List Tot} (h : Sms xs ts) {p : Pt} (hp : p ∈ (sumOf ts).1) : PyData.strOk p.1 = true := wd_ok (h.ks.wd _ (h.found hp).1)
theorem Sms.flen {xs : List Str} {ts : List Tot} (h : Sms xs ts) : (sumOf ts).1.length < 64 := Nat.lt_of_le_of_lt (sumT_len _ _) h.len
abbrev Fis : Fn S := K_w_is_sum K_w_whole
theorem right_eq {xs : List Str} {ts : List Tot} (h : Sms xs ts) : K_w_right Fis K_w_of [totD (sumOf ts), .tuple (ts.map totD), .list (xs.map .str)] s = some (.bool true, s) := by
  refine ok_eq ?_
  unfold K_w_right B_w_right
  have fl := h.flen
  have few := h.few
  refine k_fn (k_seq (k_sIf ?_))
  simp only [ok_V0, ok_Vs, ok_K, ok_B, ok_U, ok_nil, ok_cons, ok_N, ok_aN, ok_call, ok_nl, ok_fl, ok_afl, ok_T, ok_qNot, ok_qAnd, ok_qOr, ok_and, ok_or, ok_not, ok_if, ok_Sl, ok_oNo, ok_oOf, ok_Ch, ok_it, ok_itA, ok_yes, v_addI, v_sub, v_neg, v_eqI, v_eqS, v_eqB, v_eq0, v_eqT0, v_neI, v_neS, v_neB, v_ne0, v_neT0, v_ltI, v_leI, v_gtI, v_geI, v_is, v_isNot, v_nn, v_ns, v_ni, v_nl, v_nt, v_tb, v_tl, v_tt, v_tn, v_ti, v_asB, v_asI, v_asL, v_asT, v_asS, v_lenL, v_lenT, v_tupL, v_tupT, v_listL, v_listT, v_intB, v_tup0, v_tup1, v_tup2, v_tup3, v_tup4, v_tup5, v_lst0, v_lst1, v_lst2, v_lst3, v_lst4, v_lst5, v_ok0, v_ok1, v_ok2, v_ix0L, v_ix0, v_ix1, v_ix2, v_ix3, v_fs, v_fi, v_fb, v_fn, v_ft, v_f0, v_fc, startR, List.map_cons, List.map_nil, List.length_cons, List.length_nil, List.replicate, List.cons_append, List.nil_append, List.set_cons_zero, List.set_cons_succ, Option.some.injEq, exists_eq_left', Nat.reduceAdd, Nat.reduceSub, Nat.sub_zero, Nat.sub_self, Nat.zero_add, Nat.reduceEqDiff, Bool.not_true, Bool.not_false, if_true, if_false, Bool.and_self, Bool.true_and, Bool.and_true, Bool.false_eq_true, ↓reduceIte, true_and, and_true, decide_true, decide_false, wipeR]
  refine ⟨_, _, is_eq (t := sumOf ts) (sumT_canon _ _) (by omega) fun p hp => h.ok hp, ?_⟩
  simp only [ok_V0, ok_Vs, ok_K, ok_B, ok_U, ok_nil, ok_cons, ok_N, ok_aN, ok_call, ok_nl, ok_fl, ok_afl, ok_T, ok_qNot, ok_qAnd, ok_qOr, ok_and, ok_or, ok_not, ok_if, ok_Sl, ok_oNo, ok_oOf, ok_Ch, ok_it, ok_itA, ok_yes, v_addI, v_sub, v_neg, v_eqI, v_eqS, v_eqB, v_eq0, v_eqT0, v_neI, v_neS, v_neB, v_ne0, v_neT0, v_ltI, v_leI, v_gtI, v_geI, v_is, v_isNot, v_nn, v_ns, v_ni, v_nl, v_nt, v_tb, v_tl, v_tt, v_tn, v_ti, v_asB, v_asI, v_asL, v_asT, v_asS, v_lenL, v_lenT, v_tupL, v_tupT, v_listL, v_listT, v_intB, v_tup0, v_tup1, v_tup2, v_tup3, v_tup4, v_tup5, v_lst0, v_lst1, v_lst2, v_lst3, v_lst4, v_lst5, v_ok0, v_ok1, v_ok2, v_ix0L, v_ix0, v_ix1, v_ix2, v_ix3, v_fs, v_fi, v_fb, v_fn, v_ft, v_f0, v_fc, startR, List.map_cons, List.map_nil, List.length_cons, List.length_nil, List.replicate, List.cons_append, List.nil_append, List.set_cons_zero, List.set_cons_succ, Option.some.injEq, exists_eq_left', Nat.reduceAdd, Nat.reduceSub, Nat.sub_zero, Nat.sub_self, Nat.zero_add, Nat.reduceEqDiff, Bool.not_true, Bool.not_false, if_true, if_false, Bool.and_self, Bool.true_and, Bool.and_true, Bool.false_eq_true, ↓reduceIte, true_and, and_true, decide_true, decide_false, wipeR]
  have h1 : lcF (S := S) (iOf asT (cVar 1)) (gNm 4) qYes (cB pIx (cVar 4) (cK (.int 1))) [4] [some (totD (sumOf ts)), some (.tuple (ts.map totD)), some (.list (xs.map .str)), none, none, none] s = some ((ts.map (·.2)).map .int, s) := by
    have h := k_keep (S := S) (ds := ts.map totD) (q := qYes) (f := cB pIx (cVar 4) (cK (.int 1))) (fi := iOf asT (cVar 1)) (t := gNm 4) (vs := [4]) (ρ := [some (totD (sumOf ts)), some (.tuple (ts.map totD)), some (.list (xs.map .str)), none, none, none]) (s := s) (fun _ => true) (fun d => match d with | .tuple [_, n] => n | _ => .none) (by rw [List.length_map]; exact szL (by omega)) rfl (fun d hd => by
      obtain ⟨p, hp, rfl⟩ := List.mem_map.mp hd
      exact ⟨_, rfl, rfl, fun _ => rfl⟩)
    rw [h, List.filter_eq_self.mpr (fun _ _ => rfl), List.map_map, List.map_map]
    rfl
  refine ⟨.int (sumOf ts).2, rfl, _, _, h1, _, v_sum _, ?_⟩
  simp only [ok_V0, ok_Vs, ok_K, ok_B, ok_U, ok_nil, ok_cons, ok_N, ok_aN, ok_call, ok_nl, ok_fl, ok_afl, ok_T, ok_qNot, ok_qAnd, ok_qOr, ok_and, ok_or, ok_not, ok_if, ok_Sl, ok_oNo, ok_oOf, ok_Ch, ok_it, ok_itA, ok_yes, v_addI, v_sub, v_neg, v_eqI, v_eqS, v_eqB, v_eq0, v_eqT0, v_neI, v_neS, v_neB, v_ne0, v_neT0, v_ltI, v_leI, v_gtI, v_geI, v_is, v_isNot, v_nn, v_ns, v_ni, v_nl, v_nt, v_tb, v_tl, v_tt, v_tn, v_ti, v_asB, v_asI, v_asL, v_asT, v_asS, v_lenL, v_lenT, v_tupL, v_tupT, v_listL, v_listT, v_intB, v_tup0, v_tup1, v_tup2, v_tup3, v_tup4, v_tup5, v_lst0, v_lst1, v_lst2, v_lst3, v_lst4, v_lst5, v_ok0, v_ok1, v_ok2, v_ix0L, v_ix0, v_ix1, v_ix2, v_ix3, v_fs, v_fi, v_fb, v_fn, v_ft, v_f0, v_fc, startR, List.map_cons, List.map_nil, List.length_cons, List.length_nil, List.replicate, List.cons_append, List.nil_append, List.set_cons_zero, List.set_cons_succ, Option.some.injEq, exists_eq_left', Nat.reduceAdd, Nat.reduceSub, Nat.sub_zero, Nat.sub_self, Nat.zero_add, Nat.reduceEqDiff, Bool.not_true, Bool.not_false, if_true, if_false, Bool.and_self, Bool.true_and, Bool.and_true, Bool.false_eq_true, ↓reduceIte, true_and, and_true, decide_true, decide_false, wipeR]
  rw [decide_eq_true (show (sumOf ts).2 = (ts.map (·.2)).sum from rfl)]
  simp only [ok_V0, ok_Vs, ok_K, ok_B, ok_U, ok_nil, ok_cons, ok_N, ok_aN, ok_call, ok_nl, ok_fl, ok_afl, ok_T, ok_qNot, ok_qAnd, ok_qOr, ok_and, ok_or, ok_not, ok_if, ok_Sl, ok_oNo, ok_oOf, ok_Ch, ok_it, ok_itA, ok_yes, v_addI, v_sub, v_neg, v_eqI, v_eqS, v_eqB, v_eq0, v_eqT0, v_neI, v_neS, v_neB, v_ne0, v_neT0, v_ltI, v_leI, v_gtI, v_geI, v_is, v_isNot, v_nn, v_ns, v_ni, v_nl, v_nt, v_tb, v_tl, v_tt, v_tn, v_ti, v_asB, v_asI, v_asL, v_asT, v_asS, v_lenL, v_lenT, v_tupL, v_tupT, v_listL, v_listT, v_intB, v_tup0, v_tup1, v_tup2, v_tup3, v_tup4, v_tup5, v_lst0, v_lst1, v_lst2, v_lst3, v_lst4, v_lst5, v_ok0, v_ok1, v_ok2, v_ix0L, v_ix0, v_ix1, v_ix2, v_ix3, v_fs, v_fi, v_fb, v_fn, v_ft, v_f0, v_fc, startR, List.map_cons, List.map_nil, List.length_cons, List.length_nil, List.replicate, List.cons_append, List.nil_append, List.set_cons_zero, List.set_cons_succ, Option.some.injEq, exists_eq_left', Nat.reduceAdd, Nat.reduceSub, Nat.sub_zero, Nat.sub_self, Nat.zero_add, Nat.reduceEqDiff, Bool.not_true, Bool.not_false, if_true, if_false, Bool.and_self, Bool.true_and, Bool.and_true, Bool.false_eq_true, ↓reduceIte, true_and, and_true, decide_true, decide_false, wipeR]
  refine k_nx (k_seq (k_sIf ?_))
  simp only [ok_V0, ok_Vs, ok_K, ok_B, ok_U, ok_nil, ok_cons, ok_N, ok_aN, ok_call, ok_nl, ok_fl, ok_afl, ok_T, ok_qNot, ok_qAnd, ok_qOr, ok_and, ok_or, ok_not, ok_if, ok_Sl, ok_oNo, ok_oOf, ok_Ch, ok_it, ok_itA, ok_yes, v_addI, v_sub, v_neg, v_eqI, v_eqS, v_eqB, v_eq0, v_eqT0, v_neI, v_neS, v_neB, v_ne0, v_neT0, v_ltI, v_leI, v_gtI, v_geI, v_is, v_isNot, v_nn, v_ns, v_ni, v_nl, v_nt, v_tb, v_tl, v_tt, v_tn, v_ti, v_asB, v_asI, v_asL, v_asT, v_asS, v_lenL, v_lenT, v_tupL, v_tupT, v_listL, v_listT, v_intB, v_tup0, v_tup1, v_tup2, v_tup3, v_tup4, v_tup5, v_lst0, v_lst1, v_lst2, v_lst3, v_lst4, v_lst5, v_ok0, v_ok1, v_ok2, v_ix0L, v_ix0, v_ix1, v_ix2, v_ix3, v_fs, v_fi, v_fb, v_fn, v_ft, v_f0, v_fc, startR, List.map_cons, List.map_nil, List.length_cons, List.length_nil, List.replicate, List.cons_append, List.nil_append, List.set_cons_zero, List.set_cons_succ, Option.some.injEq, exists_eq_left', Nat.reduceAdd, Nat.reduceSub, Nat.sub_zero, Nat.sub_self, Nat.zero_add, Nat.reduceEqDiff, Bool.not_true, Bool.not_false, if_true, if_false, Bool.and_self, Bool.true_and, Bool.and_true, Bool.false_eq_true, ↓reduceIte, true_and, and_true, decide_true, decide_false, wipeR]
  have h2 : lcF (S := S) (iOf asT (cB pIx (cVar 0) (cK (.int 0)))) (gNm 5) (qOr (qT (cB pLt (cB pIx (cVar 5) (cK (.int 1))) (cK (.int 1)))) (qT (cB pNotIn (cB pIx (cVar 5) (cK (.int 0))) (cVar 2)))) (cVar 5) [5] [some (totD (sumOf ts)), some (.tuple (ts.map totD)), some (.list (xs.map .str)), none, none, none] s = some ([], s) := by
    have h := k_keep (S := S) (ds := (sumOf ts).1.map ptD) (q := qOr (qT (cB pLt (cB pIx (cVar 5) (cK (.int 1))) (cK (.int 1)))) (qT (cB pNotIn (cB pIx (cVar 5) (cK (.int 0))) (cVar 2)))) (f := cVar 5) (fi := iOf asT (cB pIx (cVar 0) (cK (.int 0)))) (t := gNm 5) (vs := [5]) (ρ := [some (totD (sumOf ts)), some (.tuple (ts.map totD)), some (.list (xs.map .str)), none, none, none]) (s := s) (fun _ => false) id (by rw [List.length_map]; exact szL (by omega)) rfl (fun d hd => by
      obtain ⟨p, hp, rfl⟩ := List.mem_map.mp hd
      obtain ⟨f1, f2⟩ := h.found hp
      refine ⟨_, rfl, ?_, fun z => by cases z⟩
      refine ok_eqB ?_
      show Ok (qOr _ _ [some (totD (sumOf ts)), some (.tuple (ts.map totD)), some (.list (xs.map .str)), none, none, some (.tuple [.str p.1, .int p.2])] s) _
      simp only [ok_V0, ok_Vs, ok_K, ok_B, ok_U, ok_nil, ok_cons, ok_N, ok_aN, ok_call, ok_nl, ok_fl, ok_afl, ok_T, ok_qNot, ok_qAnd, ok_qOr, ok_and, ok_or, ok_not, ok_if, ok_Sl, ok_oNo, ok_oOf, ok_Ch, ok_it, ok_itA, ok_yes, v_addI, v_sub, v_neg, v_eqI, v_eqS, v_eqB, v_eq0, v_eqT0, v_neI, v_neS, v_neB, v_ne0, v_neT0, v_ltI, v_leI, v_gtI, v_geI, v_is, v_isNot, v_nn, v_ns, v_ni, v_nl, v_nt, v_tb, v_tl, v_tt, v_tn, v_ti, v_asB, v_asI, v_asL, v_asT, v_asS, v_lenL, v_lenT, v_tupL, v_tupT, v_listL, v_listT, v_intB, v_tup0, v_tup1, v_tup2, v_tup3, v_tup4, v_tup5, v_lst0, v_lst1, v_lst2, v_lst3, v_lst4, v_lst5, v_ok0, v_ok1, v_ok2, v_ix0L, v_ix0, v_ix1, v_ix2, v_ix3, v_fs, v_fi, v_fb, v_fn, v_ft, v_f0, v_fc, startR, List.map_cons, List.map_nil, List.length_cons, List.length_nil, List.replicate, List.cons_append, List.nil_append, List.set_cons_zero, List.set_cons_succ, Option.some.injEq, exists_eq_left', Nat.reduceAdd, Nat.reduceSub, Nat.sub_zero, Nat.sub_self, Nat.zero_add, Nat.reduceEqDiff, Bool.not_true, Bool.not_false, if_true, if_false, Bool.and_self, Bool.true_and, Bool.and_true, Bool.false_eq_true, ↓reduceIte, true_and, and_true, decide_true, decide_false, wipeR]
      rw [decide_eq_false (by omega)]
      simp only [ok_V0, ok_Vs, ok_K, ok_B, ok_U, ok_nil, ok_cons, ok_N, ok_aN, ok_call, ok_nl, ok_fl, ok_afl, ok_T, ok_qNot, ok_qAnd, ok_qOr, ok_and, ok_or, ok_not, ok_if, ok_Sl, ok_oNo, ok_oOf, ok_Ch, ok_it, ok_itA, ok_yes, v_addI, v_sub, v_neg, v_eqI, v_eqS, v_eqB, v_eq0, v_eqT0, v_neI, v_neS, v_neB, v_ne0, v_neT0, v_ltI, v_leI, v_gtI, v_geI, v_is, v_isNot, v_nn, v_ns, v_ni, v_nl, v_nt, v_tb, v_tl, v_tt, v_tn, v_ti, v_asB, v_asI, v_asL, v_asT, v_asS, v_lenL, v_lenT, v_tupL, v_tupT, v_listL, v_listT, v_intB, v_tup0, v_tup1, v_tup2, v_tup3, v_tup4, v_tup5, v_lst0, v_lst1, v_lst2, v_lst3, v_lst4, v_lst5, v_ok0, v_ok1, v_ok2, v_ix0L, v_ix0, v_ix1, v_ix2, v_ix3, v_fs, v_fi, v_fb, v_fn, v_ft, v_f0, v_fc, startR, List.map_cons, List.map_nil, List.length_cons, List.length_nil, List.replicate, List.cons_append, List.nil_append, List.set_cons_zero, List.set_cons_succ, Option.some.injEq, exists_eq_left', Nat.reduceAdd, Nat.reduceSub, Nat.sub_zero, Nat.sub_self, Nat.zero_add, Nat.reduceEqDiff, Bool.not_true, Bool.not_false, if_true, if_false, Bool.and_self, Bool.true_and, Bool.and_true, Bool.false_eq_true, ↓reduceIte, true_and, and_true, decide_true, decide_false, wipeR]
      rw [notIn_strsL, decide_eq_true f1]
      simp only [ok_V0, ok_Vs, ok_K, ok_B, ok_U, ok_nil, ok_cons, ok_N, ok_aN, ok_call, ok_nl, ok_fl, ok_afl, ok_T, ok_qNot, ok_qAnd, ok_qOr, ok_and, ok_or, ok_not, ok_if, ok_Sl, ok_oNo, ok_oOf, ok_Ch, ok_it, ok_itA, ok_yes, v_addI, v_sub, v_neg, v_eqI, v_eqS, v_eqB, v_eq0, v_eqT0, v_neI, v_neS, v_neB, v_ne0, v_neT0, v_ltI, v_leI, v_gtI, v_geI, v_is, v_isNot, v_nn, v_ns, v_ni, v_nl, v_nt, v_tb, v_tl, v_tt, v_tn, v_ti, v_asB, v_asI, v_asL, v_asT, v_asS, v_lenL, v_lenT, v_tupL, v_tupT, v_listL, v_listT, v_intB, v_tup0, v_tup1, v_tup2, v_tup3, v_tup4, v_tup5, v_lst0, v_lst1, v_lst2, v_lst3, v_lst4, v_lst5, v_ok0, v_ok1, v_ok2, v_ix0L, v_ix0, v_ix1, v_ix2, v_ix3, v_fs, v_fi, v_fb, v_fn, v_ft, v_f0, v_fc, startR, List.map_cons, List.map_nil, List.length_cons, List.length_nil, List.replicate, List.cons_append, List.nil_append, List.set_cons_zero, List.set_cons_succ, Option.some.injEq, exists_eq_left', Nat.reduceAdd, Nat.reduceSub, Nat.sub_zero, Nat.sub_self, Nat.zero_add, Nat.reduceEqDiff, Bool.not_true, Bool.not_false, if_true, if_false, Bool.and_self, Bool.true_and, Bool.and_true, Bool.false_eq_true, ↓reduceIte, true_and, and_true, decide_true, decide_false, wipeR])
    rw [h, List.filter_eq_nil_iff.mpr (fun _ _ => by decide)]
    rfl
  refine ⟨_, _, h2, ?_⟩
  simp only [ok_V0, ok_Vs, ok_K, ok_B, ok_U, ok_nil, ok_cons, ok_N, ok_aN, ok_call, ok_nl, ok_fl, ok_afl, ok_T, ok_qNot, ok_qAnd, ok_qOr, ok_and, ok_or, ok_not, ok_if, ok_Sl, ok_oNo, ok_oOf, ok_Ch, ok_it, ok_itA, ok_yes, v_addI, v_sub, v_neg, v_eqI, v_eqS, v_eqB, v_eq0, v_eqT0, v_neI, v_neS, v_neB, v_ne0, v_neT0, v_ltI, v_leI, v_gtI, v_geI, v_is, v_isNot, v_nn, v_ns, v_ni, v_nl, v_nt, v_tb, v_tl, v_tt, v_tn, v_ti, v_asB, v_asI, v_asL, v_asT, v_asS, v_lenL, v_lenT, v_tupL, v_tupT, v_listL, v_listT, v_intB, v_tup0, v_tup1, v_tup2, v_tup3, v_tup4, v_tup5, v_lst0, v_lst1, v_lst2, v_lst3, v_lst4, v_lst5, v_ok0, v_ok1, v_ok2, v_ix0L, v_ix0, v_ix1, v_ix2, v_ix3, v_fs, v_fi, v_fb, v_fn, v_ft, v_f0, v_fc, startR, List.map_cons, List.map_nil, List.length_cons, List.length_nil, List.replicate, List.cons_append, List.nil_append, List.set_cons_zero, List.set_cons_succ, Option.some.injEq, exists_eq_left', Nat.reduceAdd, Nat.reduceSub, Nat.sub_zero, Nat.sub_self, Nat.zero_add, Nat.reduceEqDiff, Bool.not_true, Bool.not_false, if_true, if_false, Bool.and_self, Bool.true_and, Bool.and_true, Bool.false_eq_true, ↓reduceIte, true_and, and_true, decide_true, decide_false, wipeR, List.isEmpty_nil]
  refine k_nx (k_seq (k_forP (fun ds s' => ds = xs.map .str ∧ s' = s) ⟨_, _, rfl, rfl, rfl⟩ ?_))
  rintro ds s1 ⟨rfl, rfl⟩
  refine ⟨fun j ρ s' => ∃ o, ρ = [some (totD (sumOf ts)), some (.tuple (ts.map totD)), some (.list (xs.map .str)), o, none, none] ∧ s' = s1, ⟨none, rfl, rfl⟩, ?_, ?_⟩
  · rintro j d ρ s2 hd ⟨o, rfl, rfl⟩
    obtain ⟨k, hk, rfl⟩ := List.mem_map.mp (List.mem_of_getElem? hd)
    refine ⟨_, rfl, ?_⟩
    refine k_sIf ?_
    simp only [ok_V0, ok_Vs, ok_K, ok_B, ok_U, ok_nil, ok_cons, ok_N, ok_aN, ok_call, ok_nl, ok_fl, ok_afl, ok_T, ok_qNot, ok_qAnd, ok_qOr, ok_and, ok_or, ok_not, ok_if, ok_Sl, ok_oNo, ok_oOf, ok_Ch, ok_it, ok_itA, ok_yes, v_addI, v_sub, v_neg, v_eqI, v_eqS, v_eqB, v_eq0, v_eqT0, v_neI, v_neS, v_neB, v_ne0, v_neT0, v_ltI, v_leI, v_gtI, v_geI, v_is, v_isNot, v_nn, v_ns, v_ni, v_nl, v_nt, v_tb, v_tl, v_tt, v_tn, v_ti, v_asB, v_asI, v_asL, v_asT, v_asS, v_lenL, v_lenT, v_tupL, v_tupT, v_listL, v_listT, v_intB, v_tup0, v_tup1, v_tup2, v_tup3, v_tup4, v_tup5, v_lst0, v_lst1, v_lst2, v_lst3, v_lst4, v_lst5, v_ok0, v_ok1, v_ok2, v_ix0L, v_ix0, v_ix1, v_ix2, v_ix3, v_fs, v_fi, v_fb, v_fn, v_ft, v_f0, v_fc, startR, List.map_cons, List.map_nil, List.length_cons, List.length_nil, List.replicate, List.cons_append, List.nil_append, List.set_cons_zero, List.set_cons_succ, Option.some.injEq, exists_eq_left', Nat.reduceAdd, Nat.reduceSub, Nat.sub_zero, Nat.sub_self, Nat.zero_add, Nat.reduceEqDiff, Bool.not_true, Bool.not_false, if_true, if_false, Bool.and_self, Bool.true_and, Bool.and_true, Bool.false_eq_true, ↓reduceIte, true_and, and_true, decide_true, decide_false, wipeR]
    rw [of_eq (by omega)]
    refine ⟨_, _, rfl, ?_⟩
    have h3 : lcF (S := S) (iOf asT (cVar 1)) (gNm 4) qYes (cCall 2 K_w_of (aCons (cVar 4) (aCons (cVar 3) aNil))) [4] [some (totD (sumOf ts)), some (.tuple (ts.map totD)), some (.list (xs.map .str)), some (.str k), none, none] s2 = some ((ts.map fun t => cntP t.1 k).map .int, s2) := by
      have h9 := k_keep (S := S) (ds := ts.map totD) (q := qYes) (f := cCall 2 K_w_of (aCons (cVar 4) (aCons (cVar 3) aNil))) (fi := iOf asT (cVar 1)) (t := gNm 4) (vs := [4]) (ρ := [some (totD (sumOf ts)), some (.tuple (ts.map totD)), some (.list (xs.map .str)), some (.str k), none, none]) (s := s2) (fun _ => true) (fun d => match K_w_of (S := Unit) [d, .str k] () with | some (x, _) => x | none => .none) (by rw [List.length_map]; exact szL (by omega)) rfl (fun d hd => by
        obtain ⟨t, ht, rfl⟩ := List.mem_map.mp hd
        have tl := (h.sm t ht).len
        refine ⟨_, rfl, rfl, fun _ => ?_⟩
        rw [of_eq (S := Unit) (by omega)]
        refine ok_eq ?_
        show Ok (cCall 2 K_w_of (aCons (cVar 4) (aCons (cVar 3) aNil)) [some (totD (sumOf ts)), some (.tuple (ts.map totD)), some (.list (xs.map .str)), some (.str k), some (totD t), none] s2) _
        simp only [ok_V0, ok_Vs, ok_K, ok_B, ok_U, ok_nil, ok_cons, ok_N, ok_aN, ok_call, ok_nl, ok_fl, ok_afl, ok_T, ok_qNot, ok_qAnd, ok_qOr, ok_and, ok_or, ok_not, ok_if, ok_Sl, ok_oNo, ok_oOf, ok_Ch, ok_it, ok_itA, ok_yes, v_addI, v_sub, v_neg, v_eqI, v_eqS, v_eqB, v_eq0, v_eqT0, v_neI, v_neS, v_neB, v_ne0, v_neT0, v_ltI, v_leI, v_gtI, v_geI, v_is, v_isNot, v_nn, v_ns, v_ni, v_nl, v_nt, v_tb, v_tl, v_tt, v_tn, v_ti, v_asB, v_asI, v_asL, v_asT, v_asS, v_lenL, v_lenT, v_tupL, v_tupT, v_listL, v_listT, v_intB, v_tup0, v_tup1, v_tup2, v_tup3, v_tup4, v_tup5, v_lst0, v_lst1, v_lst2, v_lst3, v_lst4, v_lst5, v_ok0, v_ok1, v_ok2, v_ix0L, v_ix0, v_ix1, v_ix2, v_ix3, v_fs, v_fi, v_fb, v_fn, v_ft, v_f0, v_fc, startR, List.map_cons, List.map_nil, List.length_cons, List.length_nil, List.replicate, List.cons_append, List.nil_append, List.set_cons_zero, List.set_cons_succ, Option.some.injEq, exists_eq_left', Nat.reduceAdd, Nat.reduceSub, Nat.sub_zero, Nat.sub_self, Nat.zero_add, Nat.reduceEqDiff, Bool.not_true, Bool.not_false, if_true, if_false, Bool.and_self, Bool.true_and, Bool.and_true, Bool.false_eq_true, ↓reduceIte, true_and, and_true, decide_true, decide_false, wipeR]
        exact ⟨_, _, of_eq (by omega), rfl, rfl⟩)
      rw [h9, List.filter_eq_self.mpr (fun _ _ => rfl), List.map_map, List.map_map]
      refine congrArg some (Prod.ext (List.map_congr_left fun t ht => ?_) rfl)
      have tl := (h.sm t ht).len
      show (match K_w_of (S := Unit) [totD t, .str k] () with | some (x, _) => x | none => .none) = _
      rw [of_eq (S := Unit) (by omega)]
      rfl
    refine ⟨_, _, h3, _, v_sum _, ?_⟩
    simp only [ok_V0, ok_Vs, ok_K, ok_B, ok_U, ok_nil, ok_cons, ok_N, ok_aN, ok_call, ok_nl, ok_fl, ok_afl, ok_T, ok_qNot, ok_qAnd, ok_qOr, ok_and, ok_or, ok_not, ok_if, ok_Sl, ok_oNo, ok_oOf, ok_Ch, ok_it, ok_itA, ok_yes, v_addI, v_sub, v_neg, v_eqI, v_eqS, v_eqB, v_eq0, v_eqT0, v_neI, v_neS, v_neB, v_ne0, v_neT0, v_ltI, v_leI, v_gtI, v_geI, v_is, v_isNot, v_nn, v_ns, v_ni, v_nl, v_nt, v_tb, v_tl, v_tt, v_tn, v_ti, v_asB, v_asI, v_asL, v_asT, v_asS, v_lenL, v_lenT, v_tupL, v_tupT, v_listL, v_listT, v_intB, v_tup0, v_tup1, v_tup2, v_tup3, v_tup4, v_tup5, v_lst0, v_lst1, v_lst2, v_lst3, v_lst4, v_lst5, v_ok0, v_ok1, v_ok2, v_ix0L, v_ix0, v_ix1, v_ix2, v_ix3, v_fs, v_fi, v_fb, v_fn, v_ft, v_f0, v_fc, startR, List.map_cons, List.map_nil, List.length_cons, List.length_nil, List.replicate, List.cons_append, List.nil_append, List.set_cons_zero, List.set_cons_succ, Option.some.injEq, exists_eq_left', Nat.reduceAdd, Nat.reduceSub, Nat.sub_zero, Nat.sub_self, Nat.zero_add, Nat.reduceEqDiff, Bool.not_true, Bool.not_false, if_true, if_false, Bool.and_self, Bool.true_and, Bool.and_true, Bool.false_eq_true, ↓reduceIte, true_and, and_true, decide_true, decide_false, wipeR]
    rw [decide_eq_true (show cntP (sumOf ts).1 k = _ from (sumT_cnt _ _ k).trans (flat_cnt ts k))]
    simp only [ok_V0, ok_Vs, ok_K, ok_B, ok_U, ok_nil, ok_cons, ok_N, ok_aN, ok_call, ok_nl, ok_fl, ok_afl, ok_T, ok_qNot, ok_qAnd, ok_qOr, ok_and, ok_or, ok_not, ok_if, ok_Sl, ok_oNo, ok_oOf, ok_Ch, ok_it, ok_itA, ok_yes, v_addI, v_sub, v_neg, v_eqI, v_eqS, v_eqB, v_eq0, v_eqT0, v_neI, v_neS, v_neB, v_ne0, v_neT0, v_ltI, v_leI, v_gtI, v_geI, v_is, v_isNot, v_nn, v_ns, v_ni, v_nl, v_nt, v_tb, v_tl, v_tt, v_tn, v_ti, v_asB, v_asI, v_asL, v_asT, v_asS, v_lenL, v_lenT, v_tupL, v_tupT, v_listL, v_listT, v_intB, v_tup0, v_tup1, v_tup2, v_tup3, v_tup4, v_tup5, v_lst0, v_lst1, v_lst2, v_lst3, v_lst4, v_lst5, v_ok0, v_ok1, v_ok2, v_ix0L, v_ix0, v_ix1, v_ix2, v_ix3, v_fs, v_fi, v_fb, v_fn, v_ft, v_f0, v_fc, startR, List.map_cons, List.map_nil, List.length_cons, List.length_nil, List.replicate, List.cons_append, List.nil_append, List.set_cons_zero, List.set_cons_succ, Option.some.injEq, exists_eq_left', Nat.reduceAdd, Nat.reduceSub, Nat.sub_zero, Nat.sub_self, Nat.zero_add, Nat.reduceEqDiff, Bool.not_true, Bool.not_false, if_true, if_false, Bool.and_self, Bool.true_and, Bool.and_true, Bool.false_eq_true, ↓reduceIte, true_and, and_true, decide_true, decide_false, wipeR]
    exact k_nx ⟨_, rfl, rfl⟩
  · rintro ρ s2 ⟨o, rfl, rfl⟩
    refine k_ret ?_
    simp only [ok_V0, ok_Vs, ok_K, ok_B, ok_U, ok_nil, ok_cons, ok_N, ok_aN, ok_call, ok_nl, ok_fl, ok_afl, ok_T, ok_qNot, ok_qAnd, ok_qOr, ok_and, ok_or, ok_not, ok_if, ok_Sl, ok_oNo, ok_oOf, ok_Ch, ok_it, ok_itA, ok_yes, v_addI, v_sub, v_neg, v_eqI, v_eqS, v_eqB, v_eq0, v_eqT0, v_neI, v_neS, v_neB, v_ne0, v_neT0, v_ltI, v_leI, v_gtI, v_geI, v_is, v_isNot, v_nn, v_ns, v_ni, v_nl, v_nt, v_tb, v_tl, v_tt, v_tn, v_ti, v_asB, v_asI, v_asL, v_asT, v_asS, v_lenL, v_lenT, v_tupL, v_tupT, v_listL, v_listT, v_intB, v_tup0, v_tup1, v_tup2, v_tup3, v_tup4, v_tup5, v_lst0, v_lst1, v_lst2, v_lst3, v_lst4, v_lst5, v_ok0, v_ok1, v_ok2, v_ix0L, v_ix0, v_ix1, v_ix2, v_ix3, v_fs, v_fi, v_fb, v_fn, v_ft, v_f0, v_fc, startR, List.map_cons, List.map_nil, List.length_cons, List.length_nil, List.replicate, List.cons_append, List.nil_append, List.set_cons_zero, List.set_cons_succ, Option.some.injEq, exists_eq_left', Nat.reduceAdd, Nat.reduceSub, Nat.sub_zero, Nat.sub_self, Nat.zero_add, Nat.reduceEqDiff, Bool.not_true, Bool.not_false, if_true, if_false, Bool.and_self, Bool.true_and, Bool.and_true, Bool.false_eq_true, ↓reduceIte, true_and, and_true, decide_true, decide_false, wipeR]
end
end Lw41
set_option Elab.async false
set_option linter.all false
set_option maxRecDepth 100000
set_option maxHeartbeats 1000000
namespace K41
open PySem PySem.Spec L2 Dl Mx Ds Lw01 Lw41
abbrev Fkinds : Fn DS := K_w_kinds (K_w_word Fdraw8) Fdraw8
abbrev Fsm : Fn DS := K_w_sum Fdraw8 (K_w_times Fdraw8)
abbrev Fright : Fn DS := K_w_right (K_w_is_sum K_w_whole) K_w_of
abbrev Fso : Fn DS := K_sum_of
theorem Sms.mono {xs : List Str} {ts us : List Tot} (h : Sms xs ts) (hs : ∀ t ∈ us, t ∈ ts) (hl : us.length ≤ ts.length) : Sms xs us := ⟨h.ks, fun t ht => h.sm t (hs t ht), Nat.le_trans hl h.few⟩
theorem turn_ok {ρ : Rho} {s : DS} {o2 o3 o4 o5 o6 o7 o8 : Option D} {R : Rs → DS → Prop} (q : ∀ o2 o3 o4 o5 o6 o7 o8 s', R (.nx [none, some (hnd 0), o2, o3, o4, o5, o6, o7, o8]) s') :
    Ok (sSeq (sSet 3 (cCall 2 Fkinds (aCons (cVar 1) (aCons (cK (.int 6)) aNil))))
      (sSeq (sSet 4 (cN pTuple (aCons (cNl (lcF (iOfA pR1 (aCons (cCall 2 Fdraw8 (aCons (cVar 1) (aCons (cK (.int 10)) aNil))) aNil)) (gNm 8) qYes (cCall 2 Fsm (aCons (cVar 1) (aCons (cVar 3) aNil))) [8])) aNil)))
      (sSeq (sSet 5 (cCall 1 Fso (aCons (cVar 4) aNil)))
      (sSeq (sIf (qOr (qNot (qT (cCall 3 Fright (aCons (cVar 5) (aCons (cVar 4) (aCons (cVar 3) aNil)))))) (qOr (qT (cB pNe (cCall 1 Fso (aCons (cU pBack (cVar 4)) aNil)) (cVar 5))) (qT (cB pNe (cCall 1 Fso (aCons (cN pTup (aCons (cVar 5) aNil)) aNil)) (cVar 5)))))
      (sRet (cK (.bool false)))
      sNx)
      (sSeq (sSet 6 (cCall 2 Fdraw8 (aCons (cVar 1) (aCons (cB pAdd (cN pLen (aCons (cVar 4) aNil)) (cK (.int 1))) aNil))))
      (sSeq (sIf (qT (cB pNe (cCall 1 Fso (aCons (cN pTup (aCons (cCall 1 Fso (aCons (cSl pSl (cVar 4) oNo (oOf (cVar 6))) aNil)) (aCons (cCall 1 Fso (aCons (cSl pSl (cVar 4) (oOf (cVar 6)) oNo) aNil)) aNil))) aNil)) (cVar 5)))
      (sRet (cK (.bool false)))
      sNx)
      (sFor (iOf asT (cVar 4)) (gNm 7)
      (sIf (qT (cB pNe (cCall 1 Fso (aCons (cN pTup (aCons (cVar 7) aNil)) aNil)) (cVar 7)))
        (sRet (cK (.bool false)))
        sNx)))))))
    [none, some (hnd 0), o2, o3, o4, o5, o6, o7, o8] s) R := by
  refine k_seq (k_set ?_)
  simp only [ok_V0, ok_Vs, ok_K, ok_B, ok_U, ok_nil, ok_cons, ok_N, ok_aN, ok_call, ok_nl, ok_fl, ok_afl, ok_T, ok_qNot, ok_qAnd, ok_qOr, ok_and, ok_or, ok_not, ok_if, ok_Sl, ok_oNo, ok_oOf, ok_Ch, ok_it, ok_itA, ok_yes, v_addI, v_sub, v_neg, v_eqI, v_eqS, v_eqB, v_eq0, v_eqT0, v_neI, v_neS, v_neB, v_ne0, v_neT0, v_ltI, v_leI, v_gtI, v_geI, v_is, v_isNot, v_nn, v_ns, v_ni, v_nl, v_nt, v_tb, v_tl, v_tt, v_tn, v_ti, v_asB, v_asI, v_asL, v_asT, v_asS, v_lenL, v_lenT, v_tupL, v_tupT, v_listL, v_listT, v_intB, v_tup0, v_tup1, v_tup2, v_tup3, v_tup4, v_tup5, v_lst0, v_lst1, v_lst2, v_lst3, v_lst4, v_lst5, v_ok0, v_ok1, v_ok2, v_ix0L, v_ix0, v_ix1, v_ix2, v_ix3, v_fs, v_fi, v_fb, v_fn, v_ft, v_f0, v_fc, startR, List.map_cons, List.map_nil, List.length_cons, List.length_nil, List.replicate, List.cons_append, List.nil_append, List.set_cons_zero, List.set_cons_succ, Option.some.injEq, exists_eq_left', Nat.reduceAdd, Nat.reduceSub, Nat.sub_zero, Nat.sub_self, Nat.zero_add, Nat.reduceEqDiff, Bool.not_true, Bool.not_false, if_true, if_false, Bool.and_self, Bool.true_and, Bool.and_true, Bool.false_eq_true, ↓reduceIte, true_and, and_true, decide_true, decide_false, wipeR]
  refine ok_kinds fun xs s1 hk => ?_
  refine k_seq (k_set ?_)
  simp only [ok_V0, ok_Vs, ok_K, ok_B, ok_U, ok_nil, ok_cons, ok_N, ok_aN, ok_call, ok_nl, ok_fl, ok_afl, ok_T, ok_qNot, ok_qAnd, ok_qOr, ok_and, ok_or, ok_not, ok_if, ok_Sl, ok_oNo, ok_oOf, ok_Ch, ok_it, ok_itA, ok_yes, v_addI, v_sub, v_neg, v_eqI, v_eqS, v_eqB, v_eq0, v_eqT0, v_neI, v_neS, v_neB, v_ne0, v_neT0, v_ltI, v_leI, v_gtI, v_geI, v_is, v_isNot, v_nn, v_ns, v_ni, v_nl, v_nt, v_tb, v_tl, v_tt, v_tn, v_ti, v_asB, v_asI, v_asL, v_asT, v_asS, v_lenL, v_lenT, v_tupL, v_tupT, v_listL, v_listT, v_intB, v_tup0, v_tup1, v_tup2, v_tup3, v_tup4, v_tup5, v_lst0, v_lst1, v_lst2, v_lst3, v_lst4, v_lst5, v_ok0, v_ok1, v_ok2, v_ix0L, v_ix0, v_ix1, v_ix2, v_ix3, v_fs, v_fi, v_fb, v_fn, v_ft, v_f0, v_fc, startR, List.map_cons, List.map_nil, List.length_cons, List.length_nil, List.replicate, List.cons_append, List.nil_append, List.set_cons_zero, List.set_cons_succ, Option.some.injEq, exists_eq_left', Nat.reduceAdd, Nat.reduceSub, Nat.sub_zero, Nat.sub_self, Nat.zero_add, Nat.reduceEqDiff, Bool.not_true, Bool.not_false, if_true, if_false, Bool.and_self, Bool.true_and, Bool.and_true, Bool.false_eq_true, ↓reduceIte, true_and, and_true, decide_true, decide_false, wipeR]
  refine k_lcP (fun ds s' => ∃ n : Nat, n ≤ 9 ∧ ds = rngD 0 n) ?_ ?_
  · simp only [ok_V0, ok_Vs, ok_K, ok_B, ok_U, ok_nil, ok_cons, ok_N, ok_aN, ok_call, ok_nl, ok_fl, ok_afl, ok_T, ok_qNot, ok_qAnd, ok_qOr, ok_and, ok_or, ok_not, ok_if, ok_Sl, ok_oNo, ok_oOf, ok_Ch, ok_it, ok_itA, ok_yes, v_addI, v_sub, v_neg, v_eqI, v_eqS, v_eqB, v_eq0, v_eqT0, v_neI, v_neS, v_neB, v_ne0, v_neT0, v_ltI, v_leI, v_gtI, v_geI, v_is, v_isNot, v_nn, v_ns, v_ni, v_nl, v_nt, v_tb, v_tl, v_tt, v_tn, v_ti, v_asB, v_asI, v_asL, v_asT, v_asS, v_lenL, v_lenT, v_tupL, v_tupT, v_listL, v_listT, v_intB, v_tup0, v_tup1, v_tup2, v_tup3, v_tup4, v_tup5, v_lst0, v_lst1, v_lst2, v_lst3, v_lst4, v_lst5, v_ok0, v_ok1, v_ok2, v_ix0L, v_ix0, v_ix1, v_ix2, v_ix3, v_fs, v_fi, v_fb, v_fn, v_ft, v_f0, v_fc, startR, List.map_cons, List.map_nil, List.length_cons, List.length_nil, List.replicate, List.cons_append, List.nil_append, List.set_cons_zero, List.set_cons_succ, Option.some.injEq, exists_eq_left', Nat.reduceAdd, Nat.reduceSub, Nat.sub_zero, Nat.sub_self, Nat.zero_add, Nat.reduceEqDiff, Bool.not_true, Bool.not_false, if_true, if_false, Bool.and_self, Bool.true_and, Bool.and_true, Bool.false_eq_true, ↓reduceIte, true_and, and_true, decide_true, decide_false, wipeR]
    refine k_draw8 (by omega) (by omega) fun r s2 r0 r1 => ?_
    exact ⟨_, pr1 (by omega) (by omega), r.toNat, by omega, rfl⟩
  rintro ds s2 ⟨n, n9, rfl⟩
  refine ⟨by rw [rng_len]; exact szL (by omega), fun j acc _ => ∃ ts : List Tot, acc = ts.map totD ∧ ts.length = j ∧ ∀ t ∈ ts, Sm xs t, ⟨[], rfl, rfl, by simp⟩, ?_, ?_⟩
  · rintro j d acc s3 hd ⟨ts, rfl, hl, hs⟩
    refine ⟨_, rfl, ?_⟩
    simp only [ok_V0, ok_Vs, ok_K, ok_B, ok_U, ok_nil, ok_cons, ok_N, ok_aN, ok_call, ok_nl, ok_fl, ok_afl, ok_T, ok_qNot, ok_qAnd, ok_qOr, ok_and, ok_or, ok_not, ok_if, ok_Sl, ok_oNo, ok_oOf, ok_Ch, ok_it, ok_itA, ok_yes, v_addI, v_sub, v_neg, v_eqI, v_eqS, v_eqB, v_eq0, v_eqT0, v_neI, v_neS, v_neB, v_ne0, v_neT0, v_ltI, v_leI, v_gtI, v_geI, v_is, v_isNot, v_nn, v_ns, v_ni, v_nl, v_nt, v_tb, v_tl, v_tt, v_tn, v_ti, v_asB, v_asI, v_asL, v_asT, v_asS, v_lenL, v_lenT, v_tupL, v_tupT, v_listL, v_listT, v_intB, v_tup0, v_tup1, v_tup2, v_tup3, v_tup4, v_tup5, v_lst0, v_lst1, v_lst2, v_lst3, v_lst4, v_lst5, v_ok0, v_ok1, v_ok2, v_ix0L, v_ix0, v_ix1, v_ix2, v_ix3, v_fs, v_fi, v_fb, v_fn, v_ft, v_f0, v_fc, startR, List.map_cons, List.map_nil, List.length_cons, List.length_nil, List.replicate, List.cons_append, List.nil_append, List.set_cons_zero, List.set_cons_succ, Option.some.injEq, exists_eq_left', Nat.reduceAdd, Nat.reduceSub, Nat.sub_zero, Nat.sub_self, Nat.zero_add, Nat.reduceEqDiff, Bool.not_true, Bool.not_false, if_true, if_false, Bool.and_self, Bool.true_and, Bool.and_true, Bool.false_eq_true, ↓reduceIte, true_and, and_true, decide_true, decide_false, wipeR]
    refine ok_sum hk fun t s4 ht => ⟨ts ++ [t], by simp, by simp [hl], fun x hx => ?_⟩
    rcases List.mem_append.mp hx with hx | hx
    · exact hs x hx
    · rw [List.mem_singleton.mp hx]
      exact ht
  rintro acc s3 ⟨ts, rfl, hl, hs⟩
  rw [rng_len] at hl
  have S : Sms xs ts := ⟨hk, hs, by omega⟩
  have fl := S.flen
  have so : ∀ (us : List Tot) (s : DS), Sms xs us → Fso [.tuple (us.map totD)] s = some (totD (sumOf us), s) := fun us s h => sum_eq h.len
  have one : ∀ (t : Tot) (s : DS), t.1.length < 64 → Canon t → Fso [.tuple [totD t]] s = some (totD t, s) := fun t s h c => by
    have := sum_eq (s := s) (ts := [t]) (by simpa using h)
    rw [sum_canon c] at this
    exact this
  have cf : Canon (sumOf ts) := sumT_canon _ _
  have nf := ne_tot (t := sumOf ts) fun p hp => S.ok hp
  refine k_seq (k_set ?_)
  simp only [ok_V0, ok_Vs, ok_K, ok_B, ok_U, ok_nil, ok_cons, ok_N, ok_aN, ok_call, ok_nl, ok_fl, ok_afl, ok_T, ok_qNot, ok_qAnd, ok_qOr, ok_and, ok_or, ok_not, ok_if, ok_Sl, ok_oNo, ok_oOf, ok_Ch, ok_it, ok_itA, ok_yes, v_addI, v_sub, v_neg, v_eqI, v_eqS, v_eqB, v_eq0, v_eqT0, v_neI, v_neS, v_neB, v_ne0, v_neT0, v_ltI, v_leI, v_gtI, v_geI, v_is, v_isNot, v_nn, v_ns, v_ni, v_nl, v_nt, v_tb, v_tl, v_tt, v_tn, v_ti, v_asB, v_asI, v_asL, v_asT, v_asS, v_lenL, v_lenT, v_tupL, v_tupT, v_listL, v_listT, v_intB, v_tup0, v_tup1, v_tup2, v_tup3, v_tup4, v_tup5, v_lst0, v_lst1, v_lst2, v_lst3, v_lst4, v_lst5, v_ok0, v_ok1, v_ok2, v_ix0L, v_ix0, v_ix1, v_ix2, v_ix3, v_fs, v_fi, v_fb, v_fn, v_ft, v_f0, v_fc, startR, List.map_cons, List.map_nil, List.length_cons, List.length_nil, List.replicate, List.cons_append, List.nil_append, List.set_cons_zero, List.set_cons_succ, Option.some.injEq, exists_eq_left', Nat.reduceAdd, Nat.reduceSub, Nat.sub_zero, Nat.sub_self, Nat.zero_add, Nat.reduceEqDiff, Bool.not_true, Bool.not_false, if_true, if_false, Bool.and_self, Bool.true_and, Bool.and_true, Bool.false_eq_true, ↓reduceIte, true_and, and_true, decide_true, decide_false, wipeR]
  refine ⟨_, _, so ts _ S, ?_⟩
  refine k_seq (k_sIf ?_)
  simp only [ok_V0, ok_Vs, ok_K, ok_B, ok_U, ok_nil, ok_cons, ok_N, ok_aN, ok_call, ok_nl, ok_fl, ok_afl, ok_T, ok_qNot, ok_qAnd, ok_qOr, ok_and, ok_or, ok_not, ok_if, ok_Sl, ok_oNo, ok_oOf, ok_Ch, ok_it, ok_itA, ok_yes, v_addI, v_sub, v_neg, v_eqI, v_eqS, v_eqB, v_eq0, v_eqT0, v_neI, v_neS, v_neB, v_ne0, v_neT0, v_ltI, v_leI, v_gtI, v_geI, v_is, v_isNot, v_nn, v_ns, v_ni, v_nl, v_nt, v_tb, v_tl, v_tt, v_tn, v_ti, v_asB, v_asI, v_asL, v_asT, v_asS, v_lenL, v_lenT, v_tupL, v_tupT, v_listL, v_listT, v_intB, v_tup0, v_tup1, v_tup2, v_tup3, v_tup4, v_tup5, v_lst0, v_lst1, v_lst2, v_lst3, v_lst4, v_lst5, v_ok0, v_ok1, v_ok2, v_ix0L, v_ix0, v_ix1, v_ix2, v_ix3, v_fs, v_fi, v_fb, v_fn, v_ft, v_f0, v_fc, startR, List.map_cons, List.map_nil, List.length_cons, List.length_nil, List.replicate, List.cons_append, List.nil_append, List.set_cons_zero, List.set_cons_succ, Option.some.injEq, exists_eq_left', Nat.reduceAdd, Nat.reduceSub, Nat.sub_zero, Nat.sub_self, Nat.zero_add, Nat.reduceEqDiff, Bool.not_true, Bool.not_false, if_true, if_false, Bool.and_self, Bool.true_and, Bool.and_true, Bool.false_eq_true, ↓reduceIte, true_and, and_true, decide_true, decide_false, wipeR]
  refine ⟨_, _, right_eq S, ?_⟩
  simp only [ok_V0, ok_Vs, ok_K, ok_B, ok_U, ok_nil, ok_cons, ok_N, ok_aN, ok_call, ok_nl, ok_fl, ok_afl, ok_T, ok_qNot, ok_qAnd, ok_qOr, ok_and, ok_or, ok_not, ok_if, ok_Sl, ok_oNo, ok_oOf, ok_Ch, ok_it, ok_itA, ok_yes, v_addI, v_sub, v_neg, v_eqI, v_eqS, v_eqB, v_eq0, v_eqT0, v_neI, v_neS, v_neB, v_ne0, v_neT0, v_ltI, v_leI, v_gtI, v_geI, v_is, v_isNot, v_nn, v_ns, v_ni, v_nl, v_nt, v_tb, v_tl, v_tt, v_tn, v_ti, v_asB, v_asI, v_asL, v_asT, v_asS, v_lenL, v_lenT, v_tupL, v_tupT, v_listL, v_listT, v_intB, v_tup0, v_tup1, v_tup2, v_tup3, v_tup4, v_tup5, v_lst0, v_lst1, v_lst2, v_lst3, v_lst4, v_lst5, v_ok0, v_ok1, v_ok2, v_ix0L, v_ix0, v_ix1, v_ix2, v_ix3, v_fs, v_fi, v_fb, v_fn, v_ft, v_f0, v_fc, startR, List.map_cons, List.map_nil, List.length_cons, List.length_nil, List.replicate, List.cons_append, List.nil_append, List.set_cons_zero, List.set_cons_succ, Option.some.injEq, exists_eq_left', Nat.reduceAdd, Nat.reduceSub, Nat.sub_zero, Nat.sub_self, Nat.zero_add, Nat.reduceEqDiff, Bool.not_true, Bool.not_false, if_true, if_false, Bool.and_self, Bool.true_and, Bool.and_true, Bool.false_eq_true, ↓reduceIte, true_and, and_true, decide_true, decide_false, wipeR]
  have hb : pBack (.tuple (ts.map totD)) = some (.tuple (ts.reverse.map totD)) := by
    rw [List.map_reverse]
    rfl
  rw [hb]
  simp only [ok_V0, ok_Vs, ok_K, ok_B, ok_U, ok_nil, ok_cons, ok_N, ok_aN, ok_call, ok_nl, ok_fl, ok_afl, ok_T, ok_qNot, ok_qAnd, ok_qOr, ok_and, ok_or, ok_not, ok_if, ok_Sl, ok_oNo, ok_oOf, ok_Ch, ok_it, ok_itA, ok_yes, v_addI, v_sub, v_neg, v_eqI, v_eqS, v_eqB, v_eq0, v_eqT0, v_neI, v_neS, v_neB, v_ne0, v_neT0, v_ltI, v_leI, v_gtI, v_geI, v_is, v_isNot, v_nn, v_ns, v_ni, v_nl, v_nt, v_tb, v_tl, v_tt, v_tn, v_ti, v_asB, v_asI, v_asL, v_asT, v_asS, v_lenL, v_lenT, v_tupL, v_tupT, v_listL, v_listT, v_intB, v_tup0, v_tup1, v_tup2, v_tup3, v_tup4, v_tup5, v_lst0, v_lst1, v_lst2, v_lst3, v_lst4, v_lst5, v_ok0, v_ok1, v_ok2, v_ix0L, v_ix0, v_ix1, v_ix2, v_ix3, v_fs, v_fi, v_fb, v_fn, v_ft, v_f0, v_fc, startR, List.map_cons, List.map_nil, List.length_cons, List.length_nil, List.replicate, List.cons_append, List.nil_append, List.set_cons_zero, List.set_cons_succ, Option.some.injEq, exists_eq_left', Nat.reduceAdd, Nat.reduceSub, Nat.sub_zero, Nat.sub_self, Nat.zero_add, Nat.reduceEqDiff, Bool.not_true, Bool.not_false, if_true, if_false, Bool.and_self, Bool.true_and, Bool.and_true, Bool.false_eq_true, ↓reduceIte, true_and, and_true, decide_true, decide_false, wipeR]
  refine ⟨_, _, so ts.reverse _ (Sms.mono S (fun t ht => List.mem_reverse.mp ht) (by rw [List.length_reverse]; exact Nat.le_refl _)), ?_⟩
  rw [sum_rev]
  simp only [ok_V0, ok_Vs, ok_K, ok_B, ok_U, ok_nil, ok_cons, ok_N, ok_aN, ok_call, ok_nl, ok_fl, ok_afl, ok_T, ok_qNot, ok_qAnd, ok_qOr, ok_and, ok_or, ok_not, ok_if, ok_Sl, ok_oNo, ok_oOf, ok_Ch, ok_it, ok_itA, ok_yes, v_addI, v_sub, v_neg, v_eqI, v_eqS, v_eqB, v_eq0, v_eqT0, v_neI, v_neS, v_neB, v_ne0, v_neT0, v_ltI, v_leI, v_gtI, v_geI, v_is, v_isNot, v_nn, v_ns, v_ni, v_nl, v_nt, v_tb, v_tl, v_tt, v_tn, v_ti, v_asB, v_asI, v_asL, v_asT, v_asS, v_lenL, v_lenT, v_tupL, v_tupT, v_listL, v_listT, v_intB, v_tup0, v_tup1, v_tup2, v_tup3, v_tup4, v_tup5, v_lst0, v_lst1, v_lst2, v_lst3, v_lst4, v_lst5, v_ok0, v_ok1, v_ok2, v_ix0L, v_ix0, v_ix1, v_ix2, v_ix3, v_fs, v_fi, v_fb, v_fn, v_ft, v_f0, v_fc, startR, List.map_cons, List.map_nil, List.length_cons, List.length_nil, List.replicate, List.cons_append, List.nil_append, List.set_cons_zero, List.set_cons_succ, Option.some.injEq, exists_eq_left', Nat.reduceAdd, Nat.reduceSub, Nat.sub_zero, Nat.sub_self, Nat.zero_add, Nat.reduceEqDiff, Bool.not_true, Bool.not_false, if_true, if_false, Bool.and_self, Bool.true_and, Bool.and_true, Bool.false_eq_true, ↓reduceIte, true_and, and_true, decide_true, decide_false, wipeR, nf]
  refine ⟨_, _, one (sumOf ts) _ fl cf, ?_⟩
  simp only [ok_V0, ok_Vs, ok_K, ok_B, ok_U, ok_nil, ok_cons, ok_N, ok_aN, ok_call, ok_nl, ok_fl, ok_afl, ok_T, ok_qNot, ok_qAnd, ok_qOr, ok_and, ok_or, ok_not, ok_if, ok_Sl, ok_oNo, ok_oOf, ok_Ch, ok_it, ok_itA, ok_yes, v_addI, v_sub, v_neg, v_eqI, v_eqS, v_eqB, v_eq0, v_eqT0, v_neI, v_neS, v_neB, v_ne0, v_neT0, v_ltI, v_leI, v_gtI, v_geI, v_is, v_isNot, v_nn, v_ns, v_ni, v_nl, v_nt, v_tb, v_tl, v_tt, v_tn, v_ti, v_asB, v_asI, v_asL, v_asT, v_asS, v_lenL, v_lenT, v_tupL, v_tupT, v_listL, v_listT, v_intB, v_tup0, v_tup1, v_tup2, v_tup3, v_tup4, v_tup5, v_lst0, v_lst1, v_lst2, v_lst3, v_lst4, v_lst5, v_ok0, v_ok1, v_ok2, v_ix0L, v_ix0, v_ix1, v_ix2, v_ix3, v_fs, v_fi, v_fb, v_fn, v_ft, v_f0, v_fc, startR, List.map_cons, List.map_nil, List.length_cons, List.length_nil, List.replicate, List.cons_append, List.nil_append, List.set_cons_zero, List.set_cons_succ, Option.some.injEq, exists_eq_left', Nat.reduceAdd, Nat.reduceSub, Nat.sub_zero, Nat.sub_self, Nat.zero_add, Nat.reduceEqDiff, Bool.not_true, Bool.not_false, if_true, if_false, Bool.and_self, Bool.true_and, Bool.and_true, Bool.false_eq_true, ↓reduceIte, true_and, and_true, decide_true, decide_false, wipeR, nf]
  refine k_nx (k_seq (k_set ?_))
  simp only [ok_V0, ok_Vs, ok_K, ok_B, ok_U, ok_nil, ok_cons, ok_N, ok_aN, ok_call, ok_nl, ok_fl, ok_afl, ok_T, ok_qNot, ok_qAnd, ok_qOr, ok_and, ok_or, ok_not, ok_if, ok_Sl, ok_oNo, ok_oOf, ok_Ch, ok_it, ok_itA, ok_yes, v_addI, v_sub, v_neg, v_eqI, v_eqS, v_eqB, v_eq0, v_eqT0, v_neI, v_neS, v_neB, v_ne0, v_neT0, v_ltI, v_leI, v_gtI, v_geI, v_is, v_isNot, v_nn, v_ns, v_ni, v_nl, v_nt, v_tb, v_tl, v_tt, v_tn, v_ti, v_asB, v_asI, v_asL, v_asT, v_asS, v_lenL, v_lenT, v_tupL, v_tupT, v_listL, v_listT, v_intB, v_tup0, v_tup1, v_tup2, v_tup3, v_tup4, v_tup5, v_lst0, v_lst1, v_lst2, v_lst3, v_lst4, v_lst5, v_ok0, v_ok1, v_ok2, v_ix0L, v_ix0, v_ix1, v_ix2, v_ix3, v_fs, v_fi, v_fb, v_fn, v_ft, v_f0, v_fc, startR, List.map_cons, List.map_nil, List.length_cons, List.length_nil, List.replicate, List.cons_append, List.nil_append, List.set_cons_zero, List.set_cons_succ, Option.some.injEq, exists_eq_left', Nat.reduceAdd, Nat.reduceSub, Nat.sub_zero, Nat.sub_self, Nat.zero_add, Nat.reduceEqDiff, Bool.not_true, Bool.not_false, if_true, if_false, Bool.and_self, Bool.true_and, Bool.and_true, Bool.false_eq_true, ↓reduceIte, true_and, and_true, decide_true, decide_false, wipeR, List.length_map]
  refine k_draw8 (by omega) (by have := S.few; omega) fun a s4 a0 a1 => ?_
  obtain ⟨a, rfl⟩ : ∃ k : Nat, a = k := ⟨a.toNat, by omega⟩
  refine k_seq (k_sIf ?_)
  simp only [ok_V0, ok_Vs, ok_K, ok_B, ok_U, ok_nil, ok_cons, ok_N, ok_aN, ok_call, ok_nl, ok_fl, ok_afl, ok_T, ok_qNot, ok_qAnd, ok_qOr, ok_and, ok_or, ok_not, ok_if, ok_Sl, ok_oNo, ok_oOf, ok_Ch, ok_it, ok_itA, ok_yes, v_addI, v_sub, v_neg, v_eqI, v_eqS, v_eqB, v_eq0, v_eqT0, v_neI, v_neS, v_neB, v_ne0, v_neT0, v_ltI, v_leI, v_gtI, v_geI, v_is, v_isNot, v_nn, v_ns, v_ni, v_nl, v_nt, v_tb, v_tl, v_tt, v_tn, v_ti, v_asB, v_asI, v_asL, v_asT, v_asS, v_lenL, v_lenT, v_tupL, v_tupT, v_listL, v_listT, v_intB, v_tup0, v_tup1, v_tup2, v_tup3, v_tup4, v_tup5, v_lst0, v_lst1, v_lst2, v_lst3, v_lst4, v_lst5, v_ok0, v_ok1, v_ok2, v_ix0L, v_ix0, v_ix1, v_ix2, v_ix3, v_fs, v_fi, v_fb, v_fn, v_ft, v_f0, v_fc, startR, List.map_cons, List.map_nil, List.length_cons, List.length_nil, List.replicate, List.cons_append, List.nil_append, List.set_cons_zero, List.set_cons_succ, Option.some.injEq, exists_eq_left', Nat.reduceAdd, Nat.reduceSub, Nat.sub_zero, Nat.sub_self, Nat.zero_add, Nat.reduceEqDiff, Bool.not_true, Bool.not_false, if_true, if_false, Bool.and_self, Bool.true_and, Bool.and_true, Bool.false_eq_true, ↓reduceIte, true_and, and_true, decide_true, decide_false, wipeR, v_slT]
  rw [cutD_to, cutD_from, ← List.map_take, ← List.map_drop]
  have S1 := Sms.mono S (us := ts.take a) (fun t ht => List.mem_of_mem_take ht) (by rw [List.length_take]; omega)
  have S2 := Sms.mono S (us := ts.drop a) (fun t ht => List.mem_of_mem_drop ht) (by rw [List.length_drop]; omega)
  refine ⟨_, _, so _ _ S1, ?_⟩
  refine ⟨_, _, so _ _ S2, ?_⟩
  simp only [ok_V0, ok_Vs, ok_K, ok_B, ok_U, ok_nil, ok_cons, ok_N, ok_aN, ok_call, ok_nl, ok_fl, ok_afl, ok_T, ok_qNot, ok_qAnd, ok_qOr, ok_and, ok_or, ok_not, ok_if, ok_Sl, ok_oNo, ok_oOf, ok_Ch, ok_it, ok_itA, ok_yes, v_addI, v_sub, v_neg, v_eqI, v_eqS, v_eqB, v_eq0, v_eqT0, v_neI, v_neS, v_neB, v_ne0, v_neT0, v_ltI, v_leI, v_gtI, v_geI, v_is, v_isNot, v_nn, v_ns, v_ni, v_nl, v_nt, v_tb, v_tl, v_tt, v_tn, v_ti, v_asB, v_asI, v_asL, v_asT, v_asS, v_lenL, v_lenT, v_tupL, v_tupT, v_listL, v_listT, v_intB, v_tup0, v_tup1, v_tup2, v_tup3, v_tup4, v_tup5, v_lst0, v_lst1, v_lst2, v_lst3, v_lst4, v_lst5, v_ok0, v_ok1, v_ok2, v_ix0L, v_ix0, v_ix1, v_ix2, v_ix3, v_fs, v_fi, v_fb, v_fn, v_ft, v_f0, v_fc, startR, List.map_cons, List.map_nil, List.length_cons, List.length_nil, List.replicate, List.cons_append, List.nil_append, List.set_cons_zero, List.set_cons_succ, Option.some.injEq, exists_eq_left', Nat.reduceAdd, Nat.reduceSub, Nat.sub_zero, Nat.sub_self, Nat.zero_add, Nat.reduceEqDiff, Bool.not_true, Bool.not_false, if_true, if_false, Bool.and_self, Bool.true_and, Bool.and_true, Bool.false_eq_true, ↓reduceIte, true_and, and_true, decide_true, decide_false, wipeR]
  have e2 := sum_eq (s := s4) (ts := [sumOf (ts.take a), sumOf (ts.drop a)]) (by
    have h1 := sumT_len ((ts.take a).flatMap (·.1)) (((ts.take a).map (·.2)).sum)
    have h2 := sumT_len ((ts.drop a).flatMap (·.1)) (((ts.drop a).map (·.2)).sum)
    have h3 : ts.flatMap (·.1) = (ts.take a).flatMap (·.1) ++ (ts.drop a).flatMap (·.1) := by rw [← List.flatMap_append, List.take_append_drop]
    have h4 := congrArg List.length h3
    rw [List.length_append] at h4
    have h5 := S.len
    show ((sumOf (ts.take a)).1 ++ ((sumOf (ts.drop a)).1 ++ [])).length < 64
    rw [List.append_nil, List.length_append]
    show (sumT _ _).1.length + (sumT _ _).1.length < 64
    omega)
  rw [sum_cut, List.take_append_drop] at e2
  refine ⟨_, _, e2, ?_⟩
  simp only [ok_V0, ok_Vs, ok_K, ok_B, ok_U, ok_nil, ok_cons, ok_N, ok_aN, ok_call, ok_nl, ok_fl, ok_afl, ok_T, ok_qNot, ok_qAnd, ok_qOr, ok_and, ok_or, ok_not, ok_if, ok_Sl, ok_oNo, ok_oOf, ok_Ch, ok_it, ok_itA, ok_yes, v_addI, v_sub, v_neg, v_eqI, v_eqS, v_eqB, v_eq0, v_eqT0, v_neI, v_neS, v_neB, v_ne0, v_neT0, v_ltI, v_leI, v_gtI, v_geI, v_is, v_isNot, v_nn, v_ns, v_ni, v_nl, v_nt, v_tb, v_tl, v_tt, v_tn, v_ti, v_asB, v_asI, v_asL, v_asT, v_asS, v_lenL, v_lenT, v_tupL, v_tupT, v_listL, v_listT, v_intB, v_tup0, v_tup1, v_tup2, v_tup3, v_tup4, v_tup5, v_lst0, v_lst1, v_lst2, v_lst3, v_lst4, v_lst5, v_ok0, v_ok1, v_ok2, v_ix0L, v_ix0, v_ix1, v_ix2, v_ix3, v_fs, v_fi, v_fb, v_fn, v_ft, v_f0, v_fc, startR, List.map_cons, List.map_nil, List.length_cons, List.length_nil, List.replicate, List.cons_append, List.nil_append, List.set_cons_zero, List.set_cons_succ, Option.some.injEq, exists_eq_left', Nat.reduceAdd, Nat.reduceSub, Nat.sub_zero, Nat.sub_self, Nat.zero_add, Nat.reduceEqDiff, Bool.not_true, Bool.not_false, if_true, if_false, Bool.and_self, Bool.true_and, Bool.and_true, Bool.false_eq_true, ↓reduceIte, true_and, and_true, decide_true, decide_false, wipeR, nf]
  refine k_nx (k_forP (fun ds s' => ds = ts.map totD) ⟨_, _, rfl, rfl⟩ ?_)
  rintro ds s5 rfl
  refine ⟨fun j ρ _ => ∃ o2 o3 o4 o5 o6 o7 o8, ρ = [none, some (hnd 0), o2, o3, o4, o5, o6, o7, o8], ⟨_, _, _, _, _, _, _, rfl⟩, ?_, ?_⟩
  · rintro j d ρ s6 hd ⟨o2, o3, o4, o5, o6, o7, o8, rfl⟩
    obtain ⟨t, ht, rfl⟩ := List.mem_map.mp (List.mem_of_getElem? hd)
    refine ⟨_, rfl, ?_⟩
    refine k_sIf ?_
    have St := S.sm t ht
    simp only [ok_V0, ok_Vs, ok_K, ok_B, ok_U, ok_nil, ok_cons, ok_N, ok_aN, ok_call, ok_nl, ok_fl, ok_afl, ok_T, ok_qNot, ok_qAnd, ok_qOr, ok_and, ok_or, ok_not, ok_if, ok_Sl, ok_oNo, ok_oOf, ok_Ch, ok_it, ok_itA, ok_yes, v_addI, v_sub, v_neg, v_eqI, v_eqS, v_eqB, v_eq0, v_eqT0, v_neI, v_neS, v_neB, v_ne0, v_neT0, v_ltI, v_leI, v_gtI, v_geI, v_is, v_isNot, v_nn, v_ns, v_ni, v_nl, v_nt, v_tb, v_tl, v_tt, v_tn, v_ti, v_asB, v_asI, v_asL, v_asT, v_asS, v_lenL, v_lenT, v_tupL, v_tupT, v_listL, v_listT, v_intB, v_tup0, v_tup1, v_tup2, v_tup3, v_tup4, v_tup5, v_lst0, v_lst1, v_lst2, v_lst3, v_lst4, v_lst5, v_ok0, v_ok1, v_ok2, v_ix0L, v_ix0, v_ix1, v_ix2, v_ix3, v_fs, v_fi, v_fb, v_fn, v_ft, v_f0, v_fc, startR, List.map_cons, List.map_nil, List.length_cons, List.length_nil, List.replicate, List.cons_append, List.nil_append, List.set_cons_zero, List.set_cons_succ, Option.some.injEq, exists_eq_left', Nat.reduceAdd, Nat.reduceSub, Nat.sub_zero, Nat.sub_self, Nat.zero_add, Nat.reduceEqDiff, Bool.not_true, Bool.not_false, if_true, if_false, Bool.and_self, Bool.true_and, Bool.and_true, Bool.false_eq_true, ↓reduceIte, true_and, and_true, decide_true, decide_false, wipeR]
    refine ⟨_, _, one t _ (by have := St.len; omega) St.canon, ?_⟩
    have nt := ne_tot (t := t) fun p hp => wd_ok (hk.wd _ (St.sub p hp))
    simp only [ok_V0, ok_Vs, ok_K, ok_B, ok_U, ok_nil, ok_cons, ok_N, ok_aN, ok_call, ok_nl, ok_fl, ok_afl, ok_T, ok_qNot, ok_qAnd, ok_qOr, ok_and, ok_or, ok_not, ok_if, ok_Sl, ok_oNo, ok_oOf, ok_Ch, ok_it, ok_itA, ok_yes, v_addI, v_sub, v_neg, v_eqI, v_eqS, v_eqB, v_eq0, v_eqT0, v_neI, v_neS, v_neB, v_ne0, v_neT0, v_ltI, v_leI, v_gtI, v_geI, v_is, v_isNot, v_nn, v_ns, v_ni, v_nl, v_nt, v_tb, v_tl, v_tt, v_tn, v_ti, v_asB, v_asI, v_asL, v_asT, v_asS, v_lenL, v_lenT, v_tupL, v_tupT, v_listL, v_listT, v_intB, v_tup0, v_tup1, v_tup2, v_tup3, v_tup4, v_tup5, v_lst0, v_lst1, v_lst2, v_lst3, v_lst4, v_lst5, v_ok0, v_ok1, v_ok2, v_ix0L, v_ix0, v_ix1, v_ix2, v_ix3, v_fs, v_fi, v_fb, v_fn, v_ft, v_f0, v_fc, startR, List.map_cons, List.map_nil, List.length_cons, List.length_nil, List.replicate, List.cons_append, List.nil_append, List.set_cons_zero, List.set_cons_succ, Option.some.injEq, exists_eq_left', Nat.reduceAdd, Nat.reduceSub, Nat.sub_zero, Nat.sub_self, Nat.zero_add, Nat.reduceEqDiff, Bool.not_true, Bool.not_false, if_true, if_false, Bool.and_self, Bool.true_and, Bool.and_true, Bool.false_eq_true, ↓reduceIte, true_and, and_true, decide_true, decide_false, wipeR, nt]
    exact k_nx ⟨_, _, _, _, _, _, _, rfl⟩
  · rintro ρ s6 ⟨o2, o3, o4, o5, o6, o7, o8, rfl⟩
    exact q _ _ _ _ _ _ _ _
theorem law_true {s : DS} : Ok (B_law Fkinds Fdraw8 Fsm Fso Fright (lawR 7) s) fun r _ => r = .rt (.bool true) := by
  unfold B_law
  refine k_seq (k_forP (fun ds s' => ds = rngD 0 3) ?_ ?_)
  · simp only [ok_V0, ok_Vs, ok_K, ok_B, ok_U, ok_nil, ok_cons, ok_N, ok_aN, ok_call, ok_nl, ok_fl, ok_afl, ok_T, ok_qNot, ok_qAnd, ok_qOr, ok_and, ok_or, ok_not, ok_if, ok_Sl, ok_oNo, ok_oOf, ok_Ch, ok_it, ok_itA, ok_yes, v_addI, v_sub, v_neg, v_eqI, v_eqS, v_eqB, v_eq0, v_eqT0, v_neI, v_neS, v_neB, v_ne0, v_neT0, v_ltI, v_leI, v_gtI, v_geI, v_is, v_isNot, v_nn, v_ns, v_ni, v_nl, v_nt, v_tb, v_tl, v_tt, v_tn, v_ti, v_asB, v_asI, v_asL, v_asT, v_asS, v_lenL, v_lenT, v_tupL, v_tupT, v_listL, v_listT, v_intB, v_tup0, v_tup1, v_tup2, v_tup3, v_tup4, v_tup5, v_lst0, v_lst1, v_lst2, v_lst3, v_lst4, v_lst5, v_ok0, v_ok1, v_ok2, v_ix0L, v_ix0, v_ix1, v_ix2, v_ix3, v_fs, v_fi, v_fb, v_fn, v_ft, v_f0, v_fc, startR, List.map_cons, List.map_nil, List.length_cons, List.length_nil, List.replicate, List.cons_append, List.nil_append, List.set_cons_zero, List.set_cons_succ, Option.some.injEq, exists_eq_left', Nat.reduceAdd, Nat.reduceSub, Nat.sub_zero, Nat.sub_self, Nat.zero_add, Nat.reduceEqDiff, Bool.not_true, Bool.not_false, if_true, if_false, Bool.and_self, Bool.true_and, Bool.and_true, Bool.false_eq_true, ↓reduceIte, true_and, and_true, decide_true, decide_false, wipeR]
    rw [pr1 (by omega) (by omega)]
    simp only [ok_V0, ok_Vs, ok_K, ok_B, ok_U, ok_nil, ok_cons, ok_N, ok_aN, ok_call, ok_nl, ok_fl, ok_afl, ok_T, ok_qNot, ok_qAnd, ok_qOr, ok_and, ok_or, ok_not, ok_if, ok_Sl, ok_oNo, ok_oOf, ok_Ch, ok_it, ok_itA, ok_yes, v_addI, v_sub, v_neg, v_eqI, v_eqS, v_eqB, v_eq0, v_eqT0, v_neI, v_neS, v_neB, v_ne0, v_neT0, v_ltI, v_leI, v_gtI, v_geI, v_is, v_isNot, v_nn, v_ns, v_ni, v_nl, v_nt, v_tb, v_tl, v_tt, v_tn, v_ti, v_asB, v_asI, v_asL, v_asT, v_asS, v_lenL, v_lenT, v_tupL, v_tupT, v_listL, v_listT, v_intB, v_tup0, v_tup1, v_tup2, v_tup3, v_tup4, v_tup5, v_lst0, v_lst1, v_lst2, v_lst3, v_lst4, v_lst5, v_ok0, v_ok1, v_ok2, v_ix0L, v_ix0, v_ix1, v_ix2, v_ix3, v_fs, v_fi, v_fb, v_fn, v_ft, v_f0, v_fc, startR, List.map_cons, List.map_nil, List.length_cons, List.length_nil, List.replicate, List.cons_append, List.nil_append, List.set_cons_zero, List.set_cons_succ, Option.some.injEq, exists_eq_left', Nat.reduceAdd, Nat.reduceSub, Nat.sub_zero, Nat.sub_self, Nat.zero_add, Nat.reduceEqDiff, Bool.not_true, Bool.not_false, if_true, if_false, Bool.and_self, Bool.true_and, Bool.and_true, Bool.false_eq_true, ↓reduceIte, true_and, and_true, decide_true, decide_false, wipeR]
    rfl
  · rintro ds s1 rfl
    refine ⟨fun j ρ _ => ∃ o2 o3 o4 o5 o6 o7 o8, ρ = [none, some (hnd 0), o2, o3, o4, o5, o6, o7, o8], ⟨none, none, none, none, none, none, none, rfl⟩, ?_, ?_⟩
    · rintro j d ρ s2 hd ⟨o2, o3, o4, o5, o6, o7, o8, rfl⟩
      refine ⟨_, rfl, ?_⟩
      exact turn_ok (ρ := []) fun o2 o3 o4 o5 o6 o7 o8 s' => ⟨o2, o3, o4, o5, o6, o7, o8, rfl⟩
    · rintro ρ s2 ⟨o2, o3, o4, o5, o6, o7, o8, rfl⟩
      refine k_ret ?_
      simp only [ok_V0, ok_Vs, ok_K, ok_B, ok_U, ok_nil, ok_cons, ok_N, ok_aN, ok_call, ok_nl, ok_fl, ok_afl, ok_T, ok_qNot, ok_qAnd, ok_qOr, ok_and, ok_or, ok_not, ok_if, ok_Sl, ok_oNo, ok_oOf, ok_Ch, ok_it, ok_itA, ok_yes, v_addI, v_sub, v_neg, v_eqI, v_eqS, v_eqB, v_eq0, v_eqT0, v_neI, v_neS, v_neB, v_ne0, v_neT0, v_ltI, v_leI, v_gtI, v_geI, v_is, v_isNot, v_nn, v_ns, v_ni, v_nl, v_nt, v_tb, v_tl, v_tt, v_tn, v_ti, v_asB, v_asI, v_asL, v_asT, v_asS, v_lenL, v_lenT, v_tupL, v_tupT, v_listL, v_listT, v_intB, v_tup0, v_tup1, v_tup2, v_tup3, v_tup4, v_tup5, v_lst0, v_lst1, v_lst2, v_lst3, v_lst4, v_lst5, v_ok0, v_ok1, v_ok2, v_ix0L, v_ix0, v_ix1, v_ix2, v_ix3, v_fs, v_fi, v_fb, v_fn, v_ft, v_f0, v_fc, startR, List.map_cons, List.map_nil, List.length_cons, List.length_nil, List.replicate, List.cons_append, List.nil_append, List.set_cons_zero, List.set_cons_succ, Option.some.injEq, exists_eq_left', Nat.reduceAdd, Nat.reduceSub, Nat.sub_zero, Nat.sub_self, Nat.zero_add, Nat.reduceEqDiff, Bool.not_true, Bool.not_false, if_true, if_false, Bool.and_self, Bool.true_and, Bool.and_true, Bool.false_eq_true, ↓reduceIte, true_and, and_true, decide_true, decide_false, wipeR]
      have e := sum_eq (s := s2) (ts := []) (by decide)
      have e0 : totD (sumOf []) = .tuple [.tuple [], .int 0] := by
        have : sortS (gath []) = [] := by
          have := (sortS_perm (gath [])).length_eq
          exact List.length_eq_zero_iff.mp this
        unfold sumOf sumT
        show PyData.tuple [.tuple (((sortS (gath [])).map _).map ptD), .int 0] = _
        rw [this]
        rfl
      rw [e0] at e
      refine ⟨_, _, e, _, v_eqD (ds := [.tuple [], .int 0]) (es := [.tuple [], .int 0]) (by decide +kernel) (by decide +kernel), ?_⟩
      have e3 : PyData.eqv (.tuple [.tuple [], .int 0]) (.tuple [.tuple [], .int 0]) = true := by decide +kernel
      rw [e3]
end K41
set_option Elab.async false
set_option linter.all false
set_option maxRecDepth 100000
set_option maxHeartbeats 4000000
namespace K41
open PySem PySem.Spec PyProof.Rows L2 Dl Lw41
section
variable {P : Program} {w : World} {K : PySem.W.Frag} {mg : Str → Option Value} {base : Heap} {f : Addr} {fd : FuncData}
theorem ok_law {Ts : List Addr} (U : Fun K "law" "law" s_law f fd) (C_deck : Lc.Dn P w K mg base "_law_deck" ["_law_script"] 1 (spDeck K))
    (hrest : ∀ d (cdv : Value) (A : Around) (outer : List Env) (s : Shared) (H : Hp) (E : XK), Room 4 (A.deeper (envOfC "law" (defScope s_law) s.heap.objs.size f cdv)) → PSs (cxOf CX0 P w K mg base N_law "law" (defScope s_law) f cdv A outer s H E).nox ((defBody s_law).drop 1) (tSt ⟨K, hdD d⟩ (Zt8 d Ts) [] (B_law (K_w_kinds (K_w_word Fdraw8) Fdraw8) Fdraw8 (K_w_sum Fdraw8 (K_w_times Fdraw8)) K_sum_of (K_w_right (K_w_is_sum K_w_whole) K_w_of)))) :
    FnOk P w K mg base CX0 5 f fd ["_law_script"] (spLawT K Ts) := by
  refine U.ok sc_law (fun vs H Q E h => ?_) (fun cdv A outer s H vs Q E hr h => ?_)
  · obtain ⟨a, ns, rfl, _⟩ := h
    rfl
  · obtain ⟨a, ns, rfl, hS, hT, q⟩ := h
    refine ⟨_, pss_cons (ps_set (i := 1) sc_law.nd rfl (.inr rfl) (Lc.pe_dn C_deck (hr.mono (by decide)) (by rfl) (pa_cons (pv 0) pa_nil))) (pss_rest8 fun d => hrest d cdv A outer s H E hr), ?_⟩
    refine ⟨.ref a, rfl, a, ns, rfl, hS, fun d H' s0 sm dk _ => ?_⟩
    exact rest_at8 dk (fun T hm => by obtain ⟨ps, e, t⟩ := hT T hm; exact ⟨ps, sm _ _ e, t⟩) (by decide) (law_true (s := s0)) q
end
theorem all_mk {l : PySem.W.OpenLaw} {w : World} {K : PySem.W.Frag} {h : Heap} {mg mb : Str → Option Value} {fa : Addr} {q : Program} {loose : List Str} {mean : ExcName → Option Value} (Tp : Top q (PySem.W.looseW q loose) mean mg mb h) (X : K.In h) (hfa : mg "law" = some (.ref fa))
    {f0 : Addr} {od0 an0 : Option Addr} {sl0 : Array (Option Value)} {oc0 kV0 dc0 pm0 cd0 ct0 : Value}
    {f1 : Addr} {od1 an1 : Option Addr} {sl1 : Array (Option Value)} {oc1 kV1 dc1 pm1 cd1 ct1 : Value}
    {f2 : Addr} {od2 an2 : Option Addr} {sl2 : Array (Option Value)} {oc2 kV2 dc2 pm2 cd2 ct2 : Value}
    {f3 : Addr} {od3 an3 : Option Addr} {sl3 : Array (Option Value)} {oc3 kV3 dc3 pm3 cd3 ct3 : Value}
    {f4 : Addr} {od4 an4 : Option Addr} {sl4 : Array (Option Value)} {oc4 kV4 dc4 pm4 cd4 ct4 : Value}
    {f5 : Addr} {od5 an5 : Option Addr} {sl5 : Array (Option Value)} {oc5 kV5 dc5 pm5 cd5 ct5 : Value}
    {f6 : Addr} {od6 an6 : Option Addr} {sl6 : Array (Option Value)} {oc6 kV6 dc6 pm6 cd6 ct6 : Value}
    {f7 : Addr} {od7 an7 : Option Addr} {sl7 : Array (Option Value)} {oc7 kV7 dc7 pm7 cd7 ct7 : Value}
    {f8 : Addr} {od8 an8 : Option Addr} {sl8 : Array (Option Value)} {oc8 kV8 dc8 pm8 cd8 ct8 : Value}
    {f9 : Addr} {od9 an9 : Option Addr} {sl9 : Array (Option Value)} {oc9 kV9 dc9 pm9 cd9 ct9 : Value}
    {f10 : Addr} {od10 an10 : Option Addr} {sl10 : Array (Option Value)} {oc10 kV10 dc10 pm10 cd10 ct10 : Value}
    {f11 : Addr} {od11 an11 : Option Addr} {sl11 : Array (Option Value)} {oc11 kV11 dc11 pm11 cd11 ct11 : Value}
    {f12 : Addr} {od12 an12 : Option Addr} {sl12 : Array (Option Value)} {oc12 kV12 dc12 pm12 cd12 ct12 : Value}
    (a0 : PySem.W.nsIn K mainGlobals "sum_of" = some (some (.ref f0))) (l0 : K.lookup f0 = some ⟨oc0, od0, .func (PySem.W.fnOf "sum_of" "sum_of" (defArgs s_sum_of) (defBody s_sum_of) (defScope s_sum_of) .none kV0 dc0 pm0 an0 cd0 ct0), sl0⟩) (c0 : PySem.W.codeIn K cd0 "sum_of" = true) (k0 : PySem.W.keepIn K (.ref f0) = true)
    (a1 : PySem.W.nsIn K mainGlobals "_law_mixed" = some (some (.ref f1))) (l1 : K.lookup f1 = some ⟨oc1, od1, .func (PySem.W.fnOf "_law_mixed" "_law_mixed" (defArgs s_w_mixed) (defBody s_w_mixed) (defScope s_w_mixed) .none kV1 dc1 pm1 an1 cd1 ct1), sl1⟩) (c1 : PySem.W.codeIn K cd1 "_law_mixed" = true) (k1 : PySem.W.keepIn K (.ref f1) = true)
    (a2 : PySem.W.nsIn K mainGlobals "_law_deck" = some (some (.ref f2))) (l2 : K.lookup f2 = some ⟨oc2, od2, .func (PySem.W.fnOf "_law_deck" "_law_deck" (defArgs s_w_deck) (defBody s_w_deck) (defScope s_w_deck) .none kV2 dc2 pm2 an2 cd2 ct2), sl2⟩) (c2 : PySem.W.codeIn K cd2 "_law_deck" = true) (k2 : PySem.W.keepIn K (.ref f2) = true)
    (a3 : PySem.W.nsIn K mainGlobals "_law_draw" = some (some (.ref f3))) (l3 : K.lookup f3 = some ⟨oc3, od3, .func (PySem.W.fnOf "_law_draw" "_law_draw" (defArgs s_w_draw) (defBody s_w_draw) (defScope s_w_draw) .none kV3 dc3 pm3 an3 cd3 ct3), sl3⟩) (c3 : PySem.W.codeIn K cd3 "_law_draw" = true) (k3 : PySem.W.keepIn K (.ref f3) = true)
    (a4 : PySem.W.nsIn K mainGlobals "_law_word" = some (some (.ref f4))) (l4 : K.lookup f4 = some ⟨oc4, od4, .func (PySem.W.fnOf "_law_word" "_law_word" (defArgs s_w_word) (defBody s_w_word) (defScope s_w_word) .none kV4 dc4 pm4 an4 cd4 ct4), sl4⟩) (c4 : PySem.W.codeIn K cd4 "_law_word" = true) (k4 : PySem.W.keepIn K (.ref f4) = true)
    (a5 : PySem.W.nsIn K mainGlobals "_law_kinds" = some (some (.ref f5))) (l5 : K.lookup f5 = some ⟨oc5, od5, .func (PySem.W.fnOf "_law_kinds" "_law_kinds" (defArgs s_w_kinds) (defBody s_w_kinds) (defScope s_w_kinds) .none kV5 dc5 pm5 an5 cd5 ct5), sl5⟩) (c5 : PySem.W.codeIn K cd5 "_law_kinds" = true) (k5 : PySem.W.keepIn K (.ref f5) = true)
    (a6 : PySem.W.nsIn K mainGlobals "_law_times" = some (some (.ref f6))) (l6 : K.lookup f6 = some ⟨oc6, od6, .func (PySem.W.fnOf "_law_times" "_law_times" (defArgs s_w_times) (defBody s_w_times) (defScope s_w_times) .none kV6 dc6 pm6 an6 cd6 ct6), sl6⟩) (c6 : PySem.W.codeIn K cd6 "_law_times" = true) (k6 : PySem.W.keepIn K (.ref f6) = true)
    (a7 : PySem.W.nsIn K mainGlobals "_law_sum" = some (some (.ref f7))) (l7 : K.lookup f7 = some ⟨oc7, od7, .func (PySem.W.fnOf "_law_sum" "_law_sum" (defArgs s_w_sum) (defBody s_w_sum) (defScope s_w_sum) .none kV7 dc7 pm7 an7 cd7 ct7), sl7⟩) (c7 : PySem.W.codeIn K cd7 "_law_sum" = true) (k7 : PySem.W.keepIn K (.ref f7) = true)
    (a8 : PySem.W.nsIn K mainGlobals "_law_whole" = some (some (.ref f8))) (l8 : K.lookup f8 = some ⟨oc8, od8, .func (PySem.W.fnOf "_law_whole" "_law_whole" (defArgs s_w_whole) (defBody s_w_whole) (defScope s_w_whole) .none kV8 dc8 pm8 an8 cd8 ct8), sl8⟩) (c8 : PySem.W.codeIn K cd8 "_law_whole" = true) (k8 : PySem.W.keepIn K (.ref f8) = true)
    (a9 : PySem.W.nsIn K mainGlobals "_law_is_sum" = some (some (.ref f9))) (l9 : K.lookup f9 = some ⟨oc9, od9, .func (PySem.W.fnOf "_law_is_sum" "_law_is_sum" (defArgs s_w_is_sum) (defBody s_w_is_sum) (defScope s_w_is_sum) .none kV9 dc9 pm9 an9 cd9 ct9), sl9⟩) (c9 : PySem.W.codeIn K cd9 "_law_is_sum" = true) (k9 : PySem.W.keepIn K (.ref f9) = true)
    (a10 : PySem.W.nsIn K mainGlobals "_law_of" = some (some (.ref f10))) (l10 : K.lookup f10 = some ⟨oc10, od10, .func (PySem.W.fnOf "_law_of" "_law_of" (defArgs s_w_of) (defBody s_w_of) (defScope s_w_of) .none kV10 dc10 pm10 an10 cd10 ct10), sl10⟩) (c10 : PySem.W.codeIn K cd10 "_law_of" = true) (k10 : PySem.W.keepIn K (.ref f10) = true)
    (a11 : PySem.W.nsIn K mainGlobals "_law_right" = some (some (.ref f11))) (l11 : K.lookup f11 = some ⟨oc11, od11, .func (PySem.W.fnOf "_law_right" "_law_right" (defArgs s_w_right) (defBody s_w_right) (defScope s_w_right) .none kV11 dc11 pm11 an11 cd11 ct11), sl11⟩) (c11 : PySem.W.codeIn K cd11 "_law_right" = true) (k11 : PySem.W.keepIn K (.ref f11) = true)
    (a12 : PySem.W.nsIn K mainGlobals "law" = some (some (.ref f12))) (l12 : K.lookup f12 = some ⟨oc12, od12, .func (PySem.W.fnOf "law" "law" (defArgs s_law) (defBody s_law) (defScope s_law) .none kV12 dc12 pm12 an12 cd12 ct12), sl12⟩) (c12 : PySem.W.codeIn K cd12 "law" = true) (k12 : PySem.W.keepIn K (.ref f12) = true)
    (z_bool : PySem.W.nsIn K mainGlobals "bool" = some none)
    (z_int : PySem.W.nsIn K mainGlobals "int" = some none)
    (z_isinstance : PySem.W.nsIn K mainGlobals "isinstance" = some none)
    (z_len : PySem.W.nsIn K mainGlobals "len" = some none)
    (z_list : PySem.W.nsIn K mainGlobals "list" = some none)
    (z_range : PySem.W.nsIn K mainGlobals "range" = some none)
    (z_set : PySem.W.nsIn K mainGlobals "set" = some none)
    (z_sorted : PySem.W.nsIn K mainGlobals "sorted" = some none)
    (z_str : PySem.W.nsIn K mainGlobals "str" = some none)
    (z_sum : PySem.W.nsIn K mainGlobals "sum" = some none)
    (z_tuple : PySem.W.nsIn K mainGlobals "tuple" = some none)
    (hno : PySem.W.noTabs K = true) :
    LamX.LawAtS l w K CX0 5 63 "_law_script" mg fa h := by
  have G := Tp.g
  have e := hfa.symm.trans (PySem.W.mg_of X G a12)
  cases e
  have F_sum_of := fun_mk (st := s_sum_of) l0 c0 k0
  have b_sum_of := F_sum_of.binds (ps := ["totals"]) fun _ _ _ _ _ _ us hl => match us, hl with | [_], _ => rfl
  have F_w_mixed := fun_mk (st := s_w_mixed) l1 c1 k1
  have b_w_mixed := F_w_mixed.binds (ps := ["_law_cell", "_law_k"]) fun _ _ _ _ _ _ us hl => match us, hl with | [_, _], _ => rfl
  have F_w_deck := fun_mk (st := s_w_deck) l2 c2 k2
  have b_w_deck := F_w_deck.binds (ps := ["_law_script"]) fun _ _ _ _ _ _ us hl => match us, hl with | [_], _ => rfl
  have F_w_draw := fun_mk (st := s_w_draw) l3 c3 k3
  have b_w_draw := F_w_draw.binds (ps := ["_law_deck_here", "_law_most"]) fun _ _ _ _ _ _ us hl => match us, hl with | [_, _], _ => rfl
  have F_w_word := fun_mk (st := s_w_word) l4 c4 k4
  have b_w_word := F_w_word.binds (ps := ["_law_deck_here", "_law_least", "_law_most"]) fun _ _ _ _ _ _ us hl => match us, hl with | [_, _, _], _ => rfl
  have F_w_kinds := fun_mk (st := s_w_kinds) l5 c5 k5
  have b_w_kinds := F_w_kinds.binds (ps := ["_law_deck_here", "_law_many"]) fun _ _ _ _ _ _ us hl => match us, hl with | [_, _], _ => rfl
  have F_w_times := fun_mk (st := s_w_times) l6 c6 k6
  have b_w_times := F_w_times.binds (ps := ["_law_deck_here"]) fun _ _ _ _ _ _ us hl => match us, hl with | [_], _ => rfl
  have F_w_sum := fun_mk (st := s_w_sum) l7 c7 k7
  have b_w_sum := F_w_sum.binds (ps := ["_law_deck_here", "_law_kinds_here"]) fun _ _ _ _ _ _ us hl => match us, hl with | [_, _], _ => rfl
  have F_w_whole := fun_mk (st := s_w_whole) l8 c8 k8
  have b_w_whole := F_w_whole.binds (ps := ["_law_found"]) fun _ _ _ _ _ _ us hl => match us, hl with | [_], _ => rfl
  have F_w_is_sum := fun_mk (st := s_w_is_sum) l9 c9 k9
  have b_w_is_sum := F_w_is_sum.binds (ps := ["_law_found"]) fun _ _ _ _ _ _ us hl => match us, hl with | [_], _ => rfl
  have F_w_of := fun_mk (st := s_w_of) l10 c10 k10
  have b_w_of := F_w_of.binds (ps := ["_law_total", "_law_kind"]) fun _ _ _ _ _ _ us hl => match us, hl with | [_, _], _ => rfl
  have F_w_right := fun_mk (st := s_w_right) l11 c11 k11
  have b_w_right := F_w_right.binds (ps := ["_law_found", "_law_totals", "_law_kinds_here"]) fun _ _ _ _ _ _ us hl => match us, hl with | [_, _, _], _ => rfl
  have F_law := fun_mk (st := s_law) l12 c12 k12
  have m_bool := PySem.W.mg_none_of X G z_bool
  have m_int := PySem.W.mg_none_of X G z_int
  have m_isinstance := PySem.W.mg_none_of X G z_isinstance
  have m_len := PySem.W.mg_none_of X G z_len
  have m_list := PySem.W.mg_none_of X G z_list
  have m_range := PySem.W.mg_none_of X G z_range
  have m_set := PySem.W.mg_none_of X G z_set
  have m_sorted := PySem.W.mg_none_of X G z_sorted
  have m_str := PySem.W.mg_none_of X G z_str
  have m_sum := PySem.W.mg_none_of X G z_sum
  have m_tuple := PySem.W.mg_none_of X G z_tuple
  refine law_many [] Tp X (fun p hp => ?_) hno (fd := PySem.W.fnOf "law" "law" (defArgs s_law) (defBody s_law) (defScope s_law) .none kV12 dc12 pm12 an12 cd12 ct12) (sp := spLawT K []) (fun s v => .of_eq rfl) (fun H a ns t hS => ⟨a, ns, rfl, hS, fun T hT => ?_, fun _ => rfl⟩) (fun base hb hg hTB => ?_)
  · cases hp
  · cases hT
  have C_sum_of : ∀ d, Lc.Dn l.prog w K mg base "sum_of" ["totals"] 1 (spD ⟨K, hdD d⟩ (Zt8 d []) 1 K_sum_of) := fun d => ⟨f0, _, F_sum_of.kp, PySem.W.mg_of X G a0, b_sum_of, P_sum_of (k := 0) F_sum_of m_tuple m_sorted⟩
  have C_w_mixed : Lc.Dn l.prog w K mg base "_law_mixed" ["_law_cell", "_law_k"] 1 spMixed := ⟨f1, _, F_w_mixed.kp, PySem.W.mg_of X G a1, b_w_mixed, ok_w_mixed F_w_mixed⟩
  have C_deck : Lc.Dn l.prog w K mg base "_law_deck" ["_law_script"] 1 (spDeck K) := ⟨f2, _, F_w_deck.kp, PySem.W.mg_of X G a2, b_w_deck, ok_w_deck F_w_deck m_list m_sum⟩
  have C_w_draw : ∀ d, Lc.Dn l.prog w K mg base "_law_draw" ["_law_deck_here", "_law_most"] 2 (spD ⟨K, hdD d⟩ (Zt8 d []) 2 Fdraw8) := fun d => ⟨f3, _, F_w_draw.kp, PySem.W.mg_of X G a3, b_w_draw, fn_zt8 (D_draw F_w_draw m_len C_w_mixed)⟩
  have C_w_word : ∀ d, Lc.Dn l.prog w K mg base "_law_word" ["_law_deck_here", "_law_least", "_law_most"] 3 (spD ⟨K, hdD d⟩ (Zt8 d []) 3 (K_w_word Fdraw8)) := fun d => ⟨f4, _, F_w_word.kp, PySem.W.mg_of X G a4, b_w_word, P_w_word (k := 2) F_w_word (C_w_draw d) (by decide) m_range⟩
  have C_w_kinds : ∀ d, Lc.Dn l.prog w K mg base "_law_kinds" ["_law_deck_here", "_law_many"] 4 (spD ⟨K, hdD d⟩ (Zt8 d []) 2 (K_w_kinds (K_w_word Fdraw8) Fdraw8)) := fun d => ⟨f5, _, F_w_kinds.kp, PySem.W.mg_of X G a5, b_w_kinds, P_w_kinds (k := 3) F_w_kinds (C_w_word d) (by decide) (C_w_draw d) (by decide) m_range m_len⟩
  have C_w_times : ∀ d, Lc.Dn l.prog w K mg base "_law_times" ["_law_deck_here"] 3 (spD ⟨K, hdD d⟩ (Zt8 d []) 1 (K_w_times Fdraw8)) := fun d => ⟨f6, _, F_w_times.kp, PySem.W.mg_of X G a6, b_w_times, P_w_times (k := 2) F_w_times (C_w_draw d) (by decide)⟩
  have C_w_sum : ∀ d, Lc.Dn l.prog w K mg base "_law_sum" ["_law_deck_here", "_law_kinds_here"] 4 (spD ⟨K, hdD d⟩ (Zt8 d []) 2 (K_w_sum Fdraw8 (K_w_times Fdraw8))) := fun d => ⟨f7, _, F_w_sum.kp, PySem.W.mg_of X G a7, b_w_sum, P_w_sum (k := 3) F_w_sum (C_w_draw d) (by decide) (C_w_times d) (by decide) m_sorted m_tuple⟩
  have C_w_whole : ∀ d, Lc.Dn l.prog w K mg base "_law_whole" ["_law_found"] 1 (spD ⟨K, hdD d⟩ (Zt8 d []) 1 K_w_whole) := fun d => ⟨f8, _, F_w_whole.kp, PySem.W.mg_of X G a8, b_w_whole, P_w_whole (k := 0) F_w_whole m_isinstance m_bool m_int⟩
  have C_w_is_sum : ∀ d, Lc.Dn l.prog w K mg base "_law_is_sum" ["_law_found"] 2 (spD ⟨K, hdD d⟩ (Zt8 d []) 1 (K_w_is_sum K_w_whole)) := fun d => ⟨f9, _, F_w_is_sum.kp, PySem.W.mg_of X G a9, b_w_is_sum, P_w_is_sum (k := 1) F_w_is_sum (C_w_whole d) (by decide) m_isinstance m_tuple m_len m_str m_sorted m_set⟩
  have C_w_of : ∀ d, Lc.Dn l.prog w K mg base "_law_of" ["_law_total", "_law_kind"] 1 (spD ⟨K, hdD d⟩ (Zt8 d []) 2 K_w_of) := fun d => ⟨f10, _, F_w_of.kp, PySem.W.mg_of X G a10, b_w_of, P_w_of (k := 0) F_w_of m_sum⟩
  have C_w_right : ∀ d, Lc.Dn l.prog w K mg base "_law_right" ["_law_found", "_law_totals", "_law_kinds_here"] 3 (spD ⟨K, hdD d⟩ (Zt8 d []) 3 (K_w_right (K_w_is_sum K_w_whole) K_w_of)) := fun d => ⟨f11, _, F_w_right.kp, PySem.W.mg_of X G a11, b_w_right, P_w_right (k := 2) F_w_right (C_w_is_sum d) (by decide) (C_w_of d) (by decide) m_sum⟩
  exact ok_law F_law C_deck fun d cdv A outer s H E hr => P_law (C_w_kinds d) (by decide) (C_w_draw d) (by decide) (C_w_sum d) (by decide) (C_sum_of d) (by decide) (C_w_right d) (by decide) m_range m_tuple m_len hr
end K41
open PySem PySem.W PyProof.Rows
set_option maxHeartbeats 0 in
theorem PySem.Challenge.cw_linecourt_k41_sums_together_holds : PySem.Challenge.rw_linecourt_k41_sums_together.Holds := by
  w_on; o_law; k_head; (case hw => w_witness2)
  k_fill
  refine Lc.walk_tab (l := PySem.Challenge.rw_linecourt_k41_sums_together) (n := 63) (k := 5) (x := "_law_script") (CX := fun _ => L2.CX0) rfl (by decide) rfl ⟨rfl, by decide, by decide⟩ (fun w h Y => PySem.W.kIn_of Y) ?F (fun _ _ _ _ _ h => h)
  case F =>
    intro w mean mg mb fa h Tp KX hmg
    refine' K41.all_mk Tp KX hmg ?a0 ?l0 ?c0 ?k0 ?a1 ?l1 ?c1 ?k1 ?a2 ?l2 ?c2 ?k2 ?a3 ?l3 ?c3 ?k3 ?a4 ?l4 ?c4 ?k4 ?a5 ?l5 ?c5 ?k5 ?a6 ?l6 ?c6 ?k6 ?a7 ?l7 ?c7 ?k7 ?a8 ?l8 ?c8 ?k8 ?a9 ?l9 ?c9 ?k9 ?a10 ?l10 ?c10 ?k10 ?a11 ?l11 ?c11 ?k11 ?a12 ?l12 ?c12 ?k12 ?z_bool ?z_int ?z_isinstance ?z_len ?z_list ?z_range ?z_set ?z_sorted ?z_str ?z_sum ?z_tuple ?hno
    (case a0 => k_is); (case l0 => k_is); (case c0 => k_is); (case k0 => k_is); (case a1 => k_is); (case l1 => k_is); (case c1 => k_is); (case k1 => k_is); (case a2 => k_is); (case l2 => k_is); (case c2 => k_is); (case k2 => k_is); (case a3 => k_is); (case l3 => k_is); (case c3 => k_is); (case k3 => k_is); (case a4 => k_is); (case l4 => k_is); (case c4 => k_is); (case k4 => k_is); (case a5 => k_is); (case l5 => k_is); (case c5 => k_is); (case k5 => k_is); (case a6 => k_is); (case l6 => k_is); (case c6 => k_is); (case k6 => k_is); (case a7 => k_is); (case l7 => k_is); (case c7 => k_is); (case k7 => k_is); (case a8 => k_is); (case l8 => k_is); (case c8 => k_is); (case k8 => k_is); (case a9 => k_is); (case l9 => k_is); (case c9 => k_is); (case k9 => k_is); (case a10 => k_is); (case l10 => k_is); (case c10 => k_is); (case k10 => k_is); (case a11 => k_is); (case l11 => k_is); (case c11 => k_is); (case k11 => k_is); (case a12 => k_is); (case l12 => k_is); (case c12 => k_is); (case k12 => k_is); (case z_bool => k_is); (case z_int => k_is); (case z_isinstance => k_is); (case z_len => k_is); (case z_list => k_is); (case z_range => k_is); (case z_set => k_is); (case z_sorted => k_is); (case z_str => k_is); (case z_sum => k_is); (case z_tuple => k_is)
    (case hno => (first | rfl | decide +kernel | k_is))
