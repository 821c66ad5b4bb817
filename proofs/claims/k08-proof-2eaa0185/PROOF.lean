import PyProof.Rows.All
import Wide.All
import OpenK.AllK
import Wide.FinOn
import HandS.ForMost
import HandS.Set
import HandS.Strs
import HandS.Exc
import KE.KOpsOwn
import HandS.ForExc
import HandS.ExcField
import HandS.ExcIs
import HandS.ExcInit
import KE.KExcIs
import HandS.Wide
import HandS.Walk
import HandS.Evl
import HandS.IsInst
import HandS.RaiseMore
import HandS.Conv
import PySem.Challenge.RW_wishshelves_k08_searches_too_long
set_option Elab.async false
set_option linter.all false
set_option maxRecDepth 100000
set_option maxHeartbeats 4000000
/-! WkSet: sets of texts: set(list of texts), sorted of such a set. -/
namespace WK
open PySem PySem.Spec PyProof.Rows L2

/-! ## what a set of texts is: each entry a text beside its hash -/
def tOf (e : Int × Value) : Str := strOf e.2
def TEnt (w : World) (e : Int × Value) : Prop := ∃ x tk, e.2 = Value.str x tk ∧ e.1 = hashStr w x
/-- the texts of L, each once, stand in the set at a -/
def TSet (w : World) (h : Heap) (a : Addr) (L : List Str) : Prop :=
  ∃ o es ep t, h.get? a = some o ∧ o.ExactSet ∧ o.data = .set es ep t ∧ (∀ e ∈ es.toList, TEnt w e) ∧ (es.toList.map tOf).Nodup ∧ (∀ x, x ∈ L ↔ x ∈ es.toList.map tOf) ∧
    es.size ≤ L.length ∧ t.fits es.size = true ∧ Ris t.place.toList ∧ (w.params.followText "set-order" = true ∨ t.led = true)
section
variable {P : Program} {w : World} {A : Around} {E : Value → Shared → Prop} {a : Addr} {L : List Str} {s : Shared}
theorem TSet.moved {h h' : Heap} (R : TSet w h a L) (k : ∀ o, h.get? a = some o → h'.get? a = some o) : TSet w h' a L := by
  obtain ⟨o, es, ep, t, ho, rest⟩ := R
  exact ⟨o, es, ep, t, k o ho, rest⟩
theorem tent_is {e : Int × Value} (g : TEnt w e) (x : Str) : (PySem.strKind P w).is x e.2 = true ↔ tOf e = x := by
  obtain ⟨y, tk, h1, _⟩ := g
  unfold tOf
  rw [h1]
  show (Value.isStrOf x (Value.str y tk) = true) ↔ y = x
  refine ⟨fun z => ?_, fun z => ?_⟩
  · obtain ⟨u, e⟩ := Value.isStrOf_shape z
    injection e
  · rw [z]; exact strKind_is P w x tk
theorem tent_elems {l : List (Int × Value)} (g : ∀ e ∈ l, TEnt w e) : ElemsOf (PySem.strKind P w) l := fun e he => by
  obtain ⟨x, tk, h1, h2⟩ := g e he
  refine ⟨⟨x, ?_, h2⟩, ?_⟩
  · rw [h1]; exact strKind_is P w x tk
  · rw [h1]; rfl
theorem tent_mem {l : List (Int × Value)} (g : ∀ e ∈ l, TEnt w e) (x : Str) : x ∈ l.map tOf ↔ ∃ e ∈ l, (PySem.strKind P w).is x e.2 = true :=
  ⟨fun z => by
    obtain ⟨e, he, q⟩ := List.mem_map.mp z
    exact ⟨e, he, (tent_is (g e he) x).2 q⟩, fun ⟨e, he, q⟩ => List.mem_map.mpr ⟨e, he, (tent_is (g e he) x).1 q⟩⟩

/-- the end of an adding: the rows are stored, the table perhaps laid anew -/
theorem tset_stored {gv : Bool → Sem Unit} (hgv : ∀ (b : Bool) (s1 : Shared) (Q1 : Unit → Shared → Prop), Q1 () s1 → wpAny (model P w) A (gv b) Q1 E s1)
    {o : Obj} {es : Array (Int × Value)} {ep : Nat} {t : SetTable} (ho : s.heap.get? a = some o) (hx : o.ExactSet) (hd : o.data = .set es ep t)
    {ys : Array (Int × Value)} {u : SetTable} (g : ∀ e ∈ ys.toList, TEnt w e) (nd : (ys.toList.map tOf).Nodup) (mm : ∀ x, x ∈ L ↔ x ∈ ys.toList.map tOf)
    (hz : ys.size ≤ L.length) (hL : L.length < scanBound) (hf : u.fits ys.size = true) (hr : Ris u.place.toList) (hl : w.params.followText "set-order" = true ∨ u.led = true) {dm : Bool} {R : Option Bool → Shared → Prop}
    (hR : ∀ h', Heap.SameBut a s.heap h' → TSet w h' a L → R (some true) { s with heap := h' }) :
    wpAny (model P w) A (do
        storeSet a ys u
        if (!dm && u.tooFull) = true then do
            gv (relayAll u ys (SetTable.grown ys.size)).2.2
            storeSet a (relayAll u ys (SetTable.grown ys.size)).1 (relayAll u ys (SetTable.grown ys.size)).2.1
            pure (some true)
          else pure (some true)) R E s := by
  have hzb : ys.size < scanBound := Nat.lt_of_le_of_lt hz hL
  refine wpAny_bind (wpAny_storeSet_of ho hd ?_ (fits_of_scanBound hzb))
  have ho1 := store_at (es' := ys) (t' := u) ho hd
  have sb := Heap.SameBut.update s.heap a (Obj.putSet ys u)
  split
  · have pm := relayAll_perm u ys (SetTable.grown ys.size)
    have f3 := relayAll_fits u ys (SetTable.grown ys.size)
    have r3 := relayAll_ris u ys (SetTable.grown ys.size)
    have l3 := relayAll_led u ys (SetTable.grown ys.size)
    generalize relayAll u ys (SetTable.grown ys.size) = Z at pm f3 r3 l3 ⊢
    obtain ⟨zs, v, gave⟩ := Z
    dsimp only at pm f3 r3 l3 ⊢
    have ez : zs.size = ys.size := by rw [← Array.length_toList, pm.length_eq, Array.length_toList]
    refine wpAny_bind (hgv _ _ _ ?_)
    refine wpAny_bind (wpAny_storeSet_of ho1 rfl ?_ (fits_of_scanBound (by rw [ez]; exact hzb)))
    refine wpAny_pure (hR _ (sb.trans (Heap.SameBut.update _ a _)) ?_)
    exact ⟨_, zs, _, v, store_at (es' := zs) (t' := v) ho1 rfl, hx, rfl, fun e he => g e (pm.mem_iff.mp he), (pm.map tOf).nodup_iff.mpr nd, fun x => (mm x).trans (pm.map tOf).mem_iff.symm,
      by rw [ez]; exact hz, f3, r3, hl.imp id fun z => by rw [l3]; exact z⟩
  · exact wpAny_pure (hR _ sb ⟨_, ys, _, u, ho1, hx, rfl, g, nd, mm, hz, hf, hr, hl⟩)

/-- a text is added -/
theorem tset_add {x : Str} {tk : Tok} {Q : Bool → Shared → Prop} (R : TSet w s.heap a L) (room : L.length + 1 < scanBound)
    (hQ : ∀ b h', Heap.SameBut a s.heap h' → TSet w h' a (x :: L) → Q b { s with heap := h' }) :
    wpAny (model P w) A (setAddHashed a (.str x tk) ((PySem.strKind P w).hash x)) Q E s := by
  obtain ⟨o, es, ep, t, ho, hx, hd, g, nd, mm, hz, hf, hr, hl⟩ := R
  have hkey : (PySem.strKind P w).is x (.str x tk) = true := strKind_is P w x tk
  have hsc : (Value.str x tk).scannable = true := rfl
  have hel : ElemsOf (PySem.strKind P w) es.toList := tent_elems g
  have hb : es.size < scanBound := by omega
  unfold setAddHashed setAddHashedIn
  refine wpAny_holding (wpAny_bind (wpAny_setState_of ho hd hf ?_))
  dsimp only
  rw [byScan_of hsc hb hel]
  simp only [↓reduceIte]
  unfold setAddByScan
  refine wpAny_bind ?_
  refine wpAny_bind (wpAny_rule ?_)
  refine wpAny_bind (wpAny_setScan_of hkey ho hd hf hel ?_)
  cases hfi : List.findIdx? (fun e => (PySem.strKind P w).is x e.2) es.toList with
  | some j =>
    dsimp only
    obtain ⟨hj, pj, _⟩ := List.findIdx?_eq_some_iff_getElem.mp hfi
    have hin : x ∈ es.toList.map tOf := (tent_mem (P := P) g x).2 ⟨es.toList[j], List.getElem_mem hj, pj⟩
    refine wpAny_pure (wpAny_pure ?_)
    exact hQ _ s.heap (Heap.SameBut.refl a s.heap) ⟨o, es, ep, t, ho, hx, hd, g, nd, fun y => by
      rw [List.mem_cons, mm y]
      exact ⟨fun z => z.elim (fun e => e ▸ hin) id, .inr⟩, by rw [List.length_cons]; omega, hf, hr, hl⟩
  | none =>
    dsimp only
    have hout : x ∉ es.toList.map tOf := fun z => by
      obtain ⟨e, he, q⟩ := (tent_mem (P := P) g x).1 z
      have c := List.findIdx?_eq_none_iff.mp hfi e he
      rw [q] at c
      cases c
    have hgv : ∀ (b : Bool) (s1 : Shared) (Q1 : Unit → Shared → Prop), Q1 () s1 → wpAny (model P w) A (match b with | true => rule "set.scan.the-table-gave-way" | false => pure ()) Q1 E s1 :=
      fun b s1 Q1 q => by cases b <;> first | exact wpAny_pure q | exact wpAny_rule q
    have pm := layNew_perm t es ((PySem.strKind P w).hash x) (.str x tk)
    have f1 := layNew_fits t es ((PySem.strKind P w).hash x) (.str x tk)
    have r1 := layNew_ris t es ((PySem.strKind P w).hash x) (.str x tk) hr
    have l1 := layNew_led t es ((PySem.strKind P w).hash x) (.str x tk)
    generalize layNew t es ((PySem.strKind P w).hash x) (.str x tk) = Z at pm f1 r1 l1 ⊢
    obtain ⟨ys, u, dm, gave⟩ := Z
    dsimp only at pm f1 r1 l1 ⊢
    rw [Array.toList_push] at pm
    have pc : ys.toList.Perm (((PySem.strKind P w).hash x, Value.str x tk) :: es.toList) := pm.trans (List.perm_append_singleton _ _)
    have pk : (ys.toList.map tOf).Perm (x :: es.toList.map tOf) := pc.map tOf
    have g1 : ∀ e ∈ ys.toList, TEnt w e := fun e he => by
      rcases List.mem_cons.mp (pc.mem_iff.mp he) with z | z
      · rw [z]; exact ⟨x, tk, rfl, rfl⟩
      · exact g e z
    have nd1 : (ys.toList.map tOf).Nodup := pk.nodup_iff.mpr (List.nodup_cons.mpr ⟨hout, nd⟩)
    have m1 : ∀ y, y ∈ x :: L ↔ y ∈ ys.toList.map tOf := fun y => by rw [pk.mem_iff, List.mem_cons, List.mem_cons, mm y]
    have z1 : ys.size ≤ (x :: L).length := by
      have q := pc.length_eq
      rw [Array.length_toList, List.length_cons, Array.length_toList] at q
      rw [List.length_cons]; omega
    have hL1 : (x :: L).length < scanBound := by rw [List.length_cons]; exact room
    have hled : w.params.followText "set-order" = true ∨ u.led = true := hl.imp id fun z => by rw [l1]; exact z
    refine wpAny_bind (hgv _ _ _ ?_)
    split
    · refine wpAny_bind ?_
      rw [hashByValue_scannable 8 hsc]
      refine wpAny_pure ?_
      refine tset_stored (L := x :: L) ?_ ho hx hd g1 nd1 m1 z1 hL1 ?_ ?_ ?_ ?_
      · intro b s1 Q1 q; cases b <;> first | exact wpAny_pure q | exact wpAny_rule q
      · first | (split <;> first | exact f1 | exact SetTable.fits_plain_off f1) | exact f1
      · first | (split <;> exact r1) | exact r1
      · first | (split <;> exact hled) | exact hled
      · intro h' sb r; dsimp only; exact wpAny_pure (hQ _ h' sb r)
    · refine wpAny_bind (wpAny_pure ?_)
      simp only [↓reduceIte]
      refine tset_stored (L := x :: L) ?_ ho hx hd g1 nd1 m1 z1 hL1 f1 r1 hled ?_
      · intro b s1 Q1 q; cases b <;> first | exact wpAny_pure q | exact wpAny_rule q
      · intro h' sb r; dsimp only; exact wpAny_pure (hQ _ h' sb r)
end

/-! ## set(a list of texts) -/
theorem strsAre_get : ∀ {us : List Value} {xs : List Str}, StrsAre us xs → ∀ (i : Nat) (v : Value), us[i]? = some v → ∃ x tk, v = .str x tk ∧ xs[i]? = some x
  | _, _, .nil, i, v, h => by simp at h
  | _, _, .cons n tk hr, 0, v, h => ⟨n, tk, by simpa using h.symm, rfl⟩
  | _, _, .cons n tk hr, i + 1, v, h => by
    obtain ⟨x, tk', e, q⟩ := strsAre_get hr i v (by simpa using h)
    exact ⟨x, tk', e, by simpa using q⟩
section
variable {prog : Program} {w : World} {A : Around} {R : Result → Shared → Prop} {I : Addr} {fp wr : List Addr} {G : Array GenState → Array GenState → Prop} {n : Nat} {Pv : Nat → Value → Prop} {St : Nat → Shared → Prop}
theorem tset_fill (W : WalksS prog w A.in1 I fp wr G n Pv St) (a : Addr) (haf : a ∉ fp) (xs : List Str) (hsz : xs.length = n) (hn : n + 1 < scanBound)
    (hval : ∀ i v, Pv i v → ∃ x tk, v = .str x tk ∧ xs[i]? = some x) :
    ∀ (k i : Nat) (s : Shared), n - i = k → i ≤ n → St i s → TSet w s.heap a (xs.take i).reverse →
      (∀ s', Moved (a :: wr) G s s' → TSet w s'.heap a (xs.take n).reverse → R (.ok (.ret .none)) s') →
      codeAny (model prog w) A (.builtin "set.update.loop" ⟨[.ref a, .ref I], []⟩) R s := by
  have haw : a ∉ wr := fun h => haf (W.sub _ h)
  have hsub : ∀ b ∈ wr, b ∈ a :: wr := fun b hb => List.mem_cons_of_mem _ hb
  intro k
  induction k with
  | zero =>
    intro i s hk hi hst hS hR
    obtain rfl : i = n := by omega
    refine codeAny_builtin PyProof.Rows.F.entry_set_update_loop ?_
    rw [Around.under_plainId PyProof.Rows.F.plain_set_update_loop _]
    show wpAny _ A.in1 (pyNext (.ref I) >>= _) _ _ s
    refine wpAny_bind (W.done s _ _ hst fun s' hm => ?_)
    show wpAny _ A.in1 (ret Value.none) _ _ s'
    exact wpAny_pure (hR s' (hm.mono hsub) (hS.moved fun o e => hm.heap a _ haw e))
  | succ k ih =>
    intro i s hk hi hst hS hR
    have hlt : i < n := by omega
    refine codeAny_builtin PyProof.Rows.F.entry_set_update_loop ?_
    rw [Around.under_plainId PyProof.Rows.F.plain_set_update_loop _]
    show wpAny _ A.in1 (pyNext (.ref I) >>= _) _ _ s
    refine wpAny_bind (W.item i s _ _ hlt hst fun v s' hP hst' hm => ?_)
    obtain ⟨x, tk, rfl, hxi⟩ := hval i v hP
    have hS' : TSet w s'.heap a (xs.take i).reverse := hS.moved fun o e => hm.heap a _ haw e
    have htk : x :: (xs.take i).reverse = (xs.take (i + 1)).reverse := by
      rw [List.take_add_one, hxi]
      simp
    show wpAny _ A.in1 (holding [Value.str x tk] (setAdd a (.str x tk)) >>= _) _ _ s'
    refine wpAny_bind (wpAny_holding ?_)
    unfold setAdd
    refine wpAny_holding ?_
    refine wpAny_bind ((PySem.strKind prog w).pyHash (k := x) (strKind_is _ _ _ _) ?_)
    refine tset_add (s := { s' with toks := s'.toks + 1 }) hS' (by simp only [List.length_reverse, List.length_take]; omega) fun b h' sb hS2 => ?_
    rw [htk] at hS2
    refine wpAny_pure ⟨plainId_quiet PyProof.Rows.F.plain_set_update_loop _, ih (i + 1) _ (by omega) hlt (W.frame _ s' _ _ hst' (Nat.le_succ _) fun c hc o e => ?_) hS2 fun s2 hm2 hS3 => ?_⟩
    · rw [sb.2 c (fun z : c = a => haf (by rw [← z]; exact hc))]; exact e
    · refine hR s2 (Moved.trans W.gtrans ((hm.mono hsub).then_heap (Nat.le_succ _) fun c o hc e => ?_) hm2) hS3
      rw [sb.2 c (fun z : c = a => hc (by rw [z]; exact List.mem_cons_self))]; exact e
end

section
variable {prog : Program} {w : World} {A : Around} {E : Value → Shared → Prop} {s : Shared}
/-- a new empty set, its table led as the world says -/
abbrev setHeap (w : World) (h : Heap) : Heap := h.push { cls := .type "set", dict := none, data := .set #[] 0 (.fresh 0 0 (!w.params.followText "set-order")) }
theorem new_set_led (x : Value) {Q1 : Value → Shared → Prop} (h : Q1 (.ref s.heap.objs.size) { s with heap := setHeap w s.heap }) :
    codeAny (model prog w) A (.call (.builtin "set.__new__") ⟨[.type "set", x], []⟩) (wants Q1 E) s := by
  refine codeAny_of_tree ?_
  show wpAny _ A.in1 (checkBuiltinCall "set.__new__" ⟨[.type "set", x], []⟩ >>= fun _ => again (.builtin "set.__new__" ⟨[.type "set", x], []⟩)) _ _ s
  refine wpAny_bind (wpAny_of_eq (F.newCall_set_1 x) (wpAny_pure ⟨plainId_quiet F.plain_set_new _, codeAny_builtin F.entry_set_new ?_⟩))
  rw [Around.under_plainId F.plain_set_new _]
  unfold Builtin.«set.__new__» Builtin.Frozenset.newClass
  have hsub := sub_set_self
  obtain ⟨hp, g, d, tk, os⟩ := s
  dsimp only
  wp_walk
  refine wpAny_askSetting (wpAny_pure ?_)
  dsimp only
  simp only [newObj]
  exact wpAny_bind (wpAny_alloc (wpAny_pure (wpAny_pure h)))
theorem tset_fresh (h : Heap) : TSet w (setHeap w h) h.objs.size [] :=
  ⟨_, #[], 0, _, Heap.get?_push_size _ rfl, ⟨rfl, rfl, rfl⟩, rfl, (fun e he => by simp at he), (by simp), (fun k => by simp), (by simp), (by rfl), List.Pairwise.nil, by
    show _ ∨ (!w.params.followText "set-order") = true
    cases w.params.followText "set-order"
    · exact .inr rfl
    · exact .inl rfl⟩
theorem set_of_list {l : Addr} {items : Array Value} {xs : List Str} {Q : Value → Shared → Prop}
    (hh : A.handled = none) (hl : s.heap.IsList l items) (hi : StrsAre items.toList xs) (hn : xs.length + 1 < scanBound)
    (h : ∀ (h' : Heap) (tk : Nat), TSet w h' s.heap.objs.size xs.reverse → (∀ b o, b < s.heap.objs.size → s.heap.get? b = some o → h'.get? b = some o) → Q (.ref s.heap.objs.size) { s with heap := h', toks := tk }) :
    wpAny (model prog w) A (call (.type "set") [.ref l]) Q E s := by
  have hsz : xs.length = items.size := by rw [← StrsAre.len_eq hi, Array.length_toList]
  obtain ⟨c, tl, hmro⟩ := PySem.F.called_set.mro
  have hmade := PySem.F.called_set.made
  have hsub := PySem.F.called_set.sub
  refine wpAny_call (codeAny_of_tree ?_)
  show wpAny _ _ (callAny (.type "set") _) _ _ _
  refine wpAny_pure ⟨Code.quiet_builtin _ (by decide +kernel), codeAny_builtin PySem.F.entry_type_call ?_⟩
  rw [Around.under_plain (weight_type_call_type "set" [.ref l] []) rfl]
  have h1 := PySem.F.called_set.notType
  have h2 := PySem.F.called_set.canCreate
  have hct := PySem.F.typeCall_set_1 (.ref l)
  repeat (any_goals (first | assumption | wp_step))
  refine codeAny_mono (new_set_led (w := w) (.ref l) (E := E) (Q1 := fun obj s1 => obj = .ref s.heap.objs.size ∧ s1 = { s with heap := setHeap w s.heap }) ⟨rfl, rfl⟩) fun r s1 hr => ?_
  cases r with
  | error e => exact hr
  | ok fl =>
    cases fl with
    | ret obj =>
      obtain ⟨rfl, rfl⟩ := hr
      have hS : (setHeap w s.heap).get? s.heap.objs.size = some { cls := .type "set", dict := none, data := .set #[] 0 (.fresh 0 0 (!w.params.followText "set-order")) } := Heap.get?_push_size _ rfl
      have hT : Shared.TypeIs { s with heap := setHeap w s.heap } (.ref s.heap.objs.size) "set" := ⟨_, hS, rfl⟩
      have hli := PySem.F.called_set.init.lookup
      have hbi := PySem.F.called_set.init.bind (.ref s.heap.objs.size)
      repeat (any_goals (first | assumption | wp_step))
      refine codeAny_mono (codeAny_call_builtin (R := wants (fun r s2 => r = .none ∧ ∃ h' tk, s2 = { s with heap := h', toks := tk } ∧
          TSet w h' s.heap.objs.size xs.reverse ∧ (∀ b o, b < s.heap.objs.size → s.heap.get? b = some o → h'.get? b = some o)) E) PySem.F.called_set.init.plain PySem.F.entry_set_init (check_set_init_1 hT ?_)) fun r2 s2 hr2 => ?_
      · obtain ⟨ol, hol, hcl, nl, hdl⟩ := hl
        obtain ⟨ocls, odict, odata, oslots⟩ := ol
        dsimp only at hcl hdl
        subst hcl; subst hdl
        have hol' : (setHeap w s.heap).get? l = some { cls := .type "list", dict := odict, data := .seq items nl, slots := oslots } := Heap.get?_push_of_some _ hol
        have hsls := PySem.F.sub_list_set
        have hslf := PySem.F.sub_list_frozenset
        have hne : (Value.type "list" == Value.type "dict") = false := by decide
        have hl1 : (setHeap w s.heap).IsList l items := ⟨_, hol', rfl, nl, rfl⟩
        unfold Builtin.«set.__init__» noKeywords Builtin.Frozenset.updateFrom
        generalize hPI : pyIter = PI
        wp_walk
        subst hPI
        refine wpAny_pyIter_list hl1 ?_
        refine wpAny_bind (wpAny_runValue ?_)
        have hlS : l < s.heap.objs.size := Heap.lt_size hol
        have hh3 : A.in1.in1.in1.handled = none := by simp [hh]
        have hneI : l ≠ (setHeap w s.heap).objs.size := by
          rw [Heap.size_push]; exact Nat.ne_of_lt (Nat.lt_succ_of_lt hlS)
        have hSf : s.heap.objs.size ∉ [(setHeap w s.heap).objs.size, l] := by
          rw [Heap.size_push]; simp only [List.mem_cons, List.mem_singleton, List.not_mem_nil, or_false, not_or]
          exact ⟨Nat.ne_of_lt (Nat.lt_succ_self _), Nat.ne_of_gt hlS⟩
        have hval : ∀ (i : Nat) (v : Value), items[i]? = some v → ∃ x tk, v = .str x tk ∧ xs[i]? = some x := fun i v hv => strsAre_get hi i v (by rw [Array.getElem?_toList]; exact hv)
        refine tset_fill ((Walks.list hh3 _ l hneI items).toS) s.heap.objs.size hSf xs hsz (by rw [← hsz]; exact hn) hval (items.size - 0) 0 _ (by omega) (Nat.zero_le _)
          ⟨⟨_, Heap.get?_push_size _ rfl, rfl, rfl⟩, (hl1.push _)⟩ ?hS0 ?hR
        case hS0 => exact (tset_fresh s.heap).moved fun o e => Heap.get?_push_of_some _ e
        case hR =>
          intro s' hm hS'
          obtain ⟨h', g', d', tk', os'⟩ := s'
          have eg : g' = s.gens := hm.gens
          have ed : d' = s.drawn := hm.drawn
          have eo : os' = s.os := hm.os
          subst eg; subst ed; subst eo
          rw [← hsz, List.take_length] at hS'
          show wpAny _ _ _ _ _ _
          refine wpAny_pure ?_
          show wpAny _ _ (ret Value.none) _ _ _
          refine wpAny_pure ⟨rfl, h', tk', rfl, hS', fun b o hb e => ?_⟩
          have hb1 : b ≠ s.heap.objs.size := Nat.ne_of_lt hb
          have hb2 : b ≠ (setHeap w s.heap).objs.size := by
            rw [Heap.size_push]; exact Nat.ne_of_lt (Nat.lt_succ_of_lt hb)
          exact hm.heap b o (by simp only [List.mem_cons, List.mem_singleton, List.not_mem_nil, or_false, not_or]; exact ⟨hb1, hb2⟩) (Heap.get?_push_of_some _ (Heap.get?_push_of_some _ e))
      · cases r2 with
        | error e => exact hr2
        | ok fl2 =>
          cases fl2 with
          | ret r =>
            obtain ⟨rfl, h', tk, rfl, hS', hk'⟩ := hr2
            repeat (any_goals (first | assumption | wp_step))
            exact h _ _ hS' hk'
          | _ => exact hr2.elim
    | _ => exact hr.elim

/-! ## sorted(a set of texts) -/
theorem strsAre_of : ∀ (l : List Value), (∀ v ∈ l, ∃ x tk, v = Value.str x tk) → StrsAre l (l.map strOf)
  | [], _ => .nil
  | v :: l, h => by
    obtain ⟨x, tk, rfl⟩ := h v List.mem_cons_self
    exact .cons x tk (strsAre_of l fun u hu => h u (List.mem_cons_of_mem _ hu))
theorem sorted_tset {a : Addr} {L : List Str} {Q : Value → Shared → Prop} (R : TSet w s.heap a L) (hh : A.handled = none) (h64 : L.length < 64)
    (hQ : ∀ s' p (out : Array Value) (c : Nat) (ns : List Str), (∀ b o, s.heap.get? b = some o → s'.heap.get? b = some o) → s'.gens = s.gens → s'.os = s.os → s.heap.objs.size ≤ p →
      s'.heap.get? p = some (seqObj "list" out c) → StrsAre out.toList ns → sortedS ns = true → ns.Nodup → (∀ x, x ∈ ns ↔ x ∈ L) → ns.length ≤ L.length → Q (.ref p) s') :
    wpAny (model prog w) A (call (.builtin "sorted") [.ref a]) Q E s := by
  obtain ⟨o, es, ep, t, ho, hex, hd, g, nd, hm, hz, hf, hr, hl⟩ := R
  have hb : es.size < scanBound := by have e : scanBound = 4096 := rfl; omega
  refine Calls.call_function_entry kind_sorted plain_sorted entry_sorted (args_sorted1 _) ?_
  unfold Builtin.«sorted»
  refine wpAny_bind (m := checkCount "sorted" 1 1 _) (wpAny_pure ?_)
  refine wpAny_bind (collect_set (A := A.in1) hh ⟨o, ho, hex.1, hd⟩ hf hb hr hl fun s1 vs k1 hz1 g1 o1 pm => ?_)
  have hvl : vs.length = es.size := by rw [pm.length_eq, List.length_map, Array.length_toList]
  have hI : StrsAre vs (vs.map strOf) := strsAre_of vs fun v hv => by
    obtain ⟨e, he, q⟩ := List.mem_map.mp (pm.mem_iff.mp hv)
    obtain ⟨x, tk, h1, _⟩ := g e he
    exact ⟨x, tk, by rw [← q]; exact h1⟩
  have pk : (vs.map strOf).Perm (es.toList.map tOf) := by
    have q := pm.map strOf
    rw [List.map_map] at q
    exact q
  refine wpAny_bind (wpAny_newList ?_ (by rw [hvl, sizeLine_eq]; omega))
  have hoL : (s1.heap.push (seqObj "list" vs.toArray 0)).get? s1.heap.objs.size = some (seqObj "list" vs.toArray 0) := Heap.get?_push_size _ rfl
  refine wpAny_bind (wpAny_holding (wpAny_call_entry slot_list_sort ⟨_, hoL, rfl⟩ entry_list_sort
    (list_sort_treeK (κ := PyProof.Rows.strKind) strKind_oneLt hoL hI.keysOf (fun v₁ v₂ rest e => keyKind_strs (by rw [← e]; exact hI)) (by rw [hvl]; omega) ?_) (args_list_sort _)))
  intro st' hp hs
  obtain ⟨ns, b1, b2, b3⟩ := sorted_out_str hI hp hs
  obtain ⟨c, hc⟩ := sortedHeap_at (vs := vs) (out := (arrOf st').map (·.2)) hoL
  have pn : ns.Perm (es.toList.map tOf) := b2.trans pk
  refine ⟨_, rfl, wpAny_pure ⟨_, rfl, hQ _ s1.heap.objs.size _ c ns (fun b u e => ?_) g1 o1 hz1 hc b1 b3 (pn.nodup_iff.mpr nd) (fun x => by rw [pn.mem_iff, ← hm x]) ?_⟩⟩
  · have q := k1 b u e
    have hlt := Heap.lt_size q
    show (sortedHeap (s1.heap.push (seqObj "list" vs.toArray 0)) s1.heap.objs.size vs ((arrOf st').map (·.2))).get? b = some u
    rw [sortedHeap_old (Nat.ne_of_lt hlt) (by rw [size_push']; exact Nat.lt_succ_of_lt hlt)]
    exact Heap.get?_push_of_some _ q
  · rw [pn.length_eq, List.length_map, Array.length_toList]; exact hz
end

/-! ## over the abstract heap -/
/-- the set of the texts L at a -/
def SetT (w : World) (a : Addr) (L : List Str) : HO := .ext fun h => TSet w h a L
theorem setT_ok {P : Program} {w : World} {H : Hp} {h : Heap} {a : Addr} {L : List Str} (R : TSet w h a L) : ObjOk P w H h a (SetT w a L) := by
  have ⟨o, _, _, _, ho, _⟩ := R
  exact ⟨R, ⟨o, ho⟩, fun h1 h2 p k => p.moved k⟩
section
variable {X : Cx} {pins : List (Addr × Obj)} {σ : L2.St} {H : Hp} {s : Shared}
theorem setT_at {a : Addr} {L : List Str} (I : Inv X pins σ H s) (ha : H a = some (SetT X.w a L)) : TSet X.w s.heap a L := (I.hok a _ ha).1
/-- set(xs) -/
def rSetT (K : PySem.W.Frag) (w : World) : List V → Hp → VK → Prop := fun vs H Q => ∃ (l : Addr) (xs : List Str), vs = [V.ref l] ∧ SqL K H l (xs.map V.str) ∧ xs.length < 64 ∧ ∀ p, H p = none → Q (.ref p) (upd H p (SetT w p xs.reverse))
theorem cr_setT (hc : X.calm = true) : CallR X (.type "set") (rSetT X.K X.w) := by
  intro pins s σ H vs us Q I r h
  obtain ⟨l, xs, rfl, hl, h64, q⟩ := h
  rw [Vals.ref1 r]
  obtain ⟨its, rv, hp, _⟩ := I.list hl
  have hi : StrsAre its.toArray.toList xs := by rw [List.toList_toArray]; exact rv.strs
  refine set_of_list (I.ok.hd hc) hp.isList hi (by have e : scanBound = 4096 := rfl; omega) fun h' tk R k => ?_
  have hn : H s.heap.objs.size = none := I.hok.fresh (Nat.le_refl _)
  exact ⟨.ref _, _, I.laid (t' := tk) (fun b u e => k b u (Heap.lt_size e) e) (Nat.le_refl _) (setT_ok R), rfl, q _ hn⟩
/-- sorted(a set) -/
def rSortT (w : World) : List V → Hp → VK → Prop := fun vs H Q => ∃ (a : Addr) (L : List Str), vs = [V.ref a] ∧ H a = some (SetT w a L) ∧ L.length < 64 ∧
  ∀ (ns : List Str) (p : Addr), sortedS ns = true → ns.Nodup → (∀ x, x ∈ ns ↔ x ∈ L) → ns.length ≤ L.length → H p = none → Q (.ref p) (upd H p (.lst (ns.map V.str)))
theorem cr_sortT (hc : X.calm = true) : CallR X (.builtin "sorted") (rSortT X.w) := by
  intro pins s σ H vs us Q I r h
  obtain ⟨a, L, rfl, ha, h64, q⟩ := h
  rw [Vals.ref1 r]
  refine sorted_tset (setT_at I ha) (I.ok.hd hc) h64 fun s' p out c ns k g o hp hg hi hs hnd hm hl => ?_
  have hlen : (ns.map V.str).length ≤ sizeLine := by rw [List.length_map, sizeLine_eq]; omega
  have hn : H p = none := I.hok.fresh hp
  have J : Inv X pins σ (upd H p (.lst (ns.map V.str))) { s with heap := s'.heap, gens := s'.gens, drawn := s'.drawn, toks := s'.toks } :=
    I.call (ch := []) (Un.laid k hp hn) (I.hok.laid k hp ⟨hlen, out.toList, c, vals_of_strs hi, hg⟩) (by rw [g]; exact I.bare) (fun _ z => nomatch z)
  have e : s' = { s with heap := s'.heap, gens := s'.gens, drawn := s'.drawn, toks := s'.toks } := by
    cases s'
    cases s
    cases o
    rfl
  rw [e]
  exact ⟨.ref p, _, J, rfl, q ns p hs hnd hm hl hn⟩
end
end WK
/-! WkOps: operators of a class of one's own, on either side of a text. -/
namespace WK
open PySem PySem.Spec PyProof.Rows L2
section
open PySem.W
variable {prog : Program} {w : World} {M : Model} {A : Around} {E : Value → Shared → Prop} {s : Shared} {K : Frag} {x C f : Addr} {ox : Obj} {od : Option Obj}
/-- str op instance: the text's type says nothing, the instance's reflected method is called -/
theorem bin_rev {op : Operator} {T : String} {a : Value} {fo ro : Option Value} {Q : Value → Shared → Prop} {g : Addr} (X : K.In s.heap) (I : InstAt s.heap x ox C od) (ha : typeOf a = pure (.type T)) (hc : selfFirst K C = true)
    (hs : findIn K (.ref C) (PySem.dunder op.info.2) = some (some (.ref f))) (hr : findIn K (.ref C) (dunderR op.info.2) = some (some (.ref g))) (hf : isFn K (.ref g) = true)
    (h1 : findIn K (.type T) (PySem.dunder op.info.2) = some fo) (h2 : findIn K (.type T) (dunderR op.info.2) = some ro) (hn : ((fo.isSome && !isSeqSlot fo) || (ro.isSome && !isSeqSlot ro)) = false)
    (h : wpAny (model prog w) A (call (.ref g) [.ref x, a]) (PySem.W.CmpBack Q) E s) : wpAny (model prog w) A (binaryOp op a (.ref x)) Q E s := by
  obtain ⟨cd, rest, hcd, hm⟩ := ksp_first hc
  rcases hi : op.info with ⟨sym, nm'⟩
  rw [hi] at hs hr h1 h2
  dsimp only at hs hr h1 h2
  have one := ksp_try X I hr hf h
  obtain ⟨hh, gg, d, tt, os⟩ := s
  have L1 : Looks (model prog w) hh (typeOf a) (.type T) := Looks.of_pure ha
  have L2 : Looks (model prog w) hh (typeOf (.ref x)) (.ref C) := I.type
  have L3 : Looks (model prog w) hh (fillsNumberSlot (.type T) nm') false := by
    have q := ksp_fillsT (M := model prog w) X h1 h2
    rw [hn] at q
    exact q
  have L4 : Looks (model prog w) hh (fillsNumberSlot (.ref C) nm') true := fills_K X hcd hm hs
  have hne : (Value.type T == Value.ref C) = false := Bool.eq_false_iff.mpr fun q => by cases beq_iff_eq.mp q
  simp only [binaryOp, hi]
  refine wpAny_holding (wpAny_bind ?_)
  unfold binaryOp1
  refine wpAny_bind (L1.at (wpAny_bind (L2.at (wpAny_bind (L3.at ?_)))))
  simp only [hne, Bool.false_eq_true, if_false]
  ksp_lk
  refine wpAny_mono one (fun r s' hr' => ?_) fun _ _ e => e
  obtain ⟨v, rfl, hq⟩ := hr'
  repeat lk
  exact hq
end

/-- what the text says of an operator nm of the class at C: its method f, its reflected method g (if there is one) -/
structure OwnBin (K : PySem.W.Frag) (C : Addr) (nm : String) (f : Addr) (rg : Option Value) : Prop where
  first : PySem.W.selfFirst K C = true
  at_ : PySem.W.findIn K (.ref C) (PySem.dunder nm) = some (some (.ref f))
  fn : PySem.W.isFn K (.ref f) = true
  rev : PySem.W.findIn K (.ref C) (dunderR nm) = some rg
  strL : PySem.W.findIn K (.type "str") (PySem.dunder nm) = some none
  strR : PySem.W.findIn K (.type "str") (dunderR nm) = some none
  sub : PySem.W.subIn K (.type "str") (.ref C) = some false
section
variable {X : Cx} {CX : CXT} {k : Nat} {C f g : Addr} {fd : FuncData} {ps : List Str} {sp : Sp} {E : XK} {op : Operator} {rg : Option Value}
theorem back_of {pins : List (Addr × Obj)} {σ : L2.St} {Q : VK} {v : Value} {s' : Shared} (h : EP X pins σ Q v s') : PySem.W.CmpBack (EP X pins σ Q) v s' := by
  obtain ⟨y, H', I, r, q⟩ := id h
  cases v <;> first | exact h | (cases y <;> first | exact nomatch r | exact (let ⟨_, z⟩ := r; nomatch z))
/-- instance op instance of the same class, or a text -/
def rOwn (C : Addr) (sp : Sp) (E : XK) : R2 := fun x y H Q => ∃ a dx fs, x = .ref a ∧ H a = some (.ins C dx fs) ∧ ((∃ z, y = .str z) ∨ ∃ b dy gs, y = .ref b ∧ H b = some (.ins C dy gs)) ∧ sp [x, y] H Q E
theorem op_own (O : OwnBin X.K C op.info.2 f rg) (hrg : rg = none ∨ ∃ g : Addr, rg = some (.ref g)) (F : FnOk X.prog X.w X.K X.mg X.base CX k f fd ps sp) (hr : Room k X.A) (hb : Binds X.K fd ps []) (hx : Passes CX X E) : OpR X (binaryOp op) (rOwn C sp E) := by
  intro pins s σ H x y v u Q I rx ry h
  obtain ⟨a, dx, fs, rfl, ha, hy, q⟩ := h
  cases rx
  obtain ⟨m, fr⟩ := I.fr
  obtain ⟨mA, M, _⟩ := ins_get I.hok ha
  obtain ⟨od, J, _⟩ := M.look
  have run : wpAny (model X.prog X.w) X.A (call (.ref f) [.ref a, u]) (PySem.W.CmpBack (EP X pins σ Q)) X.xe s :=
    wpAny_mono (run_fn (dvs := []) (vs := [.ref a, y]) F hr hb .nil hx I (.cons rfl (.cons ry .nil)) q) (fun _ _ z => back_of z) fun _ _ z => z
  rcases hy with ⟨z, rfl⟩ | ⟨b, dy, gs, rfl, hbb⟩
  · obtain ⟨t, rfl⟩ := ry
    exact PySem.W.ksp_binT fr I.ok.mod.kin J rfl O.first O.at_ O.fn O.rev hrg O.strL O.strR O.sub run
  · cases ry
    obtain ⟨mB, N, _⟩ := ins_get I.hok hbb
    obtain ⟨ob, J2, _⟩ := N.look
    exact PySem.W.binop_K fr I.ok.mod.kin J J2.type O.first O.at_ O.fn run
/-- text op instance: the reflected method at (instance, text) -/
def rOwnR (C : Addr) (sp : Sp) (E : XK) : R2 := fun x y H Q => ∃ z b dx fs, x = .str z ∧ y = .ref b ∧ H b = some (.ins C dx fs) ∧ sp [y, x] H Q E
theorem op_ownR (O : OwnBin X.K C op.info.2 f (some (.ref g))) (hg : PySem.W.isFn X.K (.ref g) = true) (F : FnOk X.prog X.w X.K X.mg X.base CX k g fd ps sp) (hr : Room k X.A) (hb : Binds X.K fd ps []) (hx : Passes CX X E) : OpR X (binaryOp op) (rOwnR C sp E) := by
  intro pins s σ H x y v u Q I rx ry h
  obtain ⟨z, b, dx, fs, rfl, rfl, hbb, q⟩ := h
  obtain ⟨t, rfl⟩ := rx
  cases ry
  obtain ⟨mB, N, _⟩ := ins_get I.hok hbb
  obtain ⟨ob, J, _⟩ := N.look
  have run : wpAny (model X.prog X.w) X.A (call (.ref g) [.ref b, .str z t]) (PySem.W.CmpBack (EP X pins σ Q)) X.xe s :=
    wpAny_mono (run_fn (dvs := []) (vs := [.ref b, .str z]) F hr hb .nil hx I (.cons rfl (.cons ⟨t, rfl⟩ .nil)) q) (fun _ _ z => back_of z) fun _ _ z => z
  exact bin_rev I.kIn J rfl O.first O.at_ O.rev hg O.strL O.strR rfl run
/-- ~ instance -/
def rInv (C : Addr) (sp : Sp) (E : XK) : V → Hp → VK → Prop := fun x H Q => ∃ a dx fs, x = .ref a ∧ H a = some (.ins C dx fs) ∧ sp [x] H Q E
theorem un_own (hs : PySem.W.findIn X.K (.ref C) "__invert__" = some (some (.ref f))) (hf : PySem.W.isFn X.K (.ref f) = true) (F : FnOk X.prog X.w X.K X.mg X.base CX k f fd ps sp) (hr : Room k X.A) (hb : Binds X.K fd ps []) (hx : Passes CX X E) : UnR X (unaryOp .Invert) (rInv C sp E) := by
  intro pins s σ H x v Q I rx h
  obtain ⟨a, dx, fs, rfl, ha, q⟩ := h
  cases rx
  obtain ⟨m, fr⟩ := I.fr
  obtain ⟨mA, M, _⟩ := ins_get I.hok ha
  obtain ⟨od, J, _⟩ := M.look
  exact PySem.W.ksp_inv fr I.ok.mod.kin J hs hf (run_fn (dvs := []) (vs := [.ref a]) F hr hb .nil hx I (.cons rfl .nil) q)
end
end WK
/-! WkExc: an error that is caught and kept in a local behind the try. -/
namespace WK
open PySem PySem.Spec PyProof.Rows L2
/-- an exception object at a: its class, its own dict's place -/
def ExK (cls : Value) (d : Option Addr) (a : Addr) : HO := .ext fun h => ∃ (oe : Obj) (vs : Array Value), h.get? a = some oe ∧ Zc cls d oe ∧ oe.data = .fields vs
theorem exK_ok {P : Program} {w : World} {H : Hp} {h : Heap} {a : Addr} {cls : Value} {d : Option Addr} {oe : Obj} {vs : Array Value} (e : h.get? a = some oe) (z : Zc cls d oe) (hd : oe.data = .fields vs) : ObjOk P w H h a (ExK cls d a) :=
  ⟨⟨oe, vs, e, z, hd⟩, ⟨oe, e⟩, fun _ _ ⟨o, v, q, r⟩ k => ⟨o, v, k o q, r⟩⟩
section
variable {X : Cx} {pins : List (Addr × Obj)} {σ : L2.St} {H : Hp} {s : Shared} {a : Addr}
/-- what was not tracked (nor there at the entry, nor a frame or a cell) is tracked from here on -/
theorem track {u : HO} (I : Inv X pins σ H s) (n0 : X.s_0.heap.get? a = none) (na : H a = none) (nL : a ≠ X.env.locals) (nC : ∀ x c, X.env.cells.lookup x = some c → c ≠ a) (nP : ∀ p ∈ X.pn ++ pins, p.1 ≠ a)
    (ok : ObjOk X.prog X.w (upd H a u) s.heap a u) : Inv X pins σ (upd H a u) s := by
  have ne0 : ∀ b o, X.s_0.heap.get? b = some o → b ≠ a := fun b o e z => by rw [z, n0] at e; cases e
  have neH : ∀ b o, H b = some o → b ≠ a := fun b o e z => by rw [z, na] at e; cases e
  refine ⟨I.ok, I.os, I.bare, ⟨I.base.keep, I.base.slot, fun b o e n hx => ?_, I.base.there, fun b xs e => ?_, fun b o xs e => ?_, fun b ps e => ?_⟩, I.loc, I.cell, ?_, fun x c e => ?_, fun p hp => ?_, fun b v e => ?_, I.len⟩
  · rw [upd_ne (ne0 b o e)]; exact I.base.free b o e n hx
  · have q := I.base.tups b xs e
    rw [upd_ne (neH b _ q)]; exact q
  · have q := I.base.frzs b o xs e
    rw [upd_ne (neH b _ q)]; exact q
  · obtain ⟨m, q⟩ := I.base.tbls b ps e
    exact ⟨m, by rw [upd_ne (neH b _ q)]; exact q⟩
  · rw [upd_ne (Ne.symm nL)]; exact I.free
  · rw [upd_ne (nC x c e)]; exact I.freeC x c e
  · obtain ⟨e, n, r⟩ := I.pin p hp
    exact ⟨e, by rw [upd_ne (nP p hp)]; exact n, r⟩
  · by_cases hb : b = a
    · subst hb; rw [upd_same] at e; cases e; exact ok
    · rw [upd_ne hb] at e
      exact (I.hok b v e).stay (fun c w' _ q => q) (fun c q => by rw [upd_ne (neH c _ q)]; exact q) fun c xs q => by rw [upd_ne (neH c _ q)]; exact q
/-- what is not in a state of ours is no frame, no cell, no pin of it, and was not there at the entry -/
theorem far (I : Inv X pins σ H s) (hx : X.ex = []) (hn : s.heap.get? a = none) :
    X.s_0.heap.get? a = none ∧ a ≠ X.env.locals ∧ (∀ x c, X.env.cells.lookup x = some c → c ≠ a) ∧ ∀ p ∈ X.pn ++ pins, p.1 ≠ a := by
  refine ⟨?_, fun z => ?_, fun x c e z => ?_, fun p hp z => ?_⟩
  · cases e : X.s_0.heap.get? a with
    | none => rfl
    | some o =>
      obtain ⟨o', q⟩ := I.base.there a o e (by rw [hx]; exact fun z => nomatch z)
      rw [hn] at q; cases q
  · obtain ⟨m, ⟨o, _, _, ho, _⟩, _⟩ := I.loc
    rw [← z, hn] at ho; cases ho
  · obtain ⟨v, o, ho, _⟩ := I.cell x c e
    rw [z, hn] at ho; cases ho
  · obtain ⟨e, _⟩ := I.pin p hp
    rw [z, hn] at e; cases e
end
/-- what the clause 'except x as n' wishes, the error tracked behind the suite; slot i is n's -/
def wKept (K : PySem.W.Frag) (c : Value) (i : Nat) (ts : Addr → Value → Option Addr → TS) (Wout : WX) (D : Ends) : WX := fun cls d σ H =>
  ∃ b, PySem.W.exmOne K cls c = some b ∧ (b = true → ∀ a, H a = none → ts a cls d { nx := fun σ' H' => D.nx (σ'.set i none) (upd H' a (ExK cls d a)), rt := D.rt } (σ.set i (some (.ref a))) H) ∧
    (b = false → Wout cls d σ H)
section
variable {X : Cx} {x n : Str} {c : Value} {i : Nat} {body suite : List Stmt} {b₀ : Stmt} {np pos pos' : Pos} {tb : WX → TS} {ts : Addr → Value → Option Addr → TS} {Wout : WX}
theorem ps_try_kept (hex : X.ex = []) (hs : X.stack = X.env :: X.outer) (hf : X.env.frame = some X.env.locals) (hN : X.N.Nodup) (hi : X.N[i]? = some n) (hln : X.env.kindOf n = some .local) (hc : Names X x c) (tk : Takes X Wout)
    (hb : ∀ (W : WX) (pn : List (Addr × Obj)) (xe : Value → Shared → Prop), Takes (X.tr pn xe) W → PassesOwn (model X.prog X.w) X.A X.env xe → PSs (X.tr pn xe) body (tb W))
    (hsu : ∀ (a : Addr) (oe : Obj) (cls : Value) (d : Option Addr) (pn : List (Addr × Obj)), Zc cls d oe → (∃ vs, oe.data = .fields vs) → PSs (X.suite a ((a, oe) :: pn)) (b₀ :: suite) (ts a cls d)) :
    PS X (.Try body [.ExceptHandler (some (.Name x np)) (some n) (b₀ :: suite) pos'] [] [] pos) (fun D σ H => tb (wKept X.K c i ts Wout D) D σ H) := by
  refine ⟨fun pins s σ H D I h => ?_⟩
  have ok := I.ok
  have hfr : X.A.frames = some (X.env :: X.outer) := by rw [ok.frames, hs]
  refine wpAny_Try_except ?_
  refine wpAny_mono ((hb (wKept X.K c i ts Wout D) (X.pn ++ pins) (fun e s1 => wpAny (model X.prog X.w) X.A (noteFrame e X.env) (fun _ s2 => wpAny (model X.prog X.w) X.A (setFlight e none) (fun _ s3 =>
    wpAny (model X.prog X.w) X.A (handleBy e X.env [.ExceptHandler (some (.Name x np)) (some n) (b₀ :: suite) pos']) (SP X pins D) X.xe s3) X.xe s2) X.xe s1) (fun u s' xx => ?_) PassesOwn.looking).run [] s σ H D (I.toTry _) h) (fun f s1 hsp => ?_) (fun e s1 he => he)
  · obtain ⟨a, B, sI, pins', σ', H', cls, d, rfl, J', nb, up, sky, na, os, ag, b, hb1, hyes, hno⟩ := xx
    have J : Inv X pins σ' H' sI := J'.ofTry ok
    have sky' : Sky B (X.env :: X.outer) a (Zc cls d) X.env.locals s'.heap := by rw [← hs]; exact sky
    have hBa : B.get? a = none := by
      rcases sky' with z | z | z
      · exact z.2.1
      · exact z.2.1
      · exact z.2.1
    show wpAny (model X.prog X.w) X.A (noteFrame (.ref a) X.env) _ _ _
    refine Sky.land Zc.steady hfr hf sky' fun h3 fl3 up3 => ?_
    have J3 : Inv X pins σ' H' { s' with heap := h3 } := J.landed nb fl3.1 (up.trans up3) os ag
    obtain ⟨oe3, vs3, he3, hz3, hd3⟩ := fl3.there
    have nfr : a ∉ frs (X.env :: X.outer) := fun hm => by
      obtain ⟨_, o', e', hnf⟩ := fl3.2.2.1.mem hm
      rw [he3] at e'; cases e'
      exact hnf _ hd3
    have hIa : sI.heap.get? a = none := by
      cases e : sI.heap.get? a with
      | none => rfl
      | some o =>
        have q := nb a o e (by rw [hs]; exact nfr)
        rw [hBa] at q; cases q
    obtain ⟨n0, nL, nC, nP⟩ := far J hex hIa
    have nF : a ∉ X.fs := fun hm => by
      obtain ⟨e, he, q⟩ := List.mem_filterMap.mp hm
      exact nfr (List.mem_filterMap.mpr ⟨e, List.mem_cons_of_mem _ he, q⟩)
    have S3 := J3.suite he3 hd3 na nL nF
    refine wpAny_handleBy_cons (codeAny_handlers_test ?_) (by intro q; cases q)
    have LT : PySem.W.Looks (model X.prog X.w) h3 (typeOf (.ref a)) cls := fun A Q E s k q => wpAny_typeOf_ref (k _ _ he3) (by rw [hz3.1]; exact q)
    have LM := PySem.W.exm_one (M := model X.prog X.w) (J3.kIn) LT hb1
    have test : ∀ {Q : Value → Shared → Prop} {E : Value → Shared → Prop}, Q c { s' with heap := h3 } → wpAny (model X.prog X.w) (X.A.mark (some (.ref a))) (eval (.Name x np) X.env) Q E { s' with heap := h3 } := fun {Q E} q => by
      obtain ⟨hg, hdbg, hm | ⟨hm, hv, hnn⟩⟩ := hc
      · exact ld_glob (X := X.suite a ((a, oe3) :: (X.pn ++ pins))) S3 hg hm q hdbg
      · exact ld_blt (X := X.suite a ((a, oe3) :: (X.pn ++ pins))) S3 hg hm hv q hnn hdbg
    refine test (LM.here ?_)
    cases b with
    | true =>
      refine codeAny_handlers_suite_as ?_
      refine HandSPX.lands_againZ fl3 fun h4 fl4 up4 => ?_
      have J4 : Inv X pins σ' H' { s' with heap := h4 } := J.landed nb fl4.1 ((up.trans up3).trans up4) os ag
      obtain ⟨oe4, vs4, he4, hz4, hd4⟩ := fl4.there
      have S4 := J4.suite he4 hd4 na nL nF
      refine store_ok (X := X.suite a ((a, oe4) :: (X.pn ++ pins))) (v := .ref a) S4 hN hi (.inl hln) rfl (fun s5 S5 => ?_) (.inr hln)
      refine wpAny_mono ((hsu a oe4 cls d (X.pn ++ pins) hz4 ⟨_, hd4⟩).run [] s5 _ H' _ S5 (hyes rfl a na)) (fun f s6 hsp => ?_) (fun _ _ z => False.elim z)
      cases f with
      | next =>
        obtain ⟨σ6, H6, S6, q6⟩ := hsp
        obtain ⟨ha6, na6, _⟩ := S6.pin (a, oe4) (List.mem_append.mpr (.inl List.mem_cons_self))
        have T6 := track (S6.unsuite ok) n0 na6 nL nC nP (exK_ok (H := upd H6 a (ExK cls d a)) ha6 hz4 hd4)
        exact gone_ok T6 hN hi hln fun s7 J7 => ⟨_, _, J7, q6⟩
      | brk => obtain ⟨σ6, H6, S6, q6⟩ := hsp; exact q6.elim
      | cont => obtain ⟨σ6, H6, S6, q6⟩ := hsp; exact q6.elim
      | ret u =>
        obtain ⟨v6, σ6, H6, S6, r6, q6⟩ := hsp
        exact gone_ok (S6.unsuite ok) hN hi hln fun s7 J7 => ⟨_, _, _, J7, r6, q6⟩
    | false =>
      show wpAny _ X.A (handleBy (.ref a) X.env []) _ _ _
      refine wpAny_handleBy_nil ?_
      obtain ⟨k1, k2, k3, oe, vs, T, oT, ts', he, hz, hd, h1, hr⟩ := id fl3
      unfold PySem.passOn
      refine wpAny_bind (wpAny_field he hd h1 ?_)
      rw [if_neg (show ¬ ((Value.ref T == Value.none) = true) from by simp)]
      have fin : wpAny (model X.prog X.w) X.A (setFlight (.ref a) X.env.frame) (fun _ s4 => wpAny (model X.prog X.w) X.A (throw (.ref a) : Sem Flow) (SP X pins D) X.xe s4) X.xe { s' with heap := h3 } := by
        rw [hf]
        refine HandSPX.setFlight_upZ fl3 fun h4 hh4 up4 => wpAny_throw (tk _ _ ?_)
        exact ⟨a, B, sI, pins, σ', H', cls, d, rfl, J, nb, (up.trans up3).trans up4, .inr (.inr (by rw [hs]; exact hh4)), na, os, ag, hno rfl⟩
      first
        | exact wpAny_bind (wpAny_pure (wpAny_bind fin))
        | exact wpAny_bind fin
  · cases f with
    | next => obtain ⟨σ', H', J', q⟩ := hsp; exact wpAny_execs_nil ⟨σ', H', J'.ofTry ok, q⟩
    | brk => obtain ⟨σ', H', J', q⟩ := hsp; exact ⟨σ', H', J'.ofTry ok, q⟩
    | cont => obtain ⟨σ', H', J', q⟩ := hsp; exact ⟨σ', H', J'.ofTry ok, q⟩
    | ret u => obtain ⟨v, σ', H', J', r, q⟩ := hsp; exact ⟨v, σ', H', J'.ofTry ok, r, q⟩
end
/-! ## what a kept error tells -/
section
variable {X : Cx}
/-- e.f of a kept error of the class at C: what its dict holds -/
def tKf (C : Addr) (f : Str) (te : TE) : TE := fun σ H Q => te σ H fun x H1 => ∃ (a dd : Addr) (fs : List (Str × V)) (v : V), x = .ref a ∧ H1 a = some (ExK (.ref C) (some dd) a) ∧ H1 dd = some (.xd fs) ∧ fs.lookup f = some v ∧ Q v H1
theorem pe_kf {C : Addr} {e : Expr} {te : TE} {pos : Pos} {f : Str} (T : XfC X.K C) (hno : PySem.W.findIn X.K (.ref C) f = some none) (he : PE X e te) (hb : attributeBase e f X.env (eval e X.env) = eval e X.env := by rfl) :
    PE X (.Attribute e f pos) (tKf C f te) := by
  refine ⟨fun pins s σ H Q I h => ?_⟩
  refine attr_of hb (thn (he.run pins s σ H _ I h) fun u s1 hh => ?_)
  obtain ⟨x, H1, I1, rx, a, dd, fs, v, rfl, ha, hdd, l, q⟩ := hh
  obtain rfl : u = Value.ref a := rx
  obtain ⟨⟨oe, vs, ho, hz, hd⟩, _, _⟩ := I1.hok a _ ha
  obtain ⟨mA, hns, hr⟩ := (show ObjOk X.prog X.w H1 s1.heap dd (.xd fs) from I1.hok dd _ hdd)
  obtain ⟨od, hod, hl⟩ := lookIn_ns hns
  obtain ⟨u, hu, ru⟩ := RelO.some_of (v := v) (o := mA f) (by rw [← l]; exact hr f)
  have J : PySem.W.InstAt s1.heap a oe C (some od) := ⟨ho, hz.1, by unfold PySem.W.notCls; rw [hd] <;> rfl, by rw [hz.2]; exact hod⟩
  exact HandSPX.exc_get I1.kIn J T.ga T.gg T.exC (PySem.W.findObj_own T.hdC hno rfl (by rw [hl, hu])) (handed_of ru) ⟨v, H1, I1.tok _, ru, q⟩
/-- isinstance(e, c), e a kept error of the class at D -/
def rIsK (K : PySem.W.Frag) : List V → Hp → VK → Prop := fun xs H Q => ∃ (a D : Addr) (d : Option Addr) (c : V) (u : Value) (b : Bool), xs = [.ref a, c] ∧ H a = some (ExK (.ref D) d a) ∧ ExcC K D ∧ (∀ dd, d = some dd → ∃ fs, H dd = some (.xd fs)) ∧ (∀ z, RelV c z → z = u) ∧ PySem.W.kitOne K (.ref D) u = some b ∧ Q (.bl b) H
theorem call_isKept : CallR X (.builtin "isinstance") (rIsK X.K) := by
  intro pins s σ H xs us Q I r h
  obtain ⟨a, D, d, c, u, b, rfl, ha, C, hdd, hcu, e, q⟩ := h
  obtain ⟨u1, u2, rfl, r1, r2⟩ := vals2 r
  obtain rfl : u1 = Value.ref a := r1
  have e2 := hcu _ r2
  subst e2
  obtain ⟨⟨oe, vs, ho, hz, hd⟩, _, _⟩ := I.hok a _ ha
  have J : ∃ od, PySem.W.InstAt s.heap a oe D od := by
    cases d with
    | none => exact ⟨none, ho, hz.1, by unfold PySem.W.notCls; rw [hd] <;> rfl, by rw [hz.2]; trivial⟩
    | some dd =>
      obtain ⟨fs, hfs⟩ := hdd dd rfl
      obtain ⟨mA, hns, _⟩ := (show ObjOk X.prog X.w H s.heap dd (.xd fs) from I.hok dd _ hfs)
      obtain ⟨od, hod, _⟩ := lookIn_ns hns
      exact ⟨some od, ho, hz.1, by unfold PySem.W.notCls; rw [hd] <;> rfl, by rw [hz.2]; exact hod⟩
  obtain ⟨od, J⟩ := J
  have hcl : (PySem.W.clsIn X.K D).isSome = true := by
    obtain ⟨cd, hc, _⟩ := PySem.W.any_some C.hd
    rw [hc]; rfl
  exact PySem.W.kia_one (PySem.W.kitx_exc hcl C.hg C.hk C.hs C.ha C.hn C.ht C.hm) I.kIn J e (fun z => nomatch z) fun tk => ⟨.bl b, H, I.tok tk, rfl, q⟩
end
end WK
/-! WkNum: great powers. -/
namespace WK
open PySem PySem.Spec PyProof.Rows L2
/-- i ** j below 2 ^ 27 bits -/
def CPowB (i j : Int) : Prop := 0 ≤ j ∧ ((Builtin.Int.intBits i : Nat) : Int) * j ≤ 2 ^ 27
theorem op_powB {X : Cx} : OpR X (binaryOp .Pow) (rI CPowB fun i j => .int (i ^ j.toNat)) := opI fun _ _ _ _ _ _ _ hc q => pow_int hc.1 hc.2 q
theorem bits_le {i : Int} {n : Nat} (h : i.natAbs < 2 ^ n) (h0 : 0 < n) : Builtin.Int.intBits i ≤ n := by
  have q := PySem.Flt.log2_lt_of h0 h
  unfold Builtin.Int.intBits
  split <;> omega
end WK
/-! WkTree: what a search is on the heap. -/
namespace WK
open PySem PySem.Spec PyProof.Rows L2
/-! ## heaps -/
/-- what never changes once it stands: instances (behind their __init__) and tuples -/
def imm : HO → Bool
  | .ins _ _ _ => true
  | .tup _ => true
  | _ => false
def KeepI (H H' : Hp) : Prop := ∀ b o, H b = some o → imm o = true → H' b = some o
theorem KeepI.refl (H : Hp) : KeepI H H := fun _ _ h _ => h
theorem KeepI.trans {H H1 H2 : Hp} (a : KeepI H H1) (b : KeepI H1 H2) : KeepI H H2 := fun c o h i => b c o (a c o h i) i
theorem Same.keepI {H H' : Hp} (s : Same H H') : KeepI H H' := fun b o h _ => s b o h
theorem same_new {H : Hp} {p : Addr} {o : HO} (h : H p = none) : Same H (upd H p o) := fun b u e => by
  rw [upd_ne (ne_of_none e h)]; exact e
/-- all but what stands at p is kept -/
def KeepB (p : Addr) (H H' : Hp) : Prop := ∀ b o, b ≠ p → H b = some o → H' b = some o
theorem KeepB.refl (p : Addr) (H : Hp) : KeepB p H H := fun _ _ _ h => h
theorem KeepB.trans {p : Addr} {H H1 H2 : Hp} (a : KeepB p H H1) (b : KeepB p H1 H2) : KeepB p H H2 := fun c o n h => b c o n (a c o n h)
theorem Same.keepB {p : Addr} {H H' : Hp} (s : Same H H') : KeepB p H H' := fun b o _ h => s b o h
theorem KeepB.keepI {p : Addr} {H H' : Hp} {xs : List V} (k : KeepB p H H') (h : H p = some (.lst xs)) : KeepI H H' := fun b o e i => k b o (fun z => by
  rw [z, h] at e; cases e; cases i) e
theorem KeepB.upd {p : Addr} {H : Hp} {o : HO} : KeepB p H (upd H p o) := fun b u n e => by rw [upd_ne n]; exact e

/-! ## trees -/
inductive Tr where
  | cond (ps : List V)
  | neg (t : Tr)
  | row (w : Str) (ts : List Tr)
mutual
def conds : Tr → List (List V)
  | .cond ps => [ps]
  | .neg t => conds t
  | .row _ ts => condsL ts
def condsL : List Tr → List (List V)
  | [] => []
  | t :: r => conds t ++ condsL r
end
def many (t : Tr) : Nat := (conds t).length
theorem condsL_append : ∀ (a b : List Tr), condsL (a ++ b) = condsL a ++ condsL b
  | [], b => rfl
  | t :: r, b => by
    show conds t ++ condsL (r ++ b) = conds t ++ condsL r ++ condsL b
    rw [condsL_append r b, List.append_assoc]
/-- what a search brings into a row of the word w -/
def mem (w : Str) : Tr → List Tr
  | .row v ts => if v = w then ts else [.row v ts]
  | t => [t]
theorem conds_mem (w : Str) (t : Tr) : condsL (mem w t) = conds t := by
  cases t with
  | cond ps => simp [mem, condsL]
  | neg t => simp [mem, condsL]
  | row v ts =>
    show condsL (if v = w then ts else [.row v ts]) = condsL ts
    split
    · rfl
    · simp [condsL, conds]
/-- the words of rows -/
def RowW (w : Str) : Prop := w = "and" ∨ w = "or" ∨ w = "either"
/-- a condition's parts: its word (no row's, not not), and what stands behind; of a shelf a text -/
def GoodC (ps : List V) : Prop := ∃ w as, ps = V.str w :: as ∧ ¬ RowW w ∧ w ≠ "not" ∧ (w = "shelf" → ∃ z, as = [V.str z]) ∧ ps.length ≤ 3
def shelfOf : List V → Option Str
  | [.str w, .str z] => if w = "shelf" then some z else none
  | _ => none
def Names (ns : List Str) (l : List (List V)) : Prop := sortedS ns = true ∧ ns.Nodup ∧ (∀ x, x ∈ ns ↔ x ∈ l.filterMap shelfOf) ∧ ns.length ≤ l.length
def selfF (p c s : Addr) (n : Int) : List (Str × V) := [("parts", .ref p), ("conditions", .ref c), ("shelves", .ref s), ("many", .int n)]
mutual
/-- a Search stands at a, the tree t -/
inductive SA (C : Addr) (H : Hp) : Addr → Tr → Prop
  | mk {a dx p c s : Addr} {t : Tr} {qs : List Addr} {ns : List Str} : H a = some (.ins C dx (selfF p c s (conds t).length)) → PT C H p t → H c = some (.tup (qs.map V.ref)) →
      Paired (fun q ps => H q = some (.tup ps)) qs (conds t) → H s = some (.tup (ns.map V.str)) → Names ns (conds t) → SA C H a t
/-- the tuple of the parts of the tree t at p -/
inductive PT (C : Addr) (H : Hp) : Addr → Tr → Prop
  | cond {p : Addr} {ps : List V} : H p = some (.tup ps) → GoodC ps → PT C H p (.cond ps)
  | neg {p b : Addr} {t : Tr} : H p = some (.tup [.str "not", .ref b]) → SA C H b t → PT C H p (.neg t)
  | row {p : Addr} {w : Str} {bs : List Addr} {ts : List Tr} : H p = some (.tup (.str w :: bs.map V.ref)) → RowW w → 2 ≤ bs.length → SAs C H bs ts → PT C H p (.row w ts)
inductive SAs (C : Addr) (H : Hp) : List Addr → List Tr → Prop
  | nil : SAs C H [] []
  | cons {a : Addr} {as : List Addr} {t : Tr} {ts : List Tr} : SA C H a t → SAs C H as ts → SAs C H (a :: as) (t :: ts)
end
section
variable {C : Addr} {H H' : Hp}
theorem qs_keep (k : KeepI H H') : ∀ {qs : List Addr} {l : List (List V)}, Paired (fun q ps => H q = some (.tup ps)) qs l → Paired (fun q ps => H' q = some (.tup ps)) qs l
  | _, _, .nil => .nil
  | _, _, .cons r t => .cons (k _ _ r rfl) (qs_keep k t)
mutual
theorem SA.keep (k : KeepI H H') : ∀ {a : Addr} {t : Tr}, SA C H a t → SA C H' a t
  | _, _, .mk h1 h2 h3 h4 h5 h6 => .mk (k _ _ h1 rfl) (PT.keep k h2) (k _ _ h3 rfl) (qs_keep k h4) (k _ _ h5 rfl) h6
theorem PT.keep (k : KeepI H H') : ∀ {p : Addr} {t : Tr}, PT C H p t → PT C H' p t
  | _, _, .cond h g => .cond (k _ _ h rfl) g
  | _, _, .neg h s => .neg (k _ _ h rfl) (SA.keep k s)
  | _, _, .row h w z s => .row (k _ _ h rfl) w z (SAs.keep k s)
theorem SAs.keep (k : KeepI H H') : ∀ {as : List Addr} {ts : List Tr}, SAs C H as ts → SAs C H' as ts
  | _, _, .nil => .nil
  | _, _, .cons s r => .cons (SA.keep k s) (SAs.keep k r)
end
theorem SAs.append : ∀ {as bs : List Addr} {ts us : List Tr}, SAs C H as ts → SAs C H bs us → SAs C H (as ++ bs) (ts ++ us)
  | _, _, _, _, .nil, s => s
  | _, _, _, _, .cons a r, s => .cons a (SAs.append r s)
theorem SAs.len : ∀ {as : List Addr} {ts : List Tr}, SAs C H as ts → as.length = ts.length
  | _, _, .nil => rfl
  | _, _, .cons _ r => by rw [List.length_cons, List.length_cons, SAs.len r]
end
/-! ## what an instance holds -/
theorem lk_hit {g : Str} {v : V} {r : List (Str × V)} : List.lookup g ((g, v) :: r) = some v := by simp [List.lookup]
theorem lk_miss {f g : Str} {v : V} {r : List (Str × V)} (h : (f == g) = false) : List.lookup f ((g, v) :: r) = List.lookup f r := by simp [List.lookup, h]
section
variable {p c s : Addr} {n : Int}
theorem sf_parts : (selfF p c s n).lookup ("parts" : Str) = some (.ref p) := lk_hit
theorem sf_conds : (selfF p c s n).lookup ("conditions" : Str) = some (.ref c) := (lk_miss (by decide +kernel)).trans lk_hit
theorem sf_shelves : (selfF p c s n).lookup ("shelves" : Str) = some (.ref s) := (lk_miss (by decide +kernel)).trans ((lk_miss (by decide +kernel)).trans lk_hit)
theorem sf_many : (selfF p c s n).lookup ("many" : Str) = some (.int n) := (lk_miss (by decide +kernel)).trans ((lk_miss (by decide +kernel)).trans ((lk_miss (by decide +kernel)).trans lk_hit))
theorem putF_new {f : Str} {v : V} : ∀ {fs : List (Str × V)}, (∀ g ∈ fs.map (·.1), (g == f) = false) → putF f v fs = fs ++ [(f, v)]
  | [], _ => rfl
  | (g, x) :: r, h => by
    have hg : ¬ g = f := fun e => by
      have q := h g List.mem_cons_self
      rw [e] at q
      simp at q
    show (if g = f then (g, v) :: r else (g, x) :: putF f v r) = _
    rw [if_neg hg, putF_new fun k hk => h k (List.mem_cons_of_mem _ hk)]
    rfl
theorem sf_made : putF "many" (.int n) (putF "shelves" (.ref s) (putF "conditions" (.ref c) (putF "parts" (.ref p) []))) = selfF p c s n := by
  rw [putF_new (f := "parts") (fs := []) (by simp), putF_new (f := "conditions") (by simp; decide +kernel), putF_new (f := "shelves") (by simp; exact ⟨by decide +kernel, by decide +kernel⟩), putF_new (f := "many") (by simp; exact ⟨by decide +kernel, by decide +kernel, by decide +kernel⟩)]
  rfl
end
/-- a def f at level k, reachable as the global nm -/
structure Def (P : Program) (w : World) (K : PySem.W.Frag) (mg : Str → Option Value) (base : Heap) (CX : CXT) (k : Nat) (nm : Str) (ps : List Str) (sp : Sp) : Prop where
  ok : ∃ f fd, mg nm = some (.ref f) ∧ PySem.W.keepIn K (.ref f) = true ∧ Binds K fd ps [] ∧ FnOk P w K mg base CX k f fd ps sp
end WK
/-! WkRead: readings of comprehensions whose elements change nothing. -/
namespace WK
open PySem PySem.Spec PyProof.Rows L2
theorem sz1 {n : Nat} (h : n ≤ 100000) : n ≤ sizeLine := Nat.le_trans h (by decide)
theorem sz2 {n : Nat} (h : n < 100000) : n < sizeLine := Nat.lt_of_lt_of_le h (by decide)
/-- what a comprehension with tests p and elements f has gathered behind i turns -/
def got (p : Nat → Bool) (f : Nat → V) (i : Nat) : List V := ((List.range i).filter p).map f
theorem got_succ (p : Nat → Bool) (f : Nat → V) (i : Nat) : got p f (i + 1) = if p i = true then got p f i ++ [f i] else got p f i := by
  unfold got
  rw [List.range_succ, List.filter_append]
  cases h : p i <;> simp [h]
theorem got_len (p : Nat → Bool) (f : Nat → V) (i : Nat) : (got p f i).length ≤ i := by
  unfold got
  rw [List.length_map]
  exact Nat.le_trans (List.length_filter_le _ _) (by simp)
section
variable {J : It} {n : Nat} {G : Hp → Prop} {Y : Nat → Hp → V → Hp → Prop}
/-- a comprehension over any walk, its elements told one by one; what stood is kept -/
theorem lc_pure (w : Walk J n G Y) (p : Nat → Bool) (f : Nat → V) (xv : Nat → V) {j : Nat} {tt : TT} {te : TE} {vs : List Nat} {σ : L2.St} {H1 : Hp} {D : Addr} {Qd : Hp → Prop} (hn : n < 50000) (hD : H1 D = none)
    (hG : ∀ H, Same H1 H → G H) (hY : ∀ i H x H', i < n → Same H1 H → Y i H x H' → H' = H ∧ x = xv i) (hw : ∀ x, wipe ((wipe σ vs).set j (some x)) vs = wipe σ vs)
    (ht : ∀ i H, i < n → Same H1 H → Evl.EvT tt ((wipe σ vs).set j (some (xv i))) H (p i)) (he : ∀ i H, i < n → Same H1 H → p i = true → Evl.Ev te ((wipe σ vs).set j (some (xv i))) H (f i))
    (hd : ∀ H, Same H1 H → H D = some (.lst (got p f n)) → Qd H) :
    ∃ W : Nat → Nat → Hp → Prop, (∃ m, W 0 m (upd H1 D (.lst []))) ∧ ∀ i m H, W i m H →
      (J.stop i H ∧ Qd H) ∨ (J.go i H ∧ ∃ Nx : Hp → Prop, (∀ H', Nx H' → ∃ m', m' < m ∧ W (i + 1) m' H') ∧ ∀ x H', J.yld i H x H' → gName j x (wipe σ vs) H' fun σ2 H2 => wipe σ2 vs = wipe σ vs ∧ tt σ2 H2 fun b H3 =>
        if b = true then te σ2 H3 fun y H4 => ∃ acc, H4 D = some (.lst acc) ∧ acc.length < sizeLine ∧ Nx (upd H4 D (.lst (acc ++ [y]))) else Nx H3) := by
  have grow : ∀ {H : Hp} {o : HO}, Same H1 H → Same H1 (upd H D o) := fun {H o} s b u e => by
    rw [upd_ne (ne_of_none e hD)]; exact s b u e
  refine lc_it w (fun i H => Same H1 H ∧ H D = some (.lst (got p f i))) ⟨grow (Same.refl H1), upd_same⟩ (fun i H _ q => hG H q.1) (fun i x H H' hi q y => ?_) fun H q => hd H q.1 q.2
  obtain ⟨rfl, rfl⟩ := hY i H x H' hi q.1 y
  refine ⟨hw _, ht i _ hi q.1 _ (Same.refl _) _ fun H3 e3 => ?_⟩
  have s3 : Same H1 H3 := q.1.trans e3
  have d3 : H3 D = some (.lst (got p f i)) := e3 D _ q.2
  cases hp : p i with
  | true =>
    rw [if_pos rfl]
    refine he i H3 hi s3 hp _ (Same.refl _) _ fun H4 e4 => ⟨got p f i, e4 D _ d3, sz2 (by have := got_len p f i; omega), grow (s3.trans e4), ?_⟩
    rw [got_succ, hp, if_pos rfl]
    exact upd_same
  | false =>
    rw [if_neg Bool.false_ne_true]
    refine ⟨s3, ?_⟩
    rw [got_succ, hp, if_neg Bool.false_ne_true]
    exact d3
/-- .. without tests -/
theorem got_all (f : Nat → V) (n : Nat) : got (fun _ => true) f n = (List.range n).map f := by
  unfold got
  rw [List.filter_eq_self.mpr (fun _ _ => rfl)]
theorem range_get {α : Type} (l : List α) (d : α) : (List.range l.length).map (fun i => (l[i]?).getD d) = l := by
  apply List.ext_getElem
  · simp
  · intro i h1 h2
    simp [h2]
theorem ev_yes {σ : L2.St} {H : Hp} : Evl.EvT tYes σ H true := fun H1 _ _ q => q H1 (Same.refl H1)
end
/-- [y for x in xs for y in what x tells], the inner things tuples -/
theorem lc2_flat {K : PySem.W.Frag} {J : It} {n : Nat} {G : Hp → Prop} {Y : Nat → Hp → V → Hp → Prop} (w : Walk J n G Y) (xv : Nat → V) (r : Nat → Addr) (ys : Nat → List V) {j k : Nat} {wi1 : TI} {vs vs1 : List Nat} {σ : L2.St} {H1 : Hp} {D : Addr} {Qd : Hp → Prop}
    (hz : ∀ i, i ≤ n → ((List.range i).map ys).flatten.length < 50000) (hD : H1 D = none) (hG : ∀ H, Same H1 H → G H) (hY : ∀ i H x H', i < n → Same H1 H → Y i H x H' → H' = H ∧ x = xv i)
    (hw : ∀ x, wipe ((wipe σ vs).set j (some x)) vs = wipe σ vs) (hin : ∀ i H R, i < n → Same H1 H → R (Itt K (r i)) H → wi1 ((wipe σ vs).set j (some (xv i))) H R)
    (hr : ∀ i H, i < n → Same H1 H → SqT K H (r i) (ys i))
    (hw1 : ∀ x y, wipe ((wipe ((wipe σ vs).set j (some x)) vs1).set k (some y)) vs1 = wipe ((wipe σ vs).set j (some x)) vs1) (hk : ∀ x y, ((wipe ((wipe σ vs).set j (some x)) vs1).set k (some y))[k]? = some (some y))
    (hd : ∀ H, Same H1 H → H D = some (.lst ((List.range n).map ys).flatten) → Qd H) :
    ∃ W : Nat → Nat → Hp → Prop, (∃ m, W 0 m (upd H1 D (.lst []))) ∧ ∀ i m H, W i m H →
      (J.stop i H ∧ Qd H) ∨ (J.go i H ∧ ∃ Nx : Hp → Prop, (∀ H', Nx H' → ∃ m', m' < m ∧ W (i + 1) m' H') ∧ ∀ x H', J.yld i H x H' → gName j x (wipe σ vs) H' fun σ2 H2 => wipe σ2 vs = wipe σ vs ∧ tYes σ2 H2 fun b H3 =>
        if b = true then wi1 σ2 H3 fun J1 H4 => ∃ W1 : Nat → Nat → Hp → Prop, (∃ m, W1 0 m H4) ∧ ∀ j k' H, W1 j k' H →
          (J1.stop j H ∧ Nx H) ∨ (J1.go j H ∧ ∃ Nx1 : Hp → Prop, (∀ H', Nx1 H' → ∃ k2, k2 < k' ∧ W1 (j + 1) k2 H') ∧ ∀ x H', J1.yld j H x H' → gName k x (wipe σ2 vs1) H' fun σ3 H5 => wipe σ3 vs1 = wipe σ2 vs1 ∧ tYes σ3 H5 fun b H6 =>
            if b = true then tVar k σ3 H6 fun y H7 => ∃ acc, H7 D = some (.lst acc) ∧ acc.length < sizeLine ∧ Nx1 (upd H7 D (.lst (acc ++ [y]))) else Nx1 H6)
        else Nx H3) := by
  have grow : ∀ {H : Hp} {o : HO}, Same H1 H → Same H1 (upd H D o) := fun {H o} s b u e => by
    rw [upd_ne (ne_of_none e hD)]; exact s b u e
  refine ⟨fun i m H => m = n - i ∧ i ≤ n ∧ Same H1 H ∧ H D = some (.lst ((List.range i).map ys).flatten), ⟨n, by simp, Nat.zero_le _, grow (Same.refl H1), upd_same⟩, ?_⟩
  rintro i m H ⟨rfl, hi, s, d⟩
  by_cases hlt : i < n
  · refine .inr ⟨w.goes i H hlt (hG H s), fun H' => Same H1 H' ∧ H' D = some (.lst ((List.range (i + 1)).map ys).flatten), fun H' p => ⟨n - (i + 1), by omega, rfl, hlt, p.1, p.2⟩, fun x H' y => ?_⟩
    obtain ⟨rfl, rfl⟩ := hY i H x H' hlt s (w.yields i H x H' hlt (hG H s) y)
    refine ⟨hw _, ?_⟩
    dsimp only [tYes]
    rw [if_pos rfl]
    refine hin i _ _ hlt s ?_
    have e1 : ((List.range (i + 1)).map ys).flatten = ((List.range i).map ys).flatten ++ ys i := by
      rw [List.range_succ, List.map_append, List.flatten_append]; simp
    have hz1 := hz (i + 1) hlt
    rw [e1, List.length_append] at hz1
    refine ⟨fun j' m H => m = (ys i).length - j' ∧ j' ≤ (ys i).length ∧ Same H1 H ∧ H D = some (.lst (((List.range i).map ys).flatten ++ (ys i).take j')), ⟨(ys i).length, by simp, Nat.zero_le _, s, by rw [List.take_zero, List.append_nil]; exact d⟩, ?_⟩
    rintro j' m' H2 ⟨rfl, hj, s2, d2⟩
    have q2 := hr i H2 hlt s2
    by_cases hjl : j' < (ys i).length
    · refine .inr ⟨⟨ys i, (ys i)[j'], q2, by simp [hjl]⟩, fun H' => Same H1 H' ∧ H' D = some (.lst (((List.range i).map ys).flatten ++ (ys i).take (j' + 1))), fun H' p => ⟨(ys i).length - (j' + 1), by omega, rfl, hjl, p.1, p.2⟩, fun x H' y => ?_⟩
      obtain ⟨rfl, y⟩ := y
      have hx := y (ys i) q2
      refine ⟨hw1 _ _, ?_⟩
      dsimp only [tYes]
      rw [if_pos rfl]
      refine ⟨x, hk _ _, _, d2, sz2 (by rw [List.length_append, List.length_take]; omega), grow s2, ?_⟩
      rw [upd_same, List.append_assoc, List.take_add_one, hx]
      rfl
    · have ej : j' = (ys i).length := by omega
      subst ej
      refine .inl ⟨⟨ys i, q2, Nat.le_refl _⟩, s2, ?_⟩
      rw [List.take_length] at d2
      rw [e1]
      exact d2
  · have e : i = n := by omega
    subst e
    exact .inl ⟨w.stops H (hG H s), hd H s d⟩
end WK
namespace WK
open PySem PySem.Spec PyProof.Rows L2
def top (i : Nat) : Stmt := PySem.Challenge.pw_wishshelves_k08_searches_too_long.main.body.getD i (.Pass ⟨0, 0, 0, 0⟩)
abbrev sIsName : Stmt := top 12
abbrev sIsPath : Stmt := top 13
def letters : Str := "abcdefghijklmnopqrstuvwxyz"
/-- whether a text is a name -/
def nameB (z : Str) : Bool := decide (1 ≤ z.length) && (decide (z.length ≤ 8) && z.cps.toList.all fun c => decide (c ∈ letters.cps.toList))
/-- what is surely no text -/
def NotStr (K : PySem.W.Frag) (H : Hp) (v : V) : Prop := ∃ t, TyX K H v t ∧ PySem.W.kitOne K t (.type "str") = some false
def spIsName (K : PySem.W.Frag) : Sp := fun vs H Q _ => ∃ v, vs = [v] ∧ ((∃ z, v = .str z ∧ z.length ≤ 1000 ∧ ∀ H', Same H H' → Q (.bl (nameB z)) H') ∨ (NotStr K H v ∧ ∀ H', Same H H' → Q (.bl false) H'))
/-- the built-in names that the defs ask are the built-in ones -/
structure Blt (mg : Str → Option Value) : Prop where
  isi : mg "isinstance" = none
  str : mg "str" = none
  len : mg "len" = none
  all : mg "all" = none
/-- the module's constants -/
structure Cst (K : PySem.W.Frag) (mg : Str → Option Value) : Prop where
  letters : ∃ t, mg "LETTERS" = some (.str letters t)
  longest : ∃ t, mg "LONGEST_NAME" = some (.int 8 t)
  lpath : ∃ t, mg "LONGEST_PATH" = some (.int 3 t)
section
variable {P : Program} {w : World} {K : PySem.W.Frag} {mg : Str → Option Value} {base : Heap}
theorem scIsName : FnScope ["value", "sign"] ["value"] (defScope sIsName) := ⟨rfl, rfl, rfl, by decide +kernel, rfl, by decide +kernel, by decide +kernel⟩
theorem ok_isName {f : Addr} {fd : FuncData} (F : Fun K "is_name" "is_name" sIsName f fd) (B : Blt mg) (T : Cst K mg) : FnOk P w K mg base CX0 1 f fd ["value"] (spIsName K) := by
  obtain ⟨tl, hl⟩ := T.letters
  obtain ⟨tn, hn⟩ := T.longest
  refine F.ok scIsName (fun vs H Q E h => ?_) (fun cdv A outer s H vs Q E hr h => ?_)
  · obtain ⟨v, rfl, _⟩ := h
    rfl
  · refine ⟨_, pss_one (ps_ret (pe_and (pe_callB call_isi (by rfl) B.isi (by decide +kernel) (pa_cons (pv 0) (pa_cons (pe_bltn (v := .ty "str") (by rfl) B.str (by decide +kernel) rfl) pa_nil)))
      (pe_and (pe_chain op_le op_le pe_int (pe_callB call_len_str (by rfl) B.len PySem.boot_len (pa_cons (pv 0) pa_nil)) (pe_glob (v := .int 8) rfl hn ⟨_, rfl⟩))
        (pe_one (pe_callB (cr_all rfl) (by rfl) B.all (by decide +kernel) (pa_cons
          (pe_lc (own := [("sign", 1)]) (g := gName 1) (tt := tYes) rfl scIsName.nd (pi_str (pv 0)) (blkOk_by (N := ["value", "sign"]) (sc := defScope sIsName) (by decide +kernel))
            (fun _ _ _ _ _ => pg_name (i := 1) scIsName.nd rfl (Or.inl rfl)) (fun _ _ _ _ _ => pts_nil)
            (fun _ _ _ _ _ => pe_cmpR op_in_sign (pv 1) (pe_glob (v := .str letters) rfl hl ⟨_, rfl⟩) (by with_unfolding_all rfl))) pa_nil)))))), ?_⟩
    obtain ⟨v, rfl, ⟨z, rfl, hz, q⟩ | ⟨⟨t, ty, kt⟩, q⟩⟩ := h
    · refine ⟨_, rfl, .str z, .ty "str", .type "str", .type "str", true, rfl, .ty "str", .base (.str z), rfl, _, rfl, iteT ?_⟩
      refine ⟨_, rfl, z, rfl, sz1 (by omega), 1, (z.length : Int), rfl, rfl, _, rfl, ?_⟩
      unfold nameB at q
      by_cases h1 : (1 : Int) ≤ z.length
      · rw [decide_eq_true h1]
        rw [decide_eq_true (show 1 ≤ z.length by omega)] at q
        refine iteT ⟨(z.length : Int), 8, rfl, rfl, _, rfl, ?_⟩
        by_cases h2 : (z.length : Int) ≤ 8
        · rw [decide_eq_true h2]
          rw [decide_eq_true (show z.length ≤ 8 by omega)] at q
          refine iteT ⟨_, rfl, z, rfl, fun D hD => lc_pure walk_str (fun _ => true) (fun i => V.bl (decide (((z.cps.toList[i]?).getD 0) ∈ letters.cps.toList))) (fun i => V.str ⟨#[(z.cps.toList[i]?).getD 0]⟩)
            (by have e : z.length = z.cps.size := rfl; omega) hD (fun _ _ => trivial) (fun i H x H' hi _ y => ?_) (fun x => rfl) (fun i H _ _ => ev_yes) (fun i H _ _ _ => ?_) fun H' s' hD' => ?_⟩
          · obtain ⟨e, c, hc, rfl⟩ := y
            refine ⟨e, ?_⟩
            rw [Array.getElem?_toList, hc]
            rfl
          · exact fun H1 _ Q k => ⟨_, rfl, _, letters, rfl, rfl, k H1 (Same.refl H1)⟩
          · refine ⟨D, z.cps.toList.map fun c => decide (c ∈ letters.cps.toList), rfl, ?_, ?_⟩
            · rw [got_all] at hD'
              have e : (z.cps.toList.map fun c => decide (c ∈ letters.cps.toList)).map V.bl = (List.range z.cps.size).map fun i => V.bl (decide (((z.cps.toList[i]?).getD 0) ∈ letters.cps.toList)) := by
                rw [List.map_map, ← Array.length_toList]
                conv => lhs; rw [← range_get z.cps.toList 0, List.map_map]
                rfl
              rw [e]
              exact SqL.of hD'
            · have q' := q H' s'
              rw [List.all_map]
              simpa using q'
        · rw [decide_eq_false h2]
          rw [decide_eq_false (show ¬ z.length ≤ 8 by omega)] at q
          exact iteF (q H (Same.refl H))
      · rw [decide_eq_false h1]
        rw [decide_eq_false (show ¬ 1 ≤ z.length by omega)] at q
        exact iteF ⟨_, rfl, iteF (q H (Same.refl H))⟩
    · exact ⟨_, rfl, v, .ty "str", t, .type "str", false, rfl, .ty "str", ty, kt, _, rfl, iteF (q H (Same.refl H))⟩
/-! ### is_path -/
end
theorem split_len {a b y : Str} (h : y ∈ Txt.split a b) : y.length ≤ a.length := by
  have sub : ∀ i j, (Builtin.Str.strSub a i j).length ≤ a.length := fun i j => by
    show (a.cps.extract i j).size ≤ a.cps.size
    simp only [Array.size_extract]
    omega
  unfold Txt.split at h
  split at h
  · rw [List.mem_singleton.mp h]
    exact Nat.le_refl _
  · split at h
    · rw [List.mem_singleton.mp h]
      exact Nat.le_refl _
    · unfold Builtin.Str.partsBetween at h
      obtain ⟨ij, _, rfl⟩ := List.mem_map.mp h
      exact sub _ _
/-- whether a text is a path -/
def pathB (z : Str) : Bool := decide ((Txt.split z "/").length ≤ 3) && (Txt.split z "/").all nameB
def spIsPath (K : PySem.W.Frag) : Sp := fun vs H Q _ => ∃ v, vs = [v] ∧ ((∃ z, v = .str z ∧ z.length ≤ 1000 ∧ ∀ H', Same H H' → Q (.bl (pathB z)) H') ∨ (NotStr K H v ∧ ∀ H', Same H H' → Q (.bl false) H'))
section
variable {P : Program} {w : World} {K : PySem.W.Frag} {mg : Str → Option Value} {base : Heap}
theorem scIsPath : FnScope ["value", "names", "name"] ["value"] (defScope sIsPath) := ⟨rfl, rfl, rfl, by decide +kernel, rfl, by decide +kernel, by decide +kernel⟩
theorem ok_isPath {f fN : Addr} {fd fdN : FuncData} (F : Fun K "is_path" "is_path" sIsPath f fd) (B : Blt mg) (T : Cst K mg) (FN : FnOk P w K mg base CX0 1 fN fdN ["value"] (spIsName K)) (gN : mg "is_name" = some (.ref fN)) (kN : PySem.W.keepIn K (.ref fN) = true)
    (bN : Binds K fdN ["value"] []) : FnOk P w K mg base CX0 2 f fd ["value"] (spIsPath K) := by
  obtain ⟨tp, hp⟩ := T.lpath
  refine F.ok scIsPath (fun vs H Q E h => ?_) (fun cdv A outer s H vs Q E hr h => ?_)
  · obtain ⟨v, rfl, _⟩ := h
    rfl
  · refine ⟨_, pss_cons (ps_if (pt_not (pt_truth (pe_callB call_isi (by rfl) B.isi (by decide +kernel) (pa_cons (pv 0) (pa_cons (pe_bltn (v := .ty "str") (by rfl) B.str (by decide +kernel) rfl) pa_nil))) (fun _ => rfl))) (pss_one (ps_ret pe_bl)) pss_nil)
      (pss_cons (ps_set (i := 1) scIsPath.nd rfl (Or.inl rfl) (pe_split (pv 0) pe_str))
      (pss_one (ps_ret (pe_and (pe_cmpR op_le (pe_callB call_len_seq (by rfl) B.len PySem.boot_len (pa_cons (pv 1) pa_nil)) (pe_glob (v := .int 3) rfl hp ⟨_, rfl⟩) (nomark _))
        (pe_one (pe_callB (cr_all rfl) (by rfl) B.all (by decide +kernel) (pa_cons
          (pe_lc (own := [("name", 2)]) (g := gName 2) (tt := tYes) rfl scIsPath.nd (pi_list (pv 1)) (blkOk_by (N := ["value", "names", "name"]) (sc := defScope sIsPath) (by decide +kernel))
            (fun _ _ _ _ _ => pg_name (i := 2) scIsPath.nd rfl (Or.inl rfl)) (fun _ _ _ _ _ => pts_nil)
            (fun _ _ _ _ _ => pe_call FN hr rfl gN kN bN .nil pass0 (pa_cons (pv 2) pa_nil))) pa_nil))))))), ?_⟩
    obtain ⟨v, rfl, ⟨z, rfl, hz, q⟩ | ⟨⟨t, ty, kt⟩, q⟩⟩ := h
    · refine ⟨_, rfl, .str z, .ty "str", .type "str", .type "str", true, rfl, .ty "str", .base (.str z), rfl, true, rfl, iteF ?_⟩
      refine ⟨_, rfl, ⟨z, rfl⟩, z, "/", rfl, rfl, by decide +kernel, sz1 (by omega), fun L hL => ?_⟩
      have hlen : (Txt.split z "/").length ≤ z.length + 2 := PyProof.Rows.split_le z "/"
      have s1 := same_new (o := .lst ((Txt.split z "/").map V.str)) hL
      refine ⟨_, rfl, L, (Txt.split z "/").map V.str, rfl, .inl (SqL.of upd_same), _, _, rfl, rfl, _, rfl, ?_⟩
      unfold pathB at q
      rw [List.length_map]
      by_cases h1 : ((Txt.split z "/").length : Int) ≤ 3
      · rw [decide_eq_true h1]
        rw [decide_eq_true (show (Txt.split z "/").length ≤ 3 by omega)] at q
        refine iteT ⟨_, rfl, L, rfl, ⟨_, SqL.of upd_same⟩, fun D hD => lc_pure (walk_list (xs := (Txt.split z "/").map V.str)) (fun _ => true) (fun i => V.bl (nameB (((Txt.split z "/")[i]?).getD Str.empty))) (fun i => V.str (((Txt.split z "/")[i]?).getD Str.empty))
          (by rw [List.length_map]; omega) hD (fun H' s' => SqL.of (s' L _ upd_same)) (fun i H' x H2 hi _ y => ?_) (fun x => rfl) (fun i H' _ _ => ev_yes) (fun i H' hi _ _ => ?_) fun H' s' hD' => ?_⟩
        · obtain ⟨e, y⟩ := y
          refine ⟨e, ?_⟩
          rw [List.getElem?_map] at y
          rw [List.length_map] at hi
          rw [List.getElem?_eq_getElem hi] at y ⊢
          exact (Option.some.inj y).symm
        · rw [List.length_map] at hi
          refine fun H1 _ Q k => ⟨_, rfl, _, rfl, .inl ⟨_, rfl, ?_, fun H2 s2 => k H2 s2⟩⟩
          rw [List.getElem?_eq_getElem hi]
          exact Nat.le_trans (split_len (List.getElem_mem hi)) hz
        · refine ⟨D, (Txt.split z "/").map nameB, rfl, ?_, ?_⟩
          · rw [got_all, List.length_map] at hD'
            have e : ((Txt.split z "/").map nameB).map V.bl = (List.range (Txt.split z "/").length).map fun i => V.bl (nameB (((Txt.split z "/")[i]?).getD Str.empty)) := by
              rw [List.map_map]
              conv => lhs; rw [← range_get (Txt.split z "/") Str.empty, List.map_map]
              rfl
            rw [e]
            exact SqL.of hD'
          · have q' := q H' (s1.trans s')
            rw [List.all_map]
            simpa using q'
      · rw [decide_eq_false h1]
        rw [decide_eq_false (show ¬ (Txt.split z "/").length ≤ 3 by omega)] at q
        exact iteF (q _ s1)
    · exact ⟨_, rfl, v, .ty "str", t, .type "str", false, rfl, .ty "str", ty, kt, false, rfl, iteT (q H (Same.refl H))⟩
end
end WK
namespace WK
open PySem PySem.Spec PyProof.Rows L2
abbrev sSearch : Stmt := top 18
abbrev sConds : Stmt := top 29
abbrev sShelves : Stmt := top 30
abbrev sSInit : Stmt := inClass sSearch 0
theorem cut_tail (x : V) (xs : List V) : cutV (x :: xs) (some 1) none = xs := by
  unfold cutV
  rw [show HT.sIx (x :: xs).length 0 (some 1) = 1 from (HT.sIx_nat _ _ 1).trans (by rw [List.length_cons]; omega), HT.sIx_none]
  rw [List.drop_one, List.tail_cons, List.length_cons, Nat.add_sub_cancel, List.take_length]
theorem cut_not {x : V} {xs : List V} : ¬ (HT.sIx (x :: xs).length 0 (some 1) = 0 ∧ HT.sIx (x :: xs).length (x :: xs).length none = (x :: xs).length) := by
  rw [show HT.sIx (x :: xs).length 0 (some 1) = 1 from (HT.sIx_nat _ _ 1).trans (by rw [List.length_cons]; omega)]
  omega
theorem at0 {x : V} {xs : List V} : atI (x :: xs) 0 = some x := by
  unfold atI ixN
  simp
/-- what the text says of the class Search, at C -/
structure SrchT (K : PySem.W.Frag) (mg : Str → Option Value) (C : Addr) : Prop where
  cl : Cls K C
  nP : NoAttr K C "parts"
  nC : NoAttr K C "conditions"
  nS : NoAttr K C "shelves"
  nM : NoAttr K C "many"
  g : mg "Search" = some (.ref C)
structure Blt2 (mg : Str → Option Value) : Prop where
  tuple : mg "tuple" = none
  sorted : mg "sorted" = none
  set : mg "set" = none
structure Cst2 (K : PySem.W.Frag) (mg : Str → Option Value) : Prop where
  rows : ∃ a, mg "ROW_WORDS" = some (.ref a) ∧ ∀ H, SqT K H a [.str "and", .str "or", .str "either"]
theorem in_rows (w : Str) : inV (.str w) [.str "and", .str "or", .str "either"] = true ↔ RowW w := by
  unfold RowW
  simp [inV, eqV]
  constructor
  · rintro (h | h | h) <;> simp [h]
  · rintro (h | h | h) <;> simp [h]
theorem paired_append {A B : Type} {R : A → B → Prop} {as as' : List A} {bs bs' : List B} (h : Paired R as bs) (h' : Paired R as' bs') : Paired R (as ++ as') (bs ++ bs') := by
  induction h with
  | nil => exact h'
  | cons hd _ ih => exact .cons hd ih
/-- the members' own tuples of conditions -/
theorem SAs.tuples {C : Addr} {H : Hp} : ∀ {bs : List Addr} {ts : List Tr}, SAs C H bs ts → ∃ (cs : List Addr) (qss : List (List Addr)), qss.length = bs.length ∧
    (∀ (i : Nat) (b : Addr), bs[i]? = some b → ∃ dx p s n c qs, cs[i]? = some c ∧ qss[i]? = some qs ∧ H b = some (.ins C dx (selfF p c s n)) ∧ H c = some (.tup (qs.map V.ref))) ∧
    Paired (fun q ps => H q = some (.tup ps)) qss.flatten (condsL ts)
  | _, _, .nil => ⟨[], [], rfl, fun i b e => by simp at e, .nil⟩
  | _, _, .cons (a := a) s r => by
    obtain ⟨cs, qss, h1, h2, h3⟩ := SAs.tuples r
    cases s with
    | @mk _ dx p c sh t qs ns g1 g2 g3 g4 g5 g6 =>
      refine ⟨c :: cs, qs :: qss, by simp [h1], fun i b e => ?_, ?_⟩
      · cases i with
        | zero =>
          obtain rfl : a = b := by simpa using e
          exact ⟨dx, p, sh, _, c, qs, rfl, rfl, g1, g3⟩
        | succ i => simpa using h2 i b (by simpa using e)
      · exact paired_append g4 h3
theorem flat_take {qss : List (List Addr)} (i : Nat) : ((List.range i).map fun j => ((qss[j]?).getD []).map V.ref).flatten = ((qss.take i).flatten).map V.ref := by
  induction i with
  | zero => rfl
  | succ i ih =>
    rw [List.range_succ, List.map_append, List.flatten_append, ih, List.take_add_one, List.flatten_append, List.map_append]
    cases h : qss[i]? <;> simp [h]
/-- conditions_of(parts): what is asked, what comes: the tuple of the conditions' own tuples -/
def spConds (C : Addr) : Sp := fun vs H Q _ => ∃ (p : Addr) (l : List (List V)), vs = [.ref p] ∧ l.length ≤ 1000 ∧
  ((∃ ps, l = [ps] ∧ H p = some (.tup ps) ∧ GoodC ps) ∨ (∃ w bs ts, l = condsL ts ∧ H p = some (.tup (.str w :: bs.map V.ref)) ∧ (w = "not" ∨ RowW w) ∧ bs.length ≤ 1000 ∧ SAs C H bs ts)) ∧
  ∀ (c : Addr) (qs : List Addr) (H' : Hp), Same H H' → H' c = some (.tup (qs.map V.ref)) → Paired (fun q ps => H' q = some (.tup ps)) qs l → Q (.ref c) H'
section
variable {P : Program} {w : World} {K : PySem.W.Frag} {mg : Str → Option Value} {base : Heap} {C : Addr}
theorem scConds : FnScope ["parts", "member", "condition"] ["parts"] (defScope sConds) := ⟨rfl, rfl, rfl, by decide +kernel, rfl, by decide +kernel, by decide +kernel⟩
theorem ok_conds {f : Addr} {fd : FuncData} (F : Fun K "conditions_of" "conditions_of" sConds f fd) (B : Blt2 mg) (T : Cst2 K mg) (S : SrchT K mg C) : FnOk P w K mg base CX0 1 f fd ["parts"] (spConds C) := by
  obtain ⟨ar, hg, hrw⟩ := T.rows
  refine F.ok scConds (fun vs H Q E h => ?_) (fun cdv A outer s H vs Q E hr h => ?_)
  · obtain ⟨p, l, rfl, _⟩ := h
    rfl
  · refine ⟨_, pss_cons (ps_if ((pw_and (pt_cmpR op_ne (pe_ix ix_tup (pv 0) pe_int (fun _ _ => rfl)) pe_str (nomark _)) (pw_and1 (pt_cmpR op_notIn_seq (pe_ix ix_tup (pv 0) pe_int (fun _ _ => rfl)) (pe_glob (v := .ref ar) (by rfl) hg rfl) (by with_unfolding_all rfl)))).pt)
        (pss_one (ps_ret (pe_tup (pa_cons (pv 0) pa_nil)))) pss_nil)
      (pss_one (ps_ret (pe_callTy call_tuple_of (by rfl) B.tuple (by decide +kernel) (pa_cons
        (pe_lc2 (wi1 := iTup K (tFld K (tVar 1) "conditions")) (own := [("member", 1), ("condition", 2)]) (vs1 := [2]) (g := gName 1) (g1 := gName 2) (tt := tYes) (tt1 := tYes) rfl scConds.nd (pi_tup (pe_slice sl_tup (pv 0) (po_some pe_int) po_none)) (blkOk_by (N := ["parts", "member", "condition"]) (sc := defScope sConds) (by decide +kernel))
          (by decide) (fun _ _ _ _ _ => pg_name (i := 1) scConds.nd rfl (Or.inl rfl)) (fun _ _ _ _ _ => pts_nil) (fun _ _ _ _ _ => pi_tup (by exact (pe_fld (pv 1) rfl))) (fun _ _ _ _ _ => pg_name (i := 2) scConds.nd rfl (Or.inl rfl)) (fun _ _ _ _ _ => pts_nil)
          (fun _ _ _ _ _ => pv 2)) pa_nil)))), ?_⟩
    obtain ⟨p, l, rfl, hl, hq, k⟩ := h
    rcases hq with ⟨ps, rfl, hp, w, as, rfl, hr1, hr2, _⟩ | ⟨w, bs, ts, rfl, hp, hw, hbl, hs⟩
    · refine ⟨_, rfl, p, _, 0, .str w, rfl, rfl, SqT.of hp, at0, rfl, _, rfl, ?_⟩
      rw [decide_eq_false (show ¬ V.str w = V.str "not" from fun z => hr2 (by injection z))]
      refine iteT ⟨_, rfl, p, _, 0, .str w, rfl, rfl, SqT.of hp, at0, ar, _, rfl, .inr (hrw H), rfl, rfl, _, rfl, ?_⟩
      have e : inV (.str w) [.str "and", .str "or", .str "either"] = false := Bool.eq_false_iff.mpr fun z => hr1 ((in_rows w).mp z)
      rw [e]
      refine iteT ⟨_, rfl, sz1 (by show 1 ≤ 100000; omega), fun c hc => ?_⟩
      exact k c [p] _ (same_new hc) upd_same (.cons (by rw [upd_ne (ne_of_none hp hc)]; exact hp) .nil)
    · have core : tRet (tCB (fun xs H Q => ∃ p ys, xs = [V.ref p] ∧ ((SqL K H p ys ∧ ∀ l, H l = none → Q (.ref l) (upd H l (.tup ys))) ∨ (SqT K H p ys ∧ Q (.ref p) H)))
          (tCons (tLc2 (iTup K (tSl (rSlT K) (tVar 0) (tPart (tC (V.int 1))) tNoPart)) (gName 1) tYes (iTup K (tFld K (tVar 1) "conditions")) (gName 2) tYes (tVar 2) [1, 2] [2]) tNil))
          { nx := fun _ H' => Q V.non H', rt := Q } (L2.start ["parts", "member", "condition"] [V.ref p]) H := by
        obtain ⟨cs, qss, hql, hqs, hpd⟩ := hs.tuples
        refine ⟨_, rfl, 1, rfl, p, _, rfl, SqT.of hp, cut_not, fun m hm => ?_⟩
        rw [cut_tail]
        have s1 := same_new (o := .tup (bs.map V.ref)) hm
        have hflen : qss.flatten.length ≤ 1000 := by rw [hpd.length]; exact hl
        refine ⟨m, rfl, ⟨_, SqT.of upd_same⟩, fun D hD => lc2_flat (K := K) (walk_tup (xs := bs.map V.ref)) (fun i => V.ref ((bs[i]?).getD 0)) (fun i => (cs[i]?).getD 0) (fun i => ((qss[i]?).getD []).map V.ref)
          (fun i _ => ?_) hD (fun H' s' => SqT.of (s' m _ upd_same)) (fun i H' x H2 hi _ y => ?_) (fun x => rfl) (fun i H' R hi s' hR => ?_) (fun i H' hi s' => ?_) (fun x y => rfl) (fun x y => rfl) fun H' s' hD' => ?_⟩
        · rw [flat_take, List.length_map]
          have := List.take_append_drop i qss
          have e := congrArg (fun z => z.flatten.length) this
          simp only [List.flatten_append, List.length_append] at e
          omega
        · obtain ⟨e, y⟩ := y
          refine ⟨e, ?_⟩
          rw [List.getElem?_map] at y
          rw [List.length_map] at hi
          rw [List.getElem?_eq_getElem hi] at y ⊢
          exact (Option.some.inj y).symm
        · rw [List.length_map] at hi
          have hb := List.getElem?_eq_getElem hi
          obtain ⟨dx, pp, sh, n, c, qs, e1, e2, e3, e4⟩ := hqs i _ hb
          rw [e1] at hR
          rw [hb]
          exact ⟨_, rfl, bs[i], C, dx, _, _, rfl, (s1.trans s') _ _ e3, S.cl, S.nC, sf_conds, c, rfl, ⟨_, SqT.of ((s1.trans s') _ _ e4)⟩, hR⟩
        · rw [List.length_map] at hi
          have hb := List.getElem?_eq_getElem hi
          obtain ⟨dx, pp, sh, n, c, qs, e1, e2, e3, e4⟩ := hqs i _ hb
          rw [e1, e2]
          exact SqT.of ((s1.trans s') _ _ e4)
        · rw [flat_take, List.length_map, ← hql, List.take_length] at hD'
          refine ⟨D, _, rfl, .inl ⟨SqL.of hD', fun c hc => ?_⟩⟩
          have s2 := (s1.trans s').trans (same_new (o := .tup (qss.flatten.map V.ref)) hc)
          exact k c qss.flatten _ s2 upd_same (qs_keep (Same.keepI s2) hpd)
      refine ⟨_, rfl, p, _, 0, .str w, rfl, rfl, SqT.of hp, at0, rfl, _, rfl, ?_⟩
      by_cases hn : w = "not"
      · rw [decide_eq_true (show V.str w = V.str "not" from congrArg V.str hn)]
        exact iteF (iteF core)
      · have hw' := hw.resolve_left hn
        rw [decide_eq_false (show ¬ V.str w = V.str "not" from fun z => hn (by injection z))]
        refine iteT ⟨_, rfl, p, _, 0, .str w, rfl, rfl, SqT.of hp, at0, ar, _, rfl, .inr (hrw H), rfl, rfl, _, rfl, ?_⟩
        have e : inV (.str w) [.str "and", .str "or", .str "either"] = true := (in_rows w).mpr hw'
        rw [e]
        exact iteF core
end
end WK
namespace WK
open PySem PySem.Spec PyProof.Rows L2
theorem good_get {ps : List V} (g : GoodC ps) : ∃ w as, ps = V.str w :: as ∧ atI ps 0 = some (.str w) ∧ (w = "shelf" → ∃ z, as = [V.str z] ∧ atI ps 1 = some (.str z) ∧ shelfOf ps = some z) ∧ (w ≠ "shelf" → shelfOf ps = none) := by
  obtain ⟨w, as, rfl, _, _, h, _⟩ := g
  refine ⟨w, as, rfl, at0, fun e => ?_, fun n => ?_⟩
  · obtain ⟨z, rfl⟩ := h e
    refine ⟨z, rfl, rfl, ?_⟩
    show (if w = "shelf" then some z else none) = _
    rw [if_pos e]
  · unfold shelfOf
    split
    · rename_i w' z' e
      cases e
      rw [if_neg n]
    · rfl
/-- the texts that the comprehension gathers are the shelves' names -/
theorem got_names {l : List (List V)} : got (fun i => ((shelfOf ((l[i]?).getD []))).isSome) (fun i => V.str ((shelfOf ((l[i]?).getD [])).getD Str.empty)) l.length = (l.filterMap shelfOf).map V.str := by
  have key : ∀ (k : Nat), k ≤ l.length → got (fun i => ((shelfOf ((l[i]?).getD []))).isSome) (fun i => V.str ((shelfOf ((l[i]?).getD [])).getD Str.empty)) k = ((l.take k).filterMap shelfOf).map V.str := by
    intro k
    induction k with
    | zero => intro _; rfl
    | succ k ih =>
      intro hk
      rw [got_succ, ih (by omega), List.take_add_one, List.filterMap_append, List.map_append, List.getElem?_eq_getElem (by omega)]
      cases e : shelfOf l[k] <;> simp [e]
  rw [key _ (Nat.le_refl _), List.take_length]
/-- shelves_of(conditions) -/
def spShelves : Sp := fun vs H Q _ => ∃ (c : Addr) (qs : List Addr) (l : List (List V)), vs = [.ref c] ∧ H c = some (.tup (qs.map V.ref)) ∧ Paired (fun q ps => H q = some (.tup ps)) qs l ∧ (∀ ps ∈ l, GoodC ps) ∧ l.length ≤ 60 ∧
  ∀ (s : Addr) (ns : List Str) (H' : Hp), Same H H' → H' s = some (.tup (ns.map V.str)) → Names ns l → Q (.ref s) H'
theorem paired_at {A B : Type} {R : A → B → Prop} : ∀ {as : List A} {bs : List B}, Paired R as bs → ∀ {i : Nat}, i < as.length → ∃ a b, as[i]? = some a ∧ bs[i]? = some b ∧ R a b
  | _, _, .nil, _, h => nomatch h
  | _, _, .cons r t, 0, _ => ⟨_, _, rfl, rfl, r⟩
  | _, _, .cons r t, i + 1, h => paired_at t (i := i) (by simpa using h)
section
variable {P : Program} {w : World} {K : PySem.W.Frag} {mg : Str → Option Value} {base : Heap} {C : Addr}
theorem scShelves : FnScope ["conditions", "condition"] ["conditions"] (defScope sShelves) := ⟨rfl, rfl, rfl, by decide +kernel, rfl, by decide +kernel, by decide +kernel⟩
theorem ok_shelves {f : Addr} {fd : FuncData} (F : Fun K "shelves_of" "shelves_of" sShelves f fd) (B : Blt mg) (B2 : Blt2 mg) : FnOk P w K mg base CX0 1 f fd ["conditions"] spShelves := by
  refine F.ok scShelves (fun vs H Q E h => ?_) (fun cdv A outer s H vs Q E hr h => ?_)
  · obtain ⟨c, qs, l, rfl, _⟩ := h
    rfl
  · refine ⟨_, pss_one (ps_ret (pe_callTy call_tuple_of (by rfl) B2.tuple (by decide +kernel) (pa_cons (pe_callB (cr_sortT rfl) (by rfl) B2.sorted (by decide +kernel) (pa_cons
      (pe_callTy (cr_setT rfl) (by rfl) B2.set (by decide +kernel) (pa_cons
        (pe_lc (own := [("condition", 1)]) (g := gName 1) (tt := tTest (tOp rEq (tOp (rIxT K) (tVar 1) (tC (V.int 0))) (tC (V.str "shelf")))) (te := tCB (fun xs H Q => ∃ a, xs = [V.str a] ∧ Q (V.str a) H) (tCons (tOp (rIxT K) (tVar 1) (tC (V.int 1))) tNil)) rfl scShelves.nd (pi_tup (pv 0)) (blkOk_by (N := ["conditions", "condition"]) (sc := defScope sShelves) (by decide +kernel))
          (fun _ _ _ _ _ => pg_name (i := 1) scShelves.nd rfl (Or.inl rfl))
          (fun _ _ _ _ _ => pts_one (by exact pt_cmpR op_eq (pe_ix ix_tup (pv 1) pe_int (fun _ _ => rfl)) pe_str (nomark _)))
          (fun _ _ _ _ _ => by exact pe_callTy SkE.call_str_str (by rfl) B.str (by decide +kernel) (pa_cons (pe_ix ix_tup (pv 1) pe_int (fun _ _ => rfl)) pa_nil))) pa_nil)) pa_nil)) pa_nil))), ?_⟩
    obtain ⟨c, qs, l, rfl, hc, hp, hg, hl, k⟩ := h
    have hlen := hp.length
    have key : ∀ i, i < (qs.map V.ref).length → ∃ q w as, (qs.map V.ref)[i]? = some (V.ref q) ∧ H q = some (.tup (V.str w :: as)) ∧ l[i]? = some (V.str w :: as) ∧ (w = "shelf" → ∃ z, as = [V.str z] ∧ shelfOf (V.str w :: as) = some z) ∧ (w ≠ "shelf" → shelfOf (V.str w :: as) = none) := fun i hi => by
      rw [List.length_map] at hi
      obtain ⟨q, ps, e1, e2, e3⟩ := paired_at hp hi
      obtain ⟨w, as, rfl, _, g1, g2⟩ := good_get (hg ps (List.mem_of_getElem? e2))
      exact ⟨q, w, as, by rw [List.getElem?_map, e1]; rfl, e3, e2, fun e => let ⟨z, h1, _, h2⟩ := g1 e; ⟨z, h1, h2⟩, g2⟩
    refine ⟨_, rfl, c, rfl, ⟨_, SqT.of hc⟩, fun D hD => lc_pure (walk_tup (xs := qs.map V.ref)) (fun i => ((shelfOf ((l[i]?).getD []))).isSome) (fun i => V.str ((shelfOf ((l[i]?).getD [])).getD Str.empty)) (fun i => ((qs.map V.ref)[i]?).getD .non)
      (by rw [List.length_map]; omega) hD (fun H' s' => SqT.of (s' c _ hc)) (fun i H' x H2 hi _ y => ?_) (fun x => rfl) (fun i H' hi s' => ?_) (fun i H' hi s' hp => ?_) fun H' s' hD' => ?_⟩
    · obtain ⟨e, y⟩ := y
      refine ⟨e, ?_⟩
      rw [y]
      rfl
    · obtain ⟨q, w, as, e1, e2, e3, g1, g2⟩ := key i hi
      rw [e1, e3]
      intro H1 s1 Q k
      refine ⟨_, rfl, q, _, 0, .str w, rfl, rfl, SqT.of (s1 _ _ (s' _ _ e2)), at0, rfl, _, rfl, ?_⟩
      by_cases hw : w = "shelf"
      · obtain ⟨z, rfl, e4⟩ := g1 hw
        have k' := k H1 (Same.refl H1)
        rw [Option.getD_some, e4] at k'
        rw [decide_eq_true (show V.str w = V.str "shelf" from congrArg V.str hw)]
        exact k'
      · have e4 := g2 hw
        have k' := k H1 (Same.refl H1)
        rw [Option.getD_some, e4] at k'
        rw [decide_eq_false (show ¬ V.str w = V.str "shelf" from fun z => hw (by injection z))]
        exact k'
    · obtain ⟨q, w, as, e1, e2, e3, g1, g2⟩ := key i hi
      rw [e1, e3]
      rw [e3] at hp
      intro H1 s1 Q k
      by_cases hw : w = "shelf"
      · obtain ⟨z, rfl, e4⟩ := g1 hw
        have k' := k H1 (Same.refl H1)
        rw [Option.getD_some, e4] at k'
        exact ⟨_, rfl, q, _, 1, .str z, rfl, rfl, SqT.of (s1 _ _ (s' _ _ e2)), rfl, z, rfl, k'⟩
      · rw [Option.getD_some, g2 hw] at hp
        cases hp
    · rw [List.length_map, hlen, got_names] at hD'
      have hle : (l.filterMap shelfOf).length ≤ l.length := List.length_filterMap_le _ _
      refine ⟨D, l.filterMap shelfOf, rfl, SqL.of hD', by omega, fun p hp1 => ⟨p, _, rfl, upd_same, by rw [List.length_reverse]; omega, fun ns m h1 h2 h3 h4 hm => ⟨m, _, rfl, .inl ⟨SqL.of upd_same, fun t ht => ?_⟩⟩⟩⟩
      rw [List.length_reverse] at h4
      exact k t ns _ (((s'.trans (same_new hp1)).trans (same_new hm)).trans (same_new ht)) upd_same ⟨h1, h2, fun x => (h3 x).trans List.mem_reverse, by omega⟩
end
end WK
namespace WK
open PySem PySem.Spec PyProof.Rows L2
section
variable {C : Addr} {H : Hp}
mutual
theorem SA.good : ∀ {a : Addr} {t : Tr}, SA C H a t → 1 ≤ (conds t).length ∧ ∀ ps ∈ conds t, GoodC ps
  | _, _, .mk _ h2 _ _ _ _ => PT.good h2
theorem PT.good : ∀ {p : Addr} {t : Tr}, PT C H p t → 1 ≤ (conds t).length ∧ ∀ ps ∈ conds t, GoodC ps
  | _, _, .cond _ g => ⟨Nat.le_refl _, fun ps h => by rw [List.mem_singleton.mp h]; exact g⟩
  | _, _, .neg _ s => by have g := SA.good s; rw [conds]; exact g
  | _, _, .row _ _ z s => ⟨by have := (SAs.good s).1; exact Nat.le_trans (by omega) this, (SAs.good s).2⟩
theorem SAs.good : ∀ {as : List Addr} {ts : List Tr}, SAs C H as ts → as.length ≤ (condsL ts).length ∧ ∀ ps ∈ condsL ts, GoodC ps
  | _, _, .nil => ⟨Nat.le_refl _, fun _ h => nomatch h⟩
  | _, _, .cons s r => ⟨by
      have h1 := (SA.good s).1
      have h2 := (SAs.good r).1
      show _ ≤ (conds _ ++ condsL _).length
      rw [List.length_append, List.length_cons]; omega, fun ps h => (List.mem_append.mp h).elim ((SA.good s).2 ps) ((SAs.good r).2 ps)⟩
end
end
/-- Search.__init__(self, parts) -/
def spSInit (C : Addr) : Sp := fun vs H Q _ => ∃ (p q dx : Addr) (t : Tr) (H0 : Hp), vs = [.ref p, .ref q] ∧ H p = some (.ins C dx []) ∧ H0 p = none ∧ Same H0 H ∧ PT C H0 q t ∧ (conds t).length ≤ 60 ∧
  ∀ H', Same H0 H' → SA C H' p t → Q .non H'
section
variable {P : Program} {w : World} {K : PySem.W.Frag} {mg : Str → Option Value} {base : Heap} {C : Addr}
theorem scSInit : FnScope ["self", "parts"] ["self", "parts"] (defScope sSInit) := ⟨rfl, rfl, rfl, by decide +kernel, rfl, by decide +kernel, by decide +kernel⟩
theorem ok_sinit {f fC fS : Addr} {fd fdC fdS : FuncData} (F : Fun K "__init__" "Search.__init__" sSInit f fd) (B : Blt mg) (S : SrchT K mg C)
    (GC : FnOk P w K mg base CX0 1 fC fdC ["parts"] (spConds C)) (gC : mg "conditions_of" = some (.ref fC)) (kC : PySem.W.keepIn K (.ref fC) = true) (bC : Binds K fdC ["parts"] [])
    (GS : FnOk P w K mg base CX0 1 fS fdS ["conditions"] spShelves) (gS : mg "shelves_of" = some (.ref fS)) (kS : PySem.W.keepIn K (.ref fS) = true) (bS : Binds K fdS ["conditions"] []) :
    FnOk P w K mg base CX0 2 f fd ["self", "parts"] (spSInit C) := by
  refine F.ok scSInit (fun vs H Q E h => ?_) (fun cdv A outer s H vs Q E hr h => ?_)
  · obtain ⟨p, q, dx, t, H0, rfl, _⟩ := h
    rfl
  · refine ⟨_, pss_cons (ps_fld (pv 0) (pv 1) rfl) (pss_cons (ps_fld (pv 0) (pe_call GC hr rfl gC kC bC .nil pass0 (pa_cons (pv 1) pa_nil)) rfl)
      (pss_cons (ps_fld (pv 0) (pe_call GS hr rfl gS kS bS .nil pass0 (pa_cons (pe_fld (pv 0) rfl) pa_nil)) rfl)
      (pss_one (ps_fld (pv 0) (pe_callB call_len_seq (by rfl) B.len PySem.boot_len (pa_cons (pe_fld (pv 0) rfl) pa_nil)) rfl)))), ?_⟩
    obtain ⟨p, q, dx, t, H0, rfl, hp, h0, s0, T, hl, k⟩ := h
    have stay : ∀ {H1 : Hp} {o : HO}, Same H0 H1 → Same H0 (upd H1 p o) := fun {H1 o} z b u e => by
      rw [upd_ne (fun y => by rw [y, h0] at e; cases e)]; exact z b u e
    -- self.parts = parts
    refine ⟨_, rfl, _, rfl, p, C, dx, _, rfl, hp, S.cl, S.nP, by decide, ?_⟩
    have s1 := stay (o := .ins C dx (putF "parts" (.ref q) [])) s0
    -- self.conditions = conditions_of(parts)
    refine ⟨_, rfl, q, conds t, rfl, by omega, ?_, fun c qs H2 s2 hc hqs => ?_⟩
    · have T1 := PT.keep (Same.keepI s1) T
      cases T1 with
      | cond h g => exact .inl ⟨_, rfl, h, g⟩
      | @neg _ b t h s => exact .inr ⟨"not", [b], [t], by simp [conds, condsL], h, .inl rfl, (by show 1 ≤ 1000; decide), .cons s .nil⟩
      | @row _ w bs ts h rw_ z s => exact .inr ⟨w, bs, ts, rfl, h, .inr rw_, by have := (SAs.good s).1; have e : (condsL ts).length ≤ 60 := hl; omega, s⟩
    have hp2 : H2 p = some (.ins C dx (putF "parts" (.ref q) [])) := s2 _ _ upd_same
    have s02 := s1.trans s2
    refine ⟨_, rfl, p, C, dx, _, rfl, hp2, S.cl, S.nC, (by show 1 < 1000; decide), ?_⟩
    have ncp : c ≠ p := fun z => by rw [z, hp2] at hc; cases hc
    have s3 := stay (o := .ins C dx (putF "conditions" (.ref c) (putF "parts" (.ref q) []))) s02
    have hc3 : (upd H2 p (.ins C dx (putF "conditions" (.ref c) (putF "parts" (.ref q) [])))) c = some (.tup (qs.map V.ref)) := by rw [upd_ne ncp]; exact hc
    have hqs3 : ∀ {o : HO}, Paired (fun q ps => (upd H2 p o) q = some (.tup ps)) qs (conds t) := fun {o} => hqs.mono fun a b e => by
      rw [upd_ne (fun z => by rw [z, hp2] at e; cases e)]; exact e
    -- self.shelves = shelves_of(self.conditions)
    refine ⟨_, rfl, p, C, dx, _, .ref c, rfl, upd_same, S.cl, S.nC, by rw [putF_new (f := "parts") (fs := []) (by simp), putF_new (f := "conditions") (by simp; decide +kernel)]; exact (lk_miss (by decide +kernel)).trans lk_hit, ?_⟩
    refine ⟨c, qs, conds t, rfl, hc3, hqs3, (PT.good T).2, hl, fun sh ns H4 s4 hs hn => ?_⟩
    have hp4 := s4 _ _ (upd_same (H := H2) (a := p) (o := .ins C dx (putF "conditions" (.ref c) (putF "parts" (.ref q) []))))
    have s04 := s3.trans s4
    refine ⟨_, rfl, p, C, dx, _, rfl, hp4, S.cl, S.nS, by rw [putF_new (f := "parts") (fs := []) (by simp), putF_new (f := "conditions") (by simp; decide +kernel)]; (show 2 < 1000); decide, ?_⟩
    have nsp : sh ≠ p := fun z => by rw [z, hp4] at hs; cases hs
    have hc5 : H4 c = some (.tup (qs.map V.ref)) := s4 _ _ hc3
    -- self.many = len(self.conditions)
    refine ⟨_, rfl, p, C, dx, _, .ref c, rfl, upd_same, S.cl, S.nC, by rw [putF_new (f := "parts") (fs := []) (by simp), putF_new (f := "conditions") (by simp; decide +kernel), putF_new (f := "shelves") (by simp; exact ⟨by decide +kernel, by decide +kernel⟩)]; exact (lk_miss (by decide +kernel)).trans lk_hit, ?_⟩
    refine ⟨c, qs.map V.ref, rfl, .inr (SqT.of (by rw [upd_ne ncp]; exact hc5)), ?_⟩
    refine ⟨_, rfl, p, C, dx, _, rfl, upd_same, S.cl, S.nM, by rw [putF_new (f := "parts") (fs := []) (by simp), putF_new (f := "conditions") (by simp; decide +kernel), putF_new (f := "shelves") (by simp; exact ⟨by decide +kernel, by decide +kernel⟩)]; (show 3 < 1000); decide, ?_⟩
    have nq : ∀ {b : Addr} {xs : List V}, H4 b = some (.tup xs) → b ≠ p := fun e z => by rw [z, hp4] at e; cases e
    have hqs4 : Paired (fun q ps => H4 q = some (.tup ps)) qs (conds t) := qs_keep (Same.keepI s4) hqs3
    have hql := hqs4.length
    rw [sf_made, upd_upd]
    refine k _ (stay s04) (.mk (by rw [upd_same, List.length_map, hql]) (PT.keep (Same.keepI (stay s04)) T) (by rw [upd_ne ncp]; exact hc5) (hqs4.mono fun a b e => by rw [upd_ne (nq e)]; exact e) (by rw [upd_ne nsp]; exact hs) hn)
end
end WK
namespace WK
open PySem PySem.Spec PyProof.Rows L2
theorem passK {X : Cx} {E : XK} (tk : Takes X (fun cls d _ H => E cls d H)) : Passes (L2.CX X.prog X.w) X E := fun pins σ H s e s' I h => passAt tk σ pins H s e s' I h
abbrev sBWInit : Stmt := inClass (top 4) 0
abbrev sTLInit : Stmt := inClass (top 6) 0
/-- __init__(self, f): self.f = f, of an error -/
def spEI (C : Addr) (f : Str) : Sp := fun vs H Q _ => ∃ (a : Addr) (y : V), vs = [.ref a, y] ∧ H a = some (exo a C none) ∧ ∀ dx, H dx = none → dx ≠ a → Q .non (upd (upd H dx (exd dx [(f, y)])) a (exo a C (some dx)))
/-- what the text says of an error's class -/
structure ErrT (K : PySem.W.Frag) (mg : Str → Option Value) (nm f : Str) (C fI : Addr) : Prop where
  ox : OexC K C
  xf : XfC K C
  exc : ExcC K C
  nf : PySem.W.findIn K (.ref C) f = some none
  i : PySem.W.findIn K (.ref C) "__init__" = some (some (.ref fI))
  ty : PySem.W.typeIn K (.ref fI) = some (.type "function")
  g : mg nm = some (.ref C)
/-- an error of C whose f is y leaves -/
def Xs (C : Addr) (f : Str) (y : V) (H : Hp) (E : XK) : Prop := ∀ d H', Same H H' → H' d = some (.xd [(f, y)]) → E (.ref C) (some d) H'
theorem Xs.mono {C : Addr} {f : Str} {y : V} {H H1 : Hp} {E : XK} (h : Xs C f y H E) (s : Same H H1) : Xs C f y H1 E := fun d H' s' e => h d H' (s.trans s') e
/-- the reading of C(y) from what leaves -/
theorem mk_read {C : Addr} {f : Str} {y : V} {H : Hp} {E : XK} (h : Xs C f y H E) : ∀ (a : Addr), H a = none → spEI C f (V.ref a :: ([y] ++ [])) (upd H a (exo a C none))
    (fun v H2 => v = V.non ∧ ∃ d fs, H2 a = some (exo a C (some d)) ∧ H2 d = some (exd d fs) ∧ H d = none ∧ E (Value.ref C) (some d) (upd (del H2 a) d (HO.xd fs))) (fun _ _ _ => False) := fun a ha => by
  refine ⟨a, y, rfl, upd_same, fun dx hdx hne => ⟨rfl, dx, _, upd_same, by rw [upd_ne hne, upd_same], by rw [upd_ne hne] at hdx; exact hdx, h dx _ (fun b o e => ?_) upd_same⟩⟩
  rw [upd_ne hne] at hdx
  have nb : b ≠ a := ne_of_none e ha
  have nd : b ≠ dx := ne_of_none e hdx
  rw [upd_ne nd]
  show (if b = a then none else _) = _
  rw [if_neg nb, upd_ne nb, upd_ne nd, upd_ne nb]
  exact e
section
variable {P : Program} {w : World} {K : PySem.W.Frag} {mg : Str → Option Value} {base : Heap} {C : Addr}
theorem scBW : FnScope ["self", "value"] ["self", "value"] (defScope sBWInit) := ⟨rfl, rfl, rfl, by decide +kernel, rfl, by decide +kernel, by decide +kernel⟩
theorem scTL : FnScope ["self", "most"] ["self", "most"] (defScope sTLInit) := ⟨rfl, rfl, rfl, by decide +kernel, rfl, by decide +kernel, by decide +kernel⟩
theorem ok_bw {f : Addr} {fd : FuncData} (F : Fun K "__init__" "BadWord.__init__" sBWInit f fd) (ox : OexC K C) (nf : PySem.W.findIn K (.ref C) "value" = some none) : FnOk P w K mg base CX0 1 f fd ["self", "value"] (spEI C "value") := by
  refine F.ok scBW (fun vs H Q E h => ?_) (fun cdv A outer s H vs Q E hr h => ?_)
  · obtain ⟨a, y, rfl, _⟩ := h
    rfl
  · refine ⟨_, pss_one (ps_ost (pv 0) (pv 1)), ?_⟩
    obtain ⟨a, y, rfl, ha, k⟩ := h
    exact ⟨_, rfl, _, rfl, a, C, rfl, ox, nf, .inl ⟨ha, fun dx h1 h2 => k dx h1 h2⟩⟩
theorem ok_tl {f : Addr} {fd : FuncData} (F : Fun K "__init__" "TooLong.__init__" sTLInit f fd) (ox : OexC K C) (nf : PySem.W.findIn K (.ref C) "most" = some none) : FnOk P w K mg base CX0 1 f fd ["self", "most"] (spEI C "most") := by
  refine F.ok scTL (fun vs H Q E h => ?_) (fun cdv A outer s H vs Q E hr h => ?_)
  · obtain ⟨a, y, rfl, _⟩ := h
    rfl
  · refine ⟨_, pss_one (ps_ost (pv 0) (pv 1)), ?_⟩
    obtain ⟨a, y, rfl, ha, k⟩ := h
    exact ⟨_, rfl, _, rfl, a, C, rfl, ox, nf, .inl ⟨ha, fun dx h1 h2 => k dx h1 h2⟩⟩
end
/-- Search(parts), seen from outside: what comes behind a tuple of parts that stands -/
theorem made_read {C : Addr} {H : Hp} {q : Addr} {t : Tr} {Q : VK} {E : XK} (T : PT C H q t) (hl : (conds t).length ≤ 60) (k : ∀ a H', Same H H' → SA C H' a t → Q (.ref a) H') :
    ∀ (x dx : Addr), H x = none → H dx = none → dx ≠ x → spSInit C (V.ref x :: ([V.ref q] ++ [])) (upd (upd H dx (HO.own x)) x (HO.ins C dx [])) (fun v H2 => v = V.non ∧ Q (V.ref x) H2) E := fun x dx hx hdx hne =>
  ⟨x, q, dx, t, H, rfl, upd_same, hx, fun b o e => by rw [upd_ne (ne_of_none e hx), upd_ne (ne_of_none e hdx)]; exact e, T, hl, fun H' s' S => ⟨rfl, k x H' s' S⟩⟩
/-- what makes searches: the class, its __init__, at level 2 -/
structure MkS (P : Program) (w : World) (K : PySem.W.Frag) (mg : Str → Option Value) (base : Heap) (C : Addr) : Prop where
  ok : ∃ fI fd, Mk K C fI ∧ Binds K fd ["self", "parts"] [] ∧ FnOk P w K mg base CX0 2 fI fd ["self", "parts"] (spSInit C)
  g : mg "Search" = some (.ref C)
/-- what raises errors nm(y) -/
structure MkE (P : Program) (w : World) (K : PySem.W.Frag) (mg : Str → Option Value) (base : Heap) (nm f : Str) (C : Addr) : Prop where
  ok : ∃ fI fd ps, ErrT K mg nm f C fI ∧ Binds K fd ps [] ∧ FnOk P w K mg base CX0 1 fI fd ps (spEI C f)
abbrev sFolder : Stmt := top 24
abbrev sNamed : Stmt := top 25
/-- folder_search(word, path), name_search(word, name): bOk tells whether the text will do -/
def spMake (bOk : Str → Bool) (C CB : Addr) : Sp := fun vs H Q E => ∃ (wd z : Str), vs = [.str wd, .str z] ∧ z.length ≤ 1000 ∧ ¬ RowW wd ∧ wd ≠ "not" ∧
  (bOk z = true → ∀ a H', Same H H' → SA C H' a (.cond [.str wd, .str z]) → Q (.ref a) H') ∧ (bOk z = false → Xs CB "value" (.str z) H E)
section
variable {P : Program} {w : World} {K : PySem.W.Frag} {mg : Str → Option Value} {base : Heap} {C CB : Addr}
theorem scNamed : FnScope ["word", "name"] ["word", "name"] (defScope sNamed) := ⟨rfl, rfl, rfl, by decide +kernel, rfl, by decide +kernel, by decide +kernel⟩
theorem scFolder : FnScope ["word", "path"] ["word", "path"] (defScope sFolder) := ⟨rfl, rfl, rfl, by decide +kernel, rfl, by decide +kernel, by decide +kernel⟩
theorem ok_named {f : Addr} {fd : FuncData} (F : Fun K "name_search" "name_search" sNamed f fd) (DN : Def P w K mg base CX0 1 "is_name" ["value"] (spIsName K)) (M : MkS P w K mg base C) (ME : MkE P w K mg base "BadWord" "value" CB) :
    FnOk P w K mg base (L2.CX P w) 4 f fd ["word", "name"] (spMake nameB C CB) := by
  obtain ⟨fN, dN, gN, kN, bN, GN⟩ := DN.ok
  obtain ⟨fI, dI, MK, bI, GI⟩ := M.ok
  obtain ⟨fE, dE, psE, TE, bE, GE⟩ := ME.ok
  refine F.okX scNamed (fun vs H Q E h => ?_) (fun cdv A outer s H vs Q E hr h => ?_)
  · obtain ⟨wd, z, rfl, _⟩ := h
    rfl
  · have tk := takes_of (X := cxOf (L2.CX P w) P w K mg base ["word", "name"] "name_search" (defScope sNamed) f cdv A outer s H E) (E := E) rfl rfl rfl rfl
    refine ⟨_, pss_cons (ps_if (pt_not (pt_truth (pe_call GN (hr.mono (by decide)) rfl gN kN bN .nil pass0 (pa_cons (pv 1) pa_nil)) (fun _ => rfl)))
        (pss_one (ps_raise rfl tk (pmk_oex TE.ox TE.i TE.ty GE (hr.mono (by decide)) bE .nil pass0 rfl TE.g (pa_cons (pv 1) pa_nil)))) pss_nil)
      (pss_one (ps_ret (pe_make MK GI hr rfl M.g bI .nil pass0 (pa_cons (pe_tup (pa_cons (pv 0) (pa_cons (pv 1) pa_nil))) pa_nil)))), ?_⟩
    obtain ⟨wd, z, rfl, hz, h1, h2, kT, kF⟩ := h
    refine ⟨_, rfl, _, rfl, .inl ⟨z, rfl, hz, fun H1 s1 => ⟨nameB z, rfl, ?_⟩⟩⟩
    cases hb : nameB z with
    | false => exact iteT ⟨_, rfl, by show 1 ≤ 1000; decide, mk_read ((kF hb).mono s1)⟩
    | true =>
      refine iteF ⟨_, rfl, _, rfl, (by show 2 ≤ sizeLine; decide), fun q hq => ?_⟩
      exact made_read (.cond upd_same ⟨wd, [.str z], rfl, h1, h2, fun _ => ⟨z, rfl⟩, by show 2 ≤ 3; decide⟩) (by show 1 ≤ 60; decide) fun a H' s' S => kT hb a H' ((s1.trans (same_new hq)).trans s') S
theorem ok_folder {f : Addr} {fd : FuncData} (F : Fun K "folder_search" "folder_search" sFolder f fd) (DN : Def P w K mg base CX0 2 "is_path" ["value"] (spIsPath K)) (M : MkS P w K mg base C) (ME : MkE P w K mg base "BadWord" "value" CB) :
    FnOk P w K mg base (L2.CX P w) 4 f fd ["word", "path"] (spMake pathB C CB) := by
  obtain ⟨fN, dN, gN, kN, bN, GN⟩ := DN.ok
  obtain ⟨fI, dI, MK, bI, GI⟩ := M.ok
  obtain ⟨fE, dE, psE, TE, bE, GE⟩ := ME.ok
  refine F.okX scFolder (fun vs H Q E h => ?_) (fun cdv A outer s H vs Q E hr h => ?_)
  · obtain ⟨wd, z, rfl, _⟩ := h
    rfl
  · have tk := takes_of (X := cxOf (L2.CX P w) P w K mg base ["word", "path"] "folder_search" (defScope sFolder) f cdv A outer s H E) (E := E) rfl rfl rfl rfl
    refine ⟨_, pss_cons (ps_if (pt_not (pt_truth (pe_call GN (hr.mono (by decide)) rfl gN kN bN .nil pass0 (pa_cons (pv 1) pa_nil)) (fun _ => rfl)))
        (pss_one (ps_raise rfl tk (pmk_oex TE.ox TE.i TE.ty GE (hr.mono (by decide)) bE .nil pass0 rfl TE.g (pa_cons (pv 1) pa_nil)))) pss_nil)
      (pss_one (ps_ret (pe_make MK GI hr rfl M.g bI .nil pass0 (pa_cons (pe_tup (pa_cons (pv 0) (pa_cons (pv 1) pa_nil))) pa_nil)))), ?_⟩
    obtain ⟨wd, z, rfl, hz, h1, h2, kT, kF⟩ := h
    refine ⟨_, rfl, _, rfl, .inl ⟨z, rfl, hz, fun H1 s1 => ⟨pathB z, rfl, ?_⟩⟩⟩
    cases hb : pathB z with
    | false => exact iteT ⟨_, rfl, by show 1 ≤ 1000; decide, mk_read ((kF hb).mono s1)⟩
    | true =>
      refine iteF ⟨_, rfl, _, rfl, (by show 2 ≤ sizeLine; decide), fun q hq => ?_⟩
      exact made_read (.cond upd_same ⟨wd, [.str z], rfl, h1, h2, fun _ => ⟨z, rfl⟩, by show 2 ≤ 3; decide⟩) (by show 1 ≤ 60; decide) fun a H' s' S => kT hb a H' ((s1.trans (same_new hq)).trans s') S
end
end WK
namespace WK
open PySem PySem.Spec PyProof.Rows L2
abbrev sAt : Stmt := top 19
abbrev sMarked : Stmt := top 20
abbrev sShelf : Stmt := top 21
abbrev sEvery : Stmt := top 22
abbrev sNothing : Stmt := top 23
abbrev sSearchOf : Stmt := top 26
abbrev sRow : Stmt := top 27
abbrev sMembers : Stmt := top 28
/-- isinstance of searches -/
structure TyS (K : PySem.W.Frag) (C : Addr) : Prop where
  cl : Cls K C
  cC : PySem.W.findIn K (.ref C) "__class__" = some (some (.builtin "object.__class__"))
  sg : PySem.W.specialIn K (.builtin "object.__class__") "__get__" = some (some (.builtin "getset_descriptor.__get__"))
  tk : PySem.W.takesIn K (.builtin "object.__class__") = some true
  mo : PySem.W.mroIn K C (.type "object") = some true
  k1 : PySem.W.kitOne K (.ref C) (.type "str") = some false
  k2 : PySem.W.kitAny K (.ref C) [.ref C, .type "str"] = some true
  k3 : PySem.W.kitAny K (.type "str") [.ref C, .type "str"] = some true
  k4 : PySem.W.kitOne K (.ref C) (.ref C) = some true
theorem TyS.ty {K : PySem.W.Frag} {C a dx : Addr} {fs : List (Str × V)} {H : Hp} (T : TyS K C) (h : H a = some (.ins C dx fs)) : TyX K H (.ref a) (.ref C) := .base (.ins h T.cl T.cC T.sg T.tk T.mo)
theorem SA.ins {C : Addr} {H : Hp} {a : Addr} {t : Tr} (S : SA C H a t) : ∃ dx p c s, H a = some (.ins C dx (selfF p c s (many t))) ∧ PT C H p t := by
  cases S with
  | mk h1 h2 _ _ _ _ => exact ⟨_, _, _, _, h1, h2⟩
/-- a maker of one text: at, marked, shelf -/
def spOne (wd : Str) (bOk : Str → Bool) (C CB : Addr) : Sp := fun vs H Q E => ∃ (z : Str), vs = [.str z] ∧ z.length ≤ 1000 ∧ (bOk z = true → ∀ a H', Same H H' → SA C H' a (.cond [.str wd, .str z]) → Q (.ref a) H') ∧ (bOk z = false → Xs CB "value" (.str z) H E)
/-- everything, nothing -/
def spZero (wd : Str) (C : Addr) : Sp := fun vs H Q _ => vs = [] ∧ ∀ a H', Same H H' → SA C H' a (.cond [.str wd]) → Q (.ref a) H'
/-- search_of(operand) -/
def spSearchOf (C CB : Addr) : Sp := fun vs H Q E => ∃ v, vs = [v] ∧ ((∃ z, v = .str z ∧ z.length ≤ 1000 ∧ (nameB z = true → ∀ a H', Same H H' → SA C H' a (.cond [.str "shelf", .str z]) → Q (.ref a) H') ∧ (nameB z = false → Xs CB "value" (.str z) H E)) ∨
  ∃ a t, v = .ref a ∧ SA C H a t ∧ Q (.ref a) H)
/-- members_for(word, search) -/
def spMembers (C : Addr) : Sp := fun vs H Q _ => ∃ (wd : Str) (a : Addr) (t : Tr), vs = [.str wd, .ref a] ∧ RowW wd ∧ SA C H a t ∧ ∀ m bs H', Same H H' → H' m = some (.tup (bs.map V.ref)) → SAs C H' bs (mem wd t) → 1 ≤ bs.length → Q (.ref m) H'
/-- row_of(word, one, other) -/
def spRow (C CT : Addr) : Sp := fun vs H Q E => ∃ (wd : Str) (a b : Addr) (t u : Tr), vs = [.str wd, .ref a, .ref b] ∧ RowW wd ∧ SA C H a t ∧ SA C H b u ∧ many t ≤ 60 ∧ many u ≤ 60 ∧
  (many t + many u ≤ 16 → ∀ c H', Same H H' → SA C H' c (.row wd (mem wd t ++ mem wd u)) → Q (.ref c) H') ∧ (16 < many t + many u → Xs CT "most" (.int 16) H E)
section
variable {P : Program} {w : World} {K : PySem.W.Frag} {mg : Str → Option Value} {base : Heap} {C CB CT : Addr}
theorem scAt : FnScope ["path"] ["path"] (defScope sAt) := ⟨rfl, rfl, rfl, by decide +kernel, rfl, by decide +kernel, by decide +kernel⟩
theorem scMarked : FnScope ["name"] ["name"] (defScope sMarked) := ⟨rfl, rfl, rfl, by decide +kernel, rfl, by decide +kernel, by decide +kernel⟩
theorem scShelf : FnScope ["name"] ["name"] (defScope sShelf) := ⟨rfl, rfl, rfl, by decide +kernel, rfl, by decide +kernel, by decide +kernel⟩
theorem scEvery : FnScope [] [] (defScope sEvery) := ⟨rfl, rfl, rfl, by decide +kernel, rfl, by decide +kernel, by decide +kernel⟩
theorem scNothing : FnScope [] [] (defScope sNothing) := ⟨rfl, rfl, rfl, by decide +kernel, rfl, by decide +kernel, by decide +kernel⟩
theorem scSearchOf : FnScope ["operand"] ["operand"] (defScope sSearchOf) := ⟨rfl, rfl, rfl, by decide +kernel, rfl, by decide +kernel, by decide +kernel⟩
theorem scMembers : FnScope ["word", "search"] ["word", "search"] (defScope sMembers) := ⟨rfl, rfl, rfl, by decide +kernel, rfl, by decide +kernel, by decide +kernel⟩
theorem scRow : FnScope ["word", "one", "other"] ["word", "one", "other"] (defScope sRow) := ⟨rfl, rfl, rfl, by decide +kernel, rfl, by decide +kernel, by decide +kernel⟩
theorem ok_at {f : Addr} {fd : FuncData} (F : Fun K "at" "at" sAt f fd) (D : Def P w K mg base (L2.CX P w) 4 "folder_search" ["word", "path"] (spMake pathB C CB)) :
    FnOk P w K mg base (L2.CX P w) 5 f fd ["path"] (spOne "at" pathB C CB) := by
  obtain ⟨fN, dN, gN, kN, bN, GN⟩ := D.ok
  refine F.okX scAt (fun vs H Q E h => ?_) (fun cdv A outer s H vs Q E hr h => ?_)
  · obtain ⟨z, rfl, _⟩ := h
    rfl
  · have tk := takes_of (X := cxOf (L2.CX P w) P w K mg base ["path"] "at" (defScope sAt) f cdv A outer s H E) (E := E) rfl rfl rfl rfl
    refine ⟨_, pss_one (ps_ret (pe_call GN hr rfl gN kN bN .nil (passK tk) (pa_cons pe_str (pa_cons (pv 0) pa_nil)))), ?_⟩
    obtain ⟨z, rfl, hz, k1, k2⟩ := h
    exact ⟨_, rfl, "at", z, rfl, hz, by unfold RowW; decide, by decide, k1, k2⟩
theorem ok_marked {f : Addr} {fd : FuncData} (F : Fun K "marked" "marked" sMarked f fd) (D : Def P w K mg base (L2.CX P w) 4 "name_search" ["word", "name"] (spMake nameB C CB)) :
    FnOk P w K mg base (L2.CX P w) 5 f fd ["name"] (spOne "marked" nameB C CB) := by
  obtain ⟨fN, dN, gN, kN, bN, GN⟩ := D.ok
  refine F.okX scMarked (fun vs H Q E h => ?_) (fun cdv A outer s H vs Q E hr h => ?_)
  · obtain ⟨z, rfl, _⟩ := h
    rfl
  · have tk := takes_of (X := cxOf (L2.CX P w) P w K mg base ["name"] "marked" (defScope sMarked) f cdv A outer s H E) (E := E) rfl rfl rfl rfl
    refine ⟨_, pss_one (ps_ret (pe_call GN hr rfl gN kN bN .nil (passK tk) (pa_cons pe_str (pa_cons (pv 0) pa_nil)))), ?_⟩
    obtain ⟨z, rfl, hz, k1, k2⟩ := h
    exact ⟨_, rfl, "marked", z, rfl, hz, by unfold RowW; decide, by decide, k1, k2⟩
theorem ok_shelf {f : Addr} {fd : FuncData} (F : Fun K "shelf" "shelf" sShelf f fd) (D : Def P w K mg base (L2.CX P w) 4 "name_search" ["word", "name"] (spMake nameB C CB)) :
    FnOk P w K mg base (L2.CX P w) 5 f fd ["name"] (spOne "shelf" nameB C CB) := by
  obtain ⟨fN, dN, gN, kN, bN, GN⟩ := D.ok
  refine F.okX scShelf (fun vs H Q E h => ?_) (fun cdv A outer s H vs Q E hr h => ?_)
  · obtain ⟨z, rfl, _⟩ := h
    rfl
  · have tk := takes_of (X := cxOf (L2.CX P w) P w K mg base ["name"] "shelf" (defScope sShelf) f cdv A outer s H E) (E := E) rfl rfl rfl rfl
    refine ⟨_, pss_one (ps_ret (pe_call GN hr rfl gN kN bN .nil (passK tk) (pa_cons pe_str (pa_cons (pv 0) pa_nil)))), ?_⟩
    obtain ⟨z, rfl, hz, k1, k2⟩ := h
    exact ⟨_, rfl, "shelf", z, rfl, hz, by unfold RowW; decide, by decide, k1, k2⟩
theorem ok_every {f : Addr} {fd : FuncData} (F : Fun K "everything" "everything" sEvery f fd) (M : MkS P w K mg base C) : FnOk P w K mg base CX0 4 f fd [] (spZero "everything" C) := by
  obtain ⟨fI, dI, MK, bI, GI⟩ := M.ok
  refine F.ok scEvery (fun vs H Q E h => ?_) (fun cdv A outer s H vs Q E hr h => ?_)
  · obtain ⟨rfl, _⟩ := h
    rfl
  · refine ⟨_, pss_one (ps_ret (pe_make MK GI hr rfl M.g bI .nil pass0 (pa_cons (pe_tup (pa_cons pe_str pa_nil)) pa_nil))), ?_⟩
    obtain ⟨rfl, k⟩ := h
    exact ⟨(by show 1 ≤ sizeLine; decide), fun q hq => made_read (.cond upd_same ⟨"everything", [], rfl, by unfold RowW; decide, by decide, fun z => absurd z (by decide), by show 1 ≤ 3; decide⟩) (by show 1 ≤ 60; decide) fun a H' s' S => k a H' ((same_new hq).trans s') S⟩
theorem ok_nothing {f : Addr} {fd : FuncData} (F : Fun K "nothing" "nothing" sNothing f fd) (M : MkS P w K mg base C) : FnOk P w K mg base CX0 4 f fd [] (spZero "nothing" C) := by
  obtain ⟨fI, dI, MK, bI, GI⟩ := M.ok
  refine F.ok scNothing (fun vs H Q E h => ?_) (fun cdv A outer s H vs Q E hr h => ?_)
  · obtain ⟨rfl, _⟩ := h
    rfl
  · refine ⟨_, pss_one (ps_ret (pe_make MK GI hr rfl M.g bI .nil pass0 (pa_cons (pe_tup (pa_cons pe_str pa_nil)) pa_nil))), ?_⟩
    obtain ⟨rfl, k⟩ := h
    exact ⟨(by show 1 ≤ sizeLine; decide), fun q hq => made_read (.cond upd_same ⟨"nothing", [], rfl, by unfold RowW; decide, by decide, fun z => absurd z (by decide), by show 1 ≤ 3; decide⟩) (by show 1 ≤ 60; decide) fun a H' s' S => k a H' ((same_new hq).trans s') S⟩
theorem ok_searchOf {f : Addr} {fd : FuncData} (F : Fun K "search_of" "search_of" sSearchOf f fd) (B : Blt mg) (T : TyS K C) (D : Def P w K mg base (L2.CX P w) 5 "shelf" ["name"] (spOne "shelf" nameB C CB)) :
    FnOk P w K mg base (L2.CX P w) 6 f fd ["operand"] (spSearchOf C CB) := by
  obtain ⟨fN, dN, gN, kN, bN, GN⟩ := D.ok
  refine F.okX scSearchOf (fun vs H Q E h => ?_) (fun cdv A outer s H vs Q E hr h => ?_)
  · obtain ⟨z, rfl, _⟩ := h
    rfl
  · have tk := takes_of (X := cxOf (L2.CX P w) P w K mg base ["operand"] "search_of" (defScope sSearchOf) f cdv A outer s H E) (E := E) rfl rfl rfl rfl
    refine ⟨_, pss_one (ps_ret (pe_ifExp (pt_truth (pe_callB call_isi (by rfl) B.isi (by decide +kernel) (pa_cons (pv 0) (pa_cons (pe_bltn (v := .ty "str") (by rfl) B.str (by decide +kernel) rfl) pa_nil))) (fun _ => rfl))
      (pe_call GN hr rfl gN kN bN .nil (passK tk) (pa_cons (pv 0) pa_nil)) (pv 0))), ?_⟩
    obtain ⟨v, rfl, ⟨z, rfl, hz, k1, k2⟩ | ⟨a, t, rfl, S, k⟩⟩ := h
    · exact ⟨_, rfl, .str z, .ty "str", .type "str", .type "str", true, rfl, .ty "str", .base (.str z), rfl, true, rfl, iteT ⟨_, rfl, z, rfl, hz, k1, k2⟩⟩
    · obtain ⟨dx, p, c, s, h1, _⟩ := S.ins
      exact ⟨_, rfl, .ref a, .ty "str", .ref C, .type "str", false, rfl, .ty "str", T.ty h1, T.k1, false, rfl, iteF ⟨_, rfl, k⟩⟩
theorem ok_members {f : Addr} {fd : FuncData} (F : Fun K "members_for" "members_for" sMembers f fd) (S : SrchT K mg C) : FnOk P w K mg base CX0 1 f fd ["word", "search"] (spMembers C) := by
  refine F.ok scMembers (fun vs H Q E h => ?_) (fun cdv A outer s H vs Q E hr h => ?_)
  · obtain ⟨wd, a, t, rfl, _⟩ := h
    rfl
  · refine ⟨_, pss_one (ps_ret (pe_ifExp (pt_cmpR op_eq (pe_ix ix_tup (pe_fld (pv 1) rfl) pe_int (fun _ _ => rfl)) (pv 0) (nomark _))
      (pe_slice sl_tup (pe_fld (pv 1) rfl) (po_some pe_int) po_none) (pe_tup (pa_cons (pv 1) pa_nil)))), ?_⟩
    obtain ⟨wd, a, t, rfl, hw, A, k⟩ := h
    obtain ⟨dx, p, c, sh, h1, T⟩ := A.ins
    have alone : ∀ (hm : mem wd t = [t]), tRet (tTup (tCons (tVar 1) tNil)) { nx := fun _ H' => Q V.non H', rt := Q } (L2.start ["word", "search"] [V.str wd, V.ref a]) H := fun hm =>
      ⟨_, rfl, (by show 1 ≤ sizeLine; decide), fun m hm1 => k m [a] _ (same_new hm1) upd_same (by rw [hm]; exact .cons (A.keep (Same.keepI (same_new hm1))) .nil) (Nat.le_refl _)⟩
    have base : ∀ {x : Str} {xs : List V}, H p = some (.tup (.str x :: xs)) → (x ≠ wd → mem wd t = [t]) → (x = wd → ∃ bs : List Addr, xs = bs.map V.ref ∧ SAs C H bs (mem wd t) ∧ 2 ≤ bs.length) →
        tRet (tIf (tTest (tOp rEq (tOp (rIxT K) (tFld K (tVar 1) "parts") (tC (V.int 0))) (tVar 0))) (tSl (rSlT K) (tFld K (tVar 1) "parts") (tPart (tC (V.int 1))) tNoPart) (tTup (tCons (tVar 1) tNil))) { nx := fun _ H' => Q V.non H', rt := Q } (L2.start ["word", "search"] [V.str wd, V.ref a]) H := fun {x xs} hp hn he => by
      refine ⟨_, rfl, a, C, dx, _, _, rfl, h1, S.cl, S.nP, sf_parts, p, _, 0, _, rfl, rfl, SqT.of hp, at0, _, rfl, rfl, _, rfl, ?_⟩
      by_cases e : x = wd
      · rw [decide_eq_true (show V.str x = V.str wd from congrArg V.str e)]
        obtain ⟨bs, rfl, Ss, h2⟩ := he e
        refine iteT ⟨_, rfl, a, C, dx, _, _, rfl, h1, S.cl, S.nP, sf_parts, 1, rfl, p, _, rfl, SqT.of hp, cut_not, fun m hm => ?_⟩
        rw [cut_tail]
        exact k m bs _ (same_new hm) upd_same (Ss.keep (Same.keepI (same_new hm))) (by omega)
      · rw [decide_eq_false (show ¬ V.str x = V.str wd from fun z => e (by injection z))]
        exact iteF (alone (hn e))
    cases T with
    | cond h g =>
      obtain ⟨x, as, rfl, g1, _⟩ := g
      exact base h (fun _ => rfl) (fun e => absurd (e ▸ hw) g1)
    | neg h s' => exact base h (fun _ => rfl) (fun e => absurd (e ▸ hw) (by unfold RowW; decide))
    | @row _ x bs ts h r z s' => exact base h (fun n => if_neg n) (fun e => ⟨bs, rfl, by rw [show mem wd (.row x ts) = ts from if_pos e]; exact s', z⟩)
end
end WK
namespace WK
open PySem PySem.Spec PyProof.Rows L2
structure Cst3 (mg : Str → Option Value) : Prop where
  most : ∃ t, mg "MOST_CONDITIONS" = some (.int 16 t)
section
variable {P : Program} {w : World} {K : PySem.W.Frag} {mg : Str → Option Value} {base : Heap} {C CB CT : Addr}
theorem ok_row {f : Addr} {fd : FuncData} (F : Fun K "row_of" "row_of" sRow f fd) (S : SrchT K mg C) (T : Cst3 mg) (D : Def P w K mg base CX0 1 "members_for" ["word", "search"] (spMembers C)) (M : MkS P w K mg base C) (ME : MkE P w K mg base "TooLong" "most" CT) :
    FnOk P w K mg base (L2.CX P w) 4 f fd ["word", "one", "other"] (spRow C CT) := by
  obtain ⟨fN, dN, gN, kN, bN, GN⟩ := D.ok
  obtain ⟨fI, dI, MK, bI, GI⟩ := M.ok
  obtain ⟨fE, dE, psE, TE, bE, GE⟩ := ME.ok
  obtain ⟨tm, hm⟩ := T.most
  refine F.okX scRow (fun vs H Q E h => ?_) (fun cdv A outer s H vs Q E hr h => ?_)
  · obtain ⟨wd, a, b, t, u, rfl, _⟩ := h
    rfl
  · have tk := takes_of (X := cxOf (L2.CX P w) P w K mg base ["word", "one", "other"] "row_of" (defScope sRow) f cdv A outer s H E) (E := E) rfl rfl rfl rfl
    refine ⟨_, pss_cons (ps_if (pt_cmpR op_gt (pe_op op_add (pe_fld (pv 1) rfl) (pe_fld (pv 2) rfl)) (pe_glob (v := .int 16) (by rfl) hm ⟨_, rfl⟩) (nomark _))
        (pss_one (ps_raise rfl tk (pmk_oex TE.ox TE.i TE.ty GE (hr.mono (by decide)) bE .nil pass0 rfl TE.g (pa_cons (pe_glob (v := .int 16) (by rfl) hm ⟨_, rfl⟩) pa_nil)))) pss_nil)
      (pss_one (ps_ret (pe_make MK GI hr rfl M.g bI .nil pass0 (pa_cons (pe_op op_catT (pe_op op_catT (pe_tup (pa_cons (pv 0) pa_nil)) (pe_call GN (hr.mono (by decide)) rfl gN kN bN .nil pass0 (pa_cons (pv 0) (pa_cons (pv 1) pa_nil))))
        (pe_call GN (hr.mono (by decide)) rfl gN kN bN .nil pass0 (pa_cons (pv 0) (pa_cons (pv 2) pa_nil)))) pa_nil)))), ?_⟩
    obtain ⟨wd, a, b, t, u, rfl, hw, A, B, lt, lu, k1, k2⟩ := h
    obtain ⟨dx, p, c, sh, ha, _⟩ := A.ins
    obtain ⟨dy, p', c', sh', hb, _⟩ := B.ins
    refine ⟨_, rfl, a, C, dx, _, _, rfl, ha, S.cl, S.nM, sf_many, _, rfl, b, C, dy, _, _, rfl, hb, S.cl, S.nM, sf_many, _, _, rfl, rfl, _, _, rfl, rfl, _, rfl, ?_⟩
    by_cases hg : (16 : Int) < (many t : Int) + (many u : Int)
    · rw [decide_eq_true hg]
      exact iteT ⟨by show 1 ≤ 1000; decide, mk_read (k2 (by omega))⟩
    · rw [decide_eq_false hg]
      have k1' := k1 (by omega)
      refine iteF ⟨_, rfl, (by show 1 ≤ sizeLine; decide), fun q hq => ?_⟩
      have s1 := same_new (o := .tup [V.str wd]) hq
      refine ⟨_, rfl, _, rfl, wd, a, t, rfl, hw, A.keep (Same.keepI s1), fun m bs H2 s2 hm2 Ss h1 => ?_⟩
      have hl1 := Ss.good.1
      rw [conds_mem] at hl1
      have hl1' : bs.length ≤ 60 := Nat.le_trans hl1 lt
      have e2 : H2 q = some (.tup [V.str wd]) := s2 _ _ upd_same
      refine ⟨q, m, _, _, rfl, rfl, SqT.of e2, SqT.of hm2, (by simp), sz1 (by rw [List.length_map]; show 1 + bs.length ≤ 100000; omega), fun z => absurd (congrArg List.length z) (by rw [List.length_map]; show ¬ bs.length = 0; omega), fun _ r hr1 => ?_⟩
      have s3 := same_new (o := .tup ([V.str wd] ++ bs.map V.ref)) hr1
      refine ⟨_, rfl, _, rfl, wd, b, u, rfl, hw, B.keep (Same.keepI ((s1.trans s2).trans s3)), fun m2 bs2 H4 s4 hm4 Ss2 h2 => ?_⟩
      have hl2 := Ss2.good.1
      rw [conds_mem] at hl2
      have hl2' : bs2.length ≤ 60 := Nat.le_trans hl2 lu
      have e4 : H4 r = some (.tup ([V.str wd] ++ bs.map V.ref)) := s4 _ _ upd_same
      refine ⟨r, m2, _, _, rfl, rfl, SqT.of e4, SqT.of hm4, (by simp), sz1 (by rw [List.length_append, List.length_map, List.length_map]; show 1 + bs.length + bs2.length ≤ 100000; omega), fun z => absurd (congrArg List.length z) (by rw [List.length_map]; show ¬ bs2.length = 0; omega), fun _ n hn => ?_⟩
      have s5 := same_new (o := .tup ([V.str wd] ++ bs.map V.ref ++ bs2.map V.ref)) hn
      have s345 := (s3.trans s4).trans s5
      have e5 : ([V.str wd] ++ bs.map V.ref ++ bs2.map V.ref) = V.str wd :: (bs ++ bs2).map V.ref := by rw [List.map_append]; rfl
      have lc : (conds (.row wd (mem wd t ++ mem wd u))).length ≤ 60 := by
        rw [conds, condsL_append, conds_mem, conds_mem, List.length_append]
        show many t + many u ≤ 60
        omega
      refine made_read (.row (bs := bs ++ bs2) (by rw [upd_same, e5]) hw (by rw [List.length_append]; omega) (SAs.append (Ss.keep (Same.keepI s345)) (Ss2.keep (Same.keepI s5)))) lc fun x H' s' Z => k1' x H' ((((s1.trans s2).trans s345).trans s')) Z
end
end WK
namespace WK
open PySem PySem.Spec PyProof.Rows L2
/-- what ~ makes of a search -/
def inv : Tr → Tr
  | .neg t => t
  | t => .neg t
theorem conds_inv (t : Tr) : conds (inv t) = conds t := by
  cases t <;> simp [inv, conds]
theorem many_inv (t : Tr) : many (inv t) = many t := by unfold many; rw [conds_inv]
/-- ~self -/
def spInv (C : Addr) : Sp := fun vs H Q _ => ∃ (a : Addr) (t : Tr), vs = [.ref a] ∧ SA C H a t ∧ many t ≤ 60 ∧ ∀ b H', Same H H' → SA C H' b (inv t) → Q (.ref b) H'
/-- what a row of two trees comes to -/
def RowQ (C CT : Addr) (wd : Str) (t u : Tr) (H : Hp) (Q : VK) (E : XK) : Prop :=
  (many t + many u ≤ 16 → ∀ c H', Same H H' → SA C H' c (.row wd (mem wd t ++ mem wd u)) → Q (.ref c) H') ∧ (16 < many t + many u → Xs CT "most" (.int 16) H E)
theorem RowQ.mono {C CT : Addr} {wd : Str} {t u : Tr} {H H1 : Hp} {Q : VK} {E : XK} (h : RowQ C CT wd t u H Q E) (s : Same H H1) : RowQ C CT wd t u H1 Q E :=
  ⟨fun l c H' s' S => h.1 l c H' (s.trans s') S, fun l => (h.2 l).mono s⟩
def shelfT (z : Str) : Tr := .cond [.str "shelf", .str z]
theorem shelf_le (z : Str) : many (shelfT z) ≤ 60 := by show 1 ≤ 60; decide
theorem shelf_le' (z : Str) : many (inv (shelfT z)) ≤ 60 := by rw [many_inv]; exact shelf_le z
/-- self op other -/
def spBin (wd : Str) (g : Tr → Tr) (C CB CT : Addr) : Sp := fun vs H Q E => ∃ (a : Addr) (t : Tr) (v : V), vs = [.ref a, v] ∧ SA C H a t ∧ many t ≤ 60 ∧
  ((∃ b u, v = .ref b ∧ SA C H b u ∧ many u ≤ 60 ∧ RowQ C CT wd t (g u) H Q E) ∨
   ∃ z, v = .str z ∧ z.length ≤ 1000 ∧ (nameB z = true → RowQ C CT wd t (g (shelfT z)) H Q E) ∧ (nameB z = false → Xs CB "value" (.str z) H E))
/-- text op self -/
def spRBin (wd : Str) (g : Tr → Tr) (C CB CT : Addr) : Sp := fun vs H Q E => ∃ (a : Addr) (t : Tr) (z : Str), vs = [.ref a, .str z] ∧ SA C H a t ∧ many t ≤ 60 ∧ z.length ≤ 1000 ∧
  (nameB z = true → RowQ C CT wd (shelfT z) (g t) H Q E) ∧ (nameB z = false → Xs CB "value" (.str z) H E)
structure InvS (P : Program) (w : World) (K : PySem.W.Frag) (mg : Str → Option Value) (base : Heap) (C : Addr) : Prop where
  ok : ∃ f fd, PySem.W.findIn K (.ref C) "__invert__" = some (some (.ref f)) ∧ PySem.W.isFn K (.ref f) = true ∧ Binds K fd ["self"] [] ∧ FnOk P w K mg base CX0 4 f fd ["self"] (spInv C)
abbrev sInvert : Stmt := inClass sSearch 10
section
variable {P : Program} {w : World} {K : PySem.W.Frag} {mg : Str → Option Value} {base : Heap} {C CB CT : Addr}
theorem scInvert : FnScope ["self"] ["self"] (defScope sInvert) := ⟨rfl, rfl, rfl, by decide +kernel, rfl, by decide +kernel, by decide +kernel⟩
theorem ok_invert {f : Addr} {fd : FuncData} (F : Fun K "__invert__" "Search.__invert__" sInvert f fd) (S : SrchT K mg C) (M : MkS P w K mg base C) : FnOk P w K mg base CX0 4 f fd ["self"] (spInv C) := by
  obtain ⟨fI, dI, MK, bI, GI⟩ := M.ok
  refine F.ok scInvert (fun vs H Q E h => ?_) (fun cdv A outer s H vs Q E hr h => ?_)
  · obtain ⟨a, t, rfl, _⟩ := h
    rfl
  · refine ⟨_, pss_cons (ps_if (pt_cmpR op_eq (pe_ix ix_tup (pe_fld (pv 0) rfl) pe_int (fun _ _ => rfl)) pe_str (nomark _)) (pss_one (ps_ret (pe_ix ix_tup (pe_fld (pv 0) rfl) pe_int (fun _ _ => rfl)))) pss_nil)
      (pss_one (ps_ret (pe_make MK GI hr rfl M.g bI .nil pass0 (pa_cons (pe_tup (pa_cons pe_str (pa_cons (pv 0) pa_nil))) pa_nil)))), ?_⟩
    obtain ⟨a, t, rfl, A, lt, k⟩ := h
    obtain ⟨dx, p, c, sh, ha, T⟩ := A.ins
    have core : ∀ {x : Str} {xs : List V}, H p = some (.tup (.str x :: xs)) → (x = "not" → ∃ b u, xs = [V.ref b] ∧ SA C H b u ∧ inv t = u) → (x ≠ "not" → inv t = .neg t) →
        tSeq (tIfS (tTest (tOp rEq (tOp (rIxT K) (tFld K (tVar 0) "parts") (tC (V.int 0))) (tC (V.str "not")))) (tRet (tOp (rIxT K) (tFld K (tVar 0) "parts") (tC (V.int 1)))) tNext)
          (tRet (tMake C (spSInit C) [] E0 (tCons (tTup (tCons (tC (V.str "not")) (tCons (tVar 0) tNil))) tNil))) { nx := fun _ H' => Q V.non H', rt := Q } (L2.start ["self"] [V.ref a]) H := fun {x xs} hp he hn => by
      refine ⟨_, rfl, a, C, dx, _, _, rfl, ha, S.cl, S.nP, sf_parts, p, _, 0, _, rfl, rfl, SqT.of hp, at0, rfl, _, rfl, ?_⟩
      by_cases e : x = "not"
      · rw [decide_eq_true (show V.str x = V.str "not" from congrArg V.str e)]
        obtain ⟨b, u, rfl, B, ei⟩ := he e
        refine iteT ⟨_, rfl, a, C, dx, _, _, rfl, ha, S.cl, S.nP, sf_parts, p, _, 1, .ref b, rfl, rfl, SqT.of hp, rfl, k b H (Same.refl H) (by rw [ei]; exact B)⟩
      · rw [decide_eq_false (show ¬ V.str x = V.str "not" from fun z => e (by injection z))]
        refine iteF ⟨_, rfl, (by show 2 ≤ sizeLine; decide), fun q hq => made_read (.neg upd_same (A.keep (Same.keepI (same_new hq)))) (by rw [conds]; exact lt) fun b H' s' Z => k b H' ((same_new hq).trans s') (by rw [hn e]; exact Z)⟩
    cases T with
    | cond h g =>
      obtain ⟨x, as, rfl, _, g2, _⟩ := g
      exact core h (fun e => absurd e g2) (fun _ => rfl)
    | @neg _ b t h s' => exact core h (fun _ => ⟨b, t, rfl, s', rfl⟩) (fun e => absurd rfl e)
    | @row _ x bs ts h r z s' => exact core h (fun e => absurd (e ▸ r) (by unfold RowW; decide)) (fun _ => rfl)
end
structure Rows (P : Program) (w : World) (K : PySem.W.Frag) (mg : Str → Option Value) (base : Heap) (C CB CT : Addr) : Prop where
  row : Def P w K mg base (L2.CX P w) 4 "row_of" ["word", "one", "other"] (spRow C CT)
  of_ : Def P w K mg base (L2.CX P w) 6 "search_of" ["operand"] (spSearchOf C CB)
  shelf : Def P w K mg base (L2.CX P w) 5 "shelf" ["name"] (spOne "shelf" nameB C CB)
section
variable {P : Program} {w : World} {K : PySem.W.Frag} {mg : Str → Option Value} {base : Heap} {C CB CT : Addr}
abbrev sAnd : Stmt := inClass sSearch 2
theorem scAnd : FnScope ["self", "other"] ["self", "other"] (defScope sAnd) := ⟨rfl, rfl, rfl, by decide +kernel, rfl, by decide +kernel, by decide +kernel⟩
theorem ok_And {f : Addr} {fd : FuncData} (F : Fun K "__and__" "Search.__and__" sAnd f fd) (B : Blt mg) (gS : mg "Search" = some (.ref C)) (T : TyS K C) (R : Rows P w K mg base C CB CT) : FnOk P w K mg base (L2.CX P w) 7 f fd ["self", "other"] (spBin "and" id C CB CT) := by
  obtain ⟨fR, dR, gR, kR, bR, GR⟩ := R.row.ok
  obtain ⟨fO, dO, gO, kO, bO, GO⟩ := R.of_.ok
  refine F.okX scAnd (fun vs H Q E h => ?_) (fun cdv A outer s H vs Q E hr h => ?_)
  · obtain ⟨a, t, v, rfl, _⟩ := h
    rfl
  · have tk := takes_of (X := cxOf (L2.CX P w) P w K mg base ["self", "other"] "Search.__and__" (defScope sAnd) f cdv A outer s H E) (E := E) rfl rfl rfl rfl
    refine ⟨_, pss_cons (ps_if (pt_not (pt_truth (pe_callB call_isiT (by rfl) B.isi (by decide +kernel) (pa_cons (pv 1) (pa_cons (pe_tup (pa_cons (pe_glob (v := .ref C) (by rfl) gS rfl) (pa_cons (pe_bltn (v := .ty "str") (by rfl) B.str (by decide +kernel) rfl) pa_nil))) pa_nil))) (fun _ => rfl))) pss_never pss_nil)
      (pss_one (ps_ret (pe_call GR (hr.mono (by decide)) rfl gR kR bR .nil (passK tk) (pa_cons pe_str (pa_cons (pv 0) (pa_cons (pe_call GO (hr.mono (by decide)) rfl gO kO bO .nil (passK tk) (pa_cons (pv 1) pa_nil)) pa_nil)))))), ?_⟩
    obtain ⟨a, t, v, rfl, A0, lt, h⟩ := h
    rcases h with ⟨b, u, rfl, B0, lu, rq⟩ | ⟨z, rfl, hz, kT, kF⟩
    · obtain ⟨dx, p, c, sh, hb, _⟩ := B0.ins
      refine ⟨_, rfl, by show 2 ≤ sizeLine; decide, fun q hq => ⟨.ref b, q, _, .ref C, [.ref C, .type "str"], true, rfl, upd_same, .cons (.own C) (.cons (.ty "str") .nil), T.ty (by rw [upd_ne (ne_of_none hb hq)]; exact hb), T.k2, true, rfl, iteF ?_⟩⟩
      have s1 := same_new (o := .tup [V.ref C, V.ty "str"]) hq
      have A1 := A0.keep (Same.keepI s1)
      have B1 := B0.keep (Same.keepI s1)
      have rq1 := rq.mono s1
      exact ⟨_, rfl, _, rfl, _, rfl, .inr ⟨b, u, rfl, B1, _, a, b, t, u, rfl, by unfold RowW; decide, A1, B1, lt, lu, rq1.1, rq1.2⟩⟩
    · refine ⟨_, rfl, by show 2 ≤ sizeLine; decide, fun q hq => ⟨.str z, q, _, .type "str", [.ref C, .type "str"], true, rfl, upd_same, .cons (.own C) (.cons (.ty "str") .nil), .base (.str z), T.k3, true, rfl, iteF ?_⟩⟩
      have s1 := same_new (o := .tup [V.ref C, V.ty "str"]) hq
      refine ⟨_, rfl, _, rfl, _, rfl, .inl ⟨z, rfl, hz, fun hn c H2 s2 Z => ?_, fun hn => (kF hn).mono s1⟩⟩
      have rq1 := (kT hn).mono (s1.trans s2)
      exact ⟨_, a, c, t, shelfT z, rfl, by unfold RowW; decide, A0.keep (Same.keepI (s1.trans s2)), Z, lt, shelf_le z, rq1.1, rq1.2⟩
abbrev sOr : Stmt := inClass sSearch 4
theorem scOr : FnScope ["self", "other"] ["self", "other"] (defScope sOr) := ⟨rfl, rfl, rfl, by decide +kernel, rfl, by decide +kernel, by decide +kernel⟩
theorem ok_Or {f : Addr} {fd : FuncData} (F : Fun K "__or__" "Search.__or__" sOr f fd) (B : Blt mg) (gS : mg "Search" = some (.ref C)) (T : TyS K C) (R : Rows P w K mg base C CB CT) : FnOk P w K mg base (L2.CX P w) 7 f fd ["self", "other"] (spBin "or" id C CB CT) := by
  obtain ⟨fR, dR, gR, kR, bR, GR⟩ := R.row.ok
  obtain ⟨fO, dO, gO, kO, bO, GO⟩ := R.of_.ok
  refine F.okX scOr (fun vs H Q E h => ?_) (fun cdv A outer s H vs Q E hr h => ?_)
  · obtain ⟨a, t, v, rfl, _⟩ := h
    rfl
  · have tk := takes_of (X := cxOf (L2.CX P w) P w K mg base ["self", "other"] "Search.__or__" (defScope sOr) f cdv A outer s H E) (E := E) rfl rfl rfl rfl
    refine ⟨_, pss_cons (ps_if (pt_not (pt_truth (pe_callB call_isiT (by rfl) B.isi (by decide +kernel) (pa_cons (pv 1) (pa_cons (pe_tup (pa_cons (pe_glob (v := .ref C) (by rfl) gS rfl) (pa_cons (pe_bltn (v := .ty "str") (by rfl) B.str (by decide +kernel) rfl) pa_nil))) pa_nil))) (fun _ => rfl))) pss_never pss_nil)
      (pss_one (ps_ret (pe_call GR (hr.mono (by decide)) rfl gR kR bR .nil (passK tk) (pa_cons pe_str (pa_cons (pv 0) (pa_cons (pe_call GO (hr.mono (by decide)) rfl gO kO bO .nil (passK tk) (pa_cons (pv 1) pa_nil)) pa_nil)))))), ?_⟩
    obtain ⟨a, t, v, rfl, A0, lt, h⟩ := h
    rcases h with ⟨b, u, rfl, B0, lu, rq⟩ | ⟨z, rfl, hz, kT, kF⟩
    · obtain ⟨dx, p, c, sh, hb, _⟩ := B0.ins
      refine ⟨_, rfl, by show 2 ≤ sizeLine; decide, fun q hq => ⟨.ref b, q, _, .ref C, [.ref C, .type "str"], true, rfl, upd_same, .cons (.own C) (.cons (.ty "str") .nil), T.ty (by rw [upd_ne (ne_of_none hb hq)]; exact hb), T.k2, true, rfl, iteF ?_⟩⟩
      have s1 := same_new (o := .tup [V.ref C, V.ty "str"]) hq
      have A1 := A0.keep (Same.keepI s1)
      have B1 := B0.keep (Same.keepI s1)
      have rq1 := rq.mono s1
      exact ⟨_, rfl, _, rfl, _, rfl, .inr ⟨b, u, rfl, B1, _, a, b, t, u, rfl, by unfold RowW; decide, A1, B1, lt, lu, rq1.1, rq1.2⟩⟩
    · refine ⟨_, rfl, by show 2 ≤ sizeLine; decide, fun q hq => ⟨.str z, q, _, .type "str", [.ref C, .type "str"], true, rfl, upd_same, .cons (.own C) (.cons (.ty "str") .nil), .base (.str z), T.k3, true, rfl, iteF ?_⟩⟩
      have s1 := same_new (o := .tup [V.ref C, V.ty "str"]) hq
      refine ⟨_, rfl, _, rfl, _, rfl, .inl ⟨z, rfl, hz, fun hn c H2 s2 Z => ?_, fun hn => (kF hn).mono s1⟩⟩
      have rq1 := (kT hn).mono (s1.trans s2)
      exact ⟨_, a, c, t, shelfT z, rfl, by unfold RowW; decide, A0.keep (Same.keepI (s1.trans s2)), Z, lt, shelf_le z, rq1.1, rq1.2⟩
abbrev sXor : Stmt := inClass sSearch 6
theorem scXor : FnScope ["self", "other"] ["self", "other"] (defScope sXor) := ⟨rfl, rfl, rfl, by decide +kernel, rfl, by decide +kernel, by decide +kernel⟩
theorem ok_Xor {f : Addr} {fd : FuncData} (F : Fun K "__xor__" "Search.__xor__" sXor f fd) (B : Blt mg) (gS : mg "Search" = some (.ref C)) (T : TyS K C) (R : Rows P w K mg base C CB CT) : FnOk P w K mg base (L2.CX P w) 7 f fd ["self", "other"] (spBin "either" id C CB CT) := by
  obtain ⟨fR, dR, gR, kR, bR, GR⟩ := R.row.ok
  obtain ⟨fO, dO, gO, kO, bO, GO⟩ := R.of_.ok
  refine F.okX scXor (fun vs H Q E h => ?_) (fun cdv A outer s H vs Q E hr h => ?_)
  · obtain ⟨a, t, v, rfl, _⟩ := h
    rfl
  · have tk := takes_of (X := cxOf (L2.CX P w) P w K mg base ["self", "other"] "Search.__xor__" (defScope sXor) f cdv A outer s H E) (E := E) rfl rfl rfl rfl
    refine ⟨_, pss_cons (ps_if (pt_not (pt_truth (pe_callB call_isiT (by rfl) B.isi (by decide +kernel) (pa_cons (pv 1) (pa_cons (pe_tup (pa_cons (pe_glob (v := .ref C) (by rfl) gS rfl) (pa_cons (pe_bltn (v := .ty "str") (by rfl) B.str (by decide +kernel) rfl) pa_nil))) pa_nil))) (fun _ => rfl))) pss_never pss_nil)
      (pss_one (ps_ret (pe_call GR (hr.mono (by decide)) rfl gR kR bR .nil (passK tk) (pa_cons pe_str (pa_cons (pv 0) (pa_cons (pe_call GO (hr.mono (by decide)) rfl gO kO bO .nil (passK tk) (pa_cons (pv 1) pa_nil)) pa_nil)))))), ?_⟩
    obtain ⟨a, t, v, rfl, A0, lt, h⟩ := h
    rcases h with ⟨b, u, rfl, B0, lu, rq⟩ | ⟨z, rfl, hz, kT, kF⟩
    · obtain ⟨dx, p, c, sh, hb, _⟩ := B0.ins
      refine ⟨_, rfl, by show 2 ≤ sizeLine; decide, fun q hq => ⟨.ref b, q, _, .ref C, [.ref C, .type "str"], true, rfl, upd_same, .cons (.own C) (.cons (.ty "str") .nil), T.ty (by rw [upd_ne (ne_of_none hb hq)]; exact hb), T.k2, true, rfl, iteF ?_⟩⟩
      have s1 := same_new (o := .tup [V.ref C, V.ty "str"]) hq
      have A1 := A0.keep (Same.keepI s1)
      have B1 := B0.keep (Same.keepI s1)
      have rq1 := rq.mono s1
      exact ⟨_, rfl, _, rfl, _, rfl, .inr ⟨b, u, rfl, B1, _, a, b, t, u, rfl, by unfold RowW; decide, A1, B1, lt, lu, rq1.1, rq1.2⟩⟩
    · refine ⟨_, rfl, by show 2 ≤ sizeLine; decide, fun q hq => ⟨.str z, q, _, .type "str", [.ref C, .type "str"], true, rfl, upd_same, .cons (.own C) (.cons (.ty "str") .nil), .base (.str z), T.k3, true, rfl, iteF ?_⟩⟩
      have s1 := same_new (o := .tup [V.ref C, V.ty "str"]) hq
      refine ⟨_, rfl, _, rfl, _, rfl, .inl ⟨z, rfl, hz, fun hn c H2 s2 Z => ?_, fun hn => (kF hn).mono s1⟩⟩
      have rq1 := (kT hn).mono (s1.trans s2)
      exact ⟨_, a, c, t, shelfT z, rfl, by unfold RowW; decide, A0.keep (Same.keepI (s1.trans s2)), Z, lt, shelf_le z, rq1.1, rq1.2⟩
abbrev sSub : Stmt := inClass sSearch 8
theorem scSub : FnScope ["self", "other"] ["self", "other"] (defScope sSub) := ⟨rfl, rfl, rfl, by decide +kernel, rfl, by decide +kernel, by decide +kernel⟩
theorem ok_Sub {f : Addr} {fd : FuncData} (F : Fun K "__sub__" "Search.__sub__" sSub f fd) (B : Blt mg) (gS : mg "Search" = some (.ref C)) (T : TyS K C) (R : Rows P w K mg base C CB CT) (IV : InvS P w K mg base C) : FnOk P w K mg base (L2.CX P w) 7 f fd ["self", "other"] (spBin "and" inv C CB CT) := by
  obtain ⟨fR, dR, gR, kR, bR, GR⟩ := R.row.ok
  obtain ⟨fO, dO, gO, kO, bO, GO⟩ := R.of_.ok
  obtain ⟨fV, dV, aV, iV, bV, GV⟩ := IV.ok
  refine F.okX scSub (fun vs H Q E h => ?_) (fun cdv A outer s H vs Q E hr h => ?_)
  · obtain ⟨a, t, v, rfl, _⟩ := h
    rfl
  · have tk := takes_of (X := cxOf (L2.CX P w) P w K mg base ["self", "other"] "Search.__sub__" (defScope sSub) f cdv A outer s H E) (E := E) rfl rfl rfl rfl
    refine ⟨_, pss_cons (ps_if (pt_not (pt_truth (pe_callB call_isiT (by rfl) B.isi (by decide +kernel) (pa_cons (pv 1) (pa_cons (pe_tup (pa_cons (pe_glob (v := .ref C) (by rfl) gS rfl) (pa_cons (pe_bltn (v := .ty "str") (by rfl) B.str (by decide +kernel) rfl) pa_nil))) pa_nil))) (fun _ => rfl))) pss_never pss_nil)
      (pss_one (ps_ret (pe_call GR (hr.mono (by decide)) rfl gR kR bR .nil (passK tk) (pa_cons pe_str (pa_cons (pv 0) (pa_cons (pe_un (un_own aV iV GV (hr.mono (by decide)) bV pass0) (pe_call GO (hr.mono (by decide)) rfl gO kO bO .nil (passK tk) (pa_cons (pv 1) pa_nil))) pa_nil)))))), ?_⟩
    obtain ⟨a, t, v, rfl, A0, lt, h⟩ := h
    rcases h with ⟨b, u, rfl, B0, lu, rq⟩ | ⟨z, rfl, hz, kT, kF⟩
    · obtain ⟨dx, p, c, sh, hb, _⟩ := B0.ins
      refine ⟨_, rfl, by show 2 ≤ sizeLine; decide, fun q hq => ⟨.ref b, q, _, .ref C, [.ref C, .type "str"], true, rfl, upd_same, .cons (.own C) (.cons (.ty "str") .nil), T.ty (by rw [upd_ne (ne_of_none hb hq)]; exact hb), T.k2, true, rfl, iteF ?_⟩⟩
      have s1 := same_new (o := .tup [V.ref C, V.ty "str"]) hq
      have A1 := A0.keep (Same.keepI s1)
      have B1 := B0.keep (Same.keepI s1)
      have rq1 := rq.mono s1
      refine ⟨_, rfl, _, rfl, _, rfl, .inr ⟨b, u, rfl, B1, ?_⟩⟩
      obtain ⟨dy, p1, c1, sh1, hb1, _⟩ := B1.ins
      refine ⟨b, dy, _, rfl, hb1, b, u, rfl, B1, lu, fun e H2 s2 Z => ?_⟩
      have rq2 := rq1.mono s2
      exact ⟨_, a, e, t, inv u, rfl, by unfold RowW; decide, A1.keep (Same.keepI s2), Z, lt, by rw [many_inv]; exact lu, rq2.1, rq2.2⟩
    · refine ⟨_, rfl, by show 2 ≤ sizeLine; decide, fun q hq => ⟨.str z, q, _, .type "str", [.ref C, .type "str"], true, rfl, upd_same, .cons (.own C) (.cons (.ty "str") .nil), .base (.str z), T.k3, true, rfl, iteF ?_⟩⟩
      have s1 := same_new (o := .tup [V.ref C, V.ty "str"]) hq
      refine ⟨_, rfl, _, rfl, _, rfl, .inl ⟨z, rfl, hz, fun hn c H2 s2 Z => ?_, fun hn => (kF hn).mono s1⟩⟩
      obtain ⟨dy, p1, c1, sh1, hb1, _⟩ := Z.ins
      refine ⟨c, dy, _, rfl, hb1, c, shelfT z, rfl, Z, shelf_le z, fun e H3 s3 Z3 => ?_⟩
      have rq1 := (kT hn).mono ((s1.trans s2).trans s3)
      exact ⟨_, a, e, t, inv (shelfT z), rfl, by unfold RowW; decide, A0.keep (Same.keepI ((s1.trans s2).trans s3)), Z3, lt, shelf_le' z, rq1.1, rq1.2⟩
abbrev sRand : Stmt := inClass sSearch 3
theorem scRand : FnScope ["self", "other"] ["self", "other"] (defScope sRand) := ⟨rfl, rfl, rfl, by decide +kernel, rfl, by decide +kernel, by decide +kernel⟩
theorem ok_Rand {f : Addr} {fd : FuncData} (F : Fun K "__rand__" "Search.__rand__" sRand f fd) (B : Blt mg) (R : Rows P w K mg base C CB CT) : FnOk P w K mg base (L2.CX P w) 7 f fd ["self", "other"] (spRBin "and" id C CB CT) := by
  obtain ⟨fR, dR, gR, kR, bR, GR⟩ := R.row.ok
  obtain ⟨fO, dO, gO, kO, bO, GO⟩ := R.shelf.ok
  refine F.okX scRand (fun vs H Q E h => ?_) (fun cdv A outer s H vs Q E hr h => ?_)
  · obtain ⟨a, t, v, rfl, _⟩ := h
    rfl
  · have tk := takes_of (X := cxOf (L2.CX P w) P w K mg base ["self", "other"] "Search.__rand__" (defScope sRand) f cdv A outer s H E) (E := E) rfl rfl rfl rfl
    refine ⟨_, pss_cons (ps_if (pt_not (pt_truth (pe_callB call_isi (by rfl) B.isi (by decide +kernel) (pa_cons (pv 1) (pa_cons (pe_bltn (v := .ty "str") (by rfl) B.str (by decide +kernel) rfl) pa_nil))) (fun _ => rfl))) pss_never pss_nil)
      (pss_one (ps_ret (pe_call GR (hr.mono (by decide)) rfl gR kR bR .nil (passK tk) (pa_cons pe_str (pa_cons (pe_call GO (hr.mono (by decide)) rfl gO kO bO .nil (passK tk) (pa_cons (pv 1) pa_nil)) (pa_cons (pv 0) pa_nil)))))), ?_⟩
    obtain ⟨a, t, z, rfl, A0, lt, hz, kT, kF⟩ := h
    refine ⟨_, rfl, .str z, .ty "str", .type "str", .type "str", true, rfl, .ty "str", .base (.str z), rfl, true, rfl, iteF ?_⟩
    refine ⟨_, rfl, z, rfl, hz, fun hn c H2 s2 Z => ?_, fun hn => kF hn⟩
    have rq1 := (kT hn).mono s2
    exact ⟨_, rfl, _, c, a, shelfT z, t, rfl, by unfold RowW; decide, Z, A0.keep (Same.keepI s2), shelf_le z, lt, rq1.1, rq1.2⟩
abbrev sRor : Stmt := inClass sSearch 5
theorem scRor : FnScope ["self", "other"] ["self", "other"] (defScope sRor) := ⟨rfl, rfl, rfl, by decide +kernel, rfl, by decide +kernel, by decide +kernel⟩
theorem ok_Ror {f : Addr} {fd : FuncData} (F : Fun K "__ror__" "Search.__ror__" sRor f fd) (B : Blt mg) (R : Rows P w K mg base C CB CT) : FnOk P w K mg base (L2.CX P w) 7 f fd ["self", "other"] (spRBin "or" id C CB CT) := by
  obtain ⟨fR, dR, gR, kR, bR, GR⟩ := R.row.ok
  obtain ⟨fO, dO, gO, kO, bO, GO⟩ := R.shelf.ok
  refine F.okX scRor (fun vs H Q E h => ?_) (fun cdv A outer s H vs Q E hr h => ?_)
  · obtain ⟨a, t, v, rfl, _⟩ := h
    rfl
  · have tk := takes_of (X := cxOf (L2.CX P w) P w K mg base ["self", "other"] "Search.__ror__" (defScope sRor) f cdv A outer s H E) (E := E) rfl rfl rfl rfl
    refine ⟨_, pss_cons (ps_if (pt_not (pt_truth (pe_callB call_isi (by rfl) B.isi (by decide +kernel) (pa_cons (pv 1) (pa_cons (pe_bltn (v := .ty "str") (by rfl) B.str (by decide +kernel) rfl) pa_nil))) (fun _ => rfl))) pss_never pss_nil)
      (pss_one (ps_ret (pe_call GR (hr.mono (by decide)) rfl gR kR bR .nil (passK tk) (pa_cons pe_str (pa_cons (pe_call GO (hr.mono (by decide)) rfl gO kO bO .nil (passK tk) (pa_cons (pv 1) pa_nil)) (pa_cons (pv 0) pa_nil)))))), ?_⟩
    obtain ⟨a, t, z, rfl, A0, lt, hz, kT, kF⟩ := h
    refine ⟨_, rfl, .str z, .ty "str", .type "str", .type "str", true, rfl, .ty "str", .base (.str z), rfl, true, rfl, iteF ?_⟩
    refine ⟨_, rfl, z, rfl, hz, fun hn c H2 s2 Z => ?_, fun hn => kF hn⟩
    have rq1 := (kT hn).mono s2
    exact ⟨_, rfl, _, c, a, shelfT z, t, rfl, by unfold RowW; decide, Z, A0.keep (Same.keepI s2), shelf_le z, lt, rq1.1, rq1.2⟩
abbrev sRxor : Stmt := inClass sSearch 7
theorem scRxor : FnScope ["self", "other"] ["self", "other"] (defScope sRxor) := ⟨rfl, rfl, rfl, by decide +kernel, rfl, by decide +kernel, by decide +kernel⟩
theorem ok_Rxor {f : Addr} {fd : FuncData} (F : Fun K "__rxor__" "Search.__rxor__" sRxor f fd) (B : Blt mg) (R : Rows P w K mg base C CB CT) : FnOk P w K mg base (L2.CX P w) 7 f fd ["self", "other"] (spRBin "either" id C CB CT) := by
  obtain ⟨fR, dR, gR, kR, bR, GR⟩ := R.row.ok
  obtain ⟨fO, dO, gO, kO, bO, GO⟩ := R.shelf.ok
  refine F.okX scRxor (fun vs H Q E h => ?_) (fun cdv A outer s H vs Q E hr h => ?_)
  · obtain ⟨a, t, v, rfl, _⟩ := h
    rfl
  · have tk := takes_of (X := cxOf (L2.CX P w) P w K mg base ["self", "other"] "Search.__rxor__" (defScope sRxor) f cdv A outer s H E) (E := E) rfl rfl rfl rfl
    refine ⟨_, pss_cons (ps_if (pt_not (pt_truth (pe_callB call_isi (by rfl) B.isi (by decide +kernel) (pa_cons (pv 1) (pa_cons (pe_bltn (v := .ty "str") (by rfl) B.str (by decide +kernel) rfl) pa_nil))) (fun _ => rfl))) pss_never pss_nil)
      (pss_one (ps_ret (pe_call GR (hr.mono (by decide)) rfl gR kR bR .nil (passK tk) (pa_cons pe_str (pa_cons (pe_call GO (hr.mono (by decide)) rfl gO kO bO .nil (passK tk) (pa_cons (pv 1) pa_nil)) (pa_cons (pv 0) pa_nil)))))), ?_⟩
    obtain ⟨a, t, z, rfl, A0, lt, hz, kT, kF⟩ := h
    refine ⟨_, rfl, .str z, .ty "str", .type "str", .type "str", true, rfl, .ty "str", .base (.str z), rfl, true, rfl, iteF ?_⟩
    refine ⟨_, rfl, z, rfl, hz, fun hn c H2 s2 Z => ?_, fun hn => kF hn⟩
    have rq1 := (kT hn).mono s2
    exact ⟨_, rfl, _, c, a, shelfT z, t, rfl, by unfold RowW; decide, Z, A0.keep (Same.keepI s2), shelf_le z, lt, rq1.1, rq1.2⟩
abbrev sRsub : Stmt := inClass sSearch 9
theorem scRsub : FnScope ["self", "other"] ["self", "other"] (defScope sRsub) := ⟨rfl, rfl, rfl, by decide +kernel, rfl, by decide +kernel, by decide +kernel⟩
theorem ok_Rsub {f : Addr} {fd : FuncData} (F : Fun K "__rsub__" "Search.__rsub__" sRsub f fd) (B : Blt mg) (R : Rows P w K mg base C CB CT) (IV : InvS P w K mg base C) : FnOk P w K mg base (L2.CX P w) 7 f fd ["self", "other"] (spRBin "and" inv C CB CT) := by
  obtain ⟨fR, dR, gR, kR, bR, GR⟩ := R.row.ok
  obtain ⟨fO, dO, gO, kO, bO, GO⟩ := R.shelf.ok
  obtain ⟨fV, dV, aV, iV, bV, GV⟩ := IV.ok
  refine F.okX scRsub (fun vs H Q E h => ?_) (fun cdv A outer s H vs Q E hr h => ?_)
  · obtain ⟨a, t, v, rfl, _⟩ := h
    rfl
  · have tk := takes_of (X := cxOf (L2.CX P w) P w K mg base ["self", "other"] "Search.__rsub__" (defScope sRsub) f cdv A outer s H E) (E := E) rfl rfl rfl rfl
    refine ⟨_, pss_cons (ps_if (pt_not (pt_truth (pe_callB call_isi (by rfl) B.isi (by decide +kernel) (pa_cons (pv 1) (pa_cons (pe_bltn (v := .ty "str") (by rfl) B.str (by decide +kernel) rfl) pa_nil))) (fun _ => rfl))) pss_never pss_nil)
      (pss_one (ps_ret (pe_call GR (hr.mono (by decide)) rfl gR kR bR .nil (passK tk) (pa_cons pe_str (pa_cons (pe_call GO (hr.mono (by decide)) rfl gO kO bO .nil (passK tk) (pa_cons (pv 1) pa_nil)) (pa_cons (pe_un (un_own aV iV GV (hr.mono (by decide)) bV pass0) (pv 0)) pa_nil)))))), ?_⟩
    obtain ⟨a, t, z, rfl, A0, lt, hz, kT, kF⟩ := h
    refine ⟨_, rfl, .str z, .ty "str", .type "str", .type "str", true, rfl, .ty "str", .base (.str z), rfl, true, rfl, iteF ?_⟩
    refine ⟨_, rfl, z, rfl, hz, fun hn c H2 s2 Z => ?_, fun hn => kF hn⟩
    have A1 := A0.keep (Same.keepI s2)
    obtain ⟨dy, p1, c1, sh1, ha1, _⟩ := A1.ins
    refine ⟨_, rfl, a, dy, _, rfl, ha1, a, t, rfl, A1, lt, fun e H3 s3 Z3 => ?_⟩
    have rq1 := (kT hn).mono (s2.trans s3)
    exact ⟨_, c, e, shelfT z, inv t, rfl, by unfold RowW; decide, Z.keep (Same.keepI s3), Z3, shelf_le z, by rw [many_inv]; exact lt, rq1.1, rq1.2⟩
end
end WK
namespace WK
open PySem PySem.Spec PyProof.Rows L2
abbrev sPot : Stmt := top 39
abbrev sTake : Stmt := top 40
abbrev sOf : Stmt := top 41
/-- a pot at p, of which at most n numbers were mixed -/
def PotAt (H : Hp) (p : Addr) (n : Nat) : Prop := ∃ a b c : Int, H p = some (.lst [.int a, .int b, .int c]) ∧ 0 ≤ a ∧ 0 ≤ b ∧ b < 2305843009213693921 ∧ 0 ≤ c ∧ c ≤ n
theorem PotAt.keep {H H' : Hp} {p : Addr} {n : Nat} (h : PotAt H p n) (s : Same H H') : PotAt H' p n := by
  obtain ⟨a, b, c, e, r⟩ := h
  exact ⟨a, b, c, s _ _ e, r⟩
structure Blt4 (mg : Str → Option Value) : Prop where
  int : mg "int" = none
  abs : mg "abs" = none
def spPot (K : PySem.W.Frag) : Sp := fun vs H Q _ => ∃ (a : Addr) (ns : List Int) (k : Nat), vs = [.ref a, .int k] ∧ SqL K H a (ns.map V.int) ∧ ns.length ≤ 63 ∧ k ≤ 63 ∧ ∀ p H', H p = none → Same H H' → PotAt H' p 0 → Q (.ref p) H'
def spTake : Sp := fun vs H Q _ => ∃ (p : Addr) (u : Int) (n : Nat), vs = [.ref p, .int u] ∧ PotAt H p n ∧ n ≤ 1000000 ∧ 1 ≤ u ∧ u ≤ 1000 ∧ ∀ d H', KeepB p H H' → PotAt H' p (n + 1) → 0 ≤ d → d < u → Q (.int d) H'
section
variable {P : Program} {w : World} {K : PySem.W.Frag} {mg : Str → Option Value} {base : Heap} {C CB CT : Addr}
theorem scPot : FnScope ["_law_script", "_law_k", "_law_cell", "_law_own"] ["_law_script", "_law_k"] (defScope sPot) := ⟨rfl, rfl, rfl, by decide +kernel, rfl, by decide +kernel, by decide +kernel⟩
theorem ok_pot {f : Addr} {fd : FuncData} (F : Fun K "_law_pot" "_law_pot" sPot f fd) (B : Blt mg) (B4 : Blt4 mg) : FnOk P w K mg base CX0 1 f fd ["_law_script", "_law_k"] (spPot K) := by
  refine F.ok scPot (fun vs H Q E h => ?_) (fun cdv A outer s H vs Q E hr h => ?_)
  · obtain ⟨a, ns, k, rfl, _⟩ := h
    rfl
  · refine ⟨_, pss_cons (ps_set (i := 2) scPot.nd rfl (Or.inl rfl) (pe_ifExp (pt_cmpR op_lt (pv 1) (pe_callB call_len_seq (by rfl) B.len PySem.boot_len (pa_cons (pv 0) pa_nil)) (nomark _)) (pe_ix ix_list (pv 0) (pv 1) (fun _ _ => rfl)) (pe_op op_add (pe_op op_mul pe_int (pv 1)) pe_int)))
      (pss_cons (ps_set (i := 3) scPot.nd rfl (Or.inl rfl) (pe_op op_mul (pe_op op_mod (pe_callTy call_int1 (by rfl) B4.int (by decide +kernel) (pa_cons (pe_callB call_abs (by rfl) B4.abs (by decide +kernel) (pa_cons (pv 2) pa_nil)) pa_nil)) (pe_op op_powB (pe_op op_powB pe_int pe_int) pe_int))
        (pe_callTy call_int1 (by rfl) B4.int (by decide +kernel) (pa_cons (pe_cmpR op_ge (pe_callB call_abs (by rfl) B4.abs (by decide +kernel) (pa_cons (pv 2) pa_nil)) (pe_op op_powB pe_int pe_int) (nomark _)) pa_nil))))
      (pss_one (ps_ret (pe_lst (pa_cons (pv 3) (pa_cons (pe_op op_mod (pe_callTy call_int1 (by rfl) B4.int (by decide +kernel) (pa_cons (pe_op op_add (pe_op op_add (pe_op op_mul (pe_op op_mod (pe_callTy call_int1 (by rfl) B4.int (by decide +kernel) (pa_cons (pv 2) pa_nil)) pe_int) pe_int) (pe_op op_mul (pe_op op_mul pe_int (pv 1)) (pv 1))) pe_int) pa_nil)) pe_int) (pa_cons pe_int pa_nil))))))), ?_⟩
    obtain ⟨a, ns, k, rfl, hS, hl, hk, q⟩ := h
    have big : (10 ^ (60 : Int).toNat : Int) = 10 ^ 60 := rfl
    have p1 : CPowB 10 60 := ⟨by decide, by have := bits_le (i := 10) (n := 4) (by decide) (by decide); omega⟩
    have p2 : CPowB (10 ^ (60 : Int).toNat) 5 := ⟨by decide, by have := bits_le (i := 10 ^ (60 : Int).toNat) (n := 200) (by decide +kernel) (by decide); omega⟩
    have p3 : CPowB 10 18 := ⟨by decide, by have := bits_le (i := 10) (n := 4) (by decide) (by decide); omega⟩
    have core : ∀ (cell : Int), tSeq (tAsg (tOp (rI CMul fun i j => V.int (i * j)) (tOp (rI (fun x j => 0 < j) fun i j => V.int (i % j)) (tCB (fun xs H Q => (∃ i, xs = [V.int i] ∧ Q (V.int i) H) ∨ ∃ k, xs = [V.bl k] ∧ Q (V.int (if k = true then 1 else 0)) H) (tCons (tCB (fun xs H Q => ∃ i, xs = [V.int i] ∧ Q (V.int (if i < 0 then -i else i)) H) (tCons (tVar 2) tNil)) tNil)) (tOp (rI CPowB fun i j => .int (i ^ j.toNat)) (tOp (rI CPowB fun i j => .int (i ^ j.toNat)) (tC (V.int 10)) (tC (V.int 60))) (tC (V.int 5))))
        (tCB (fun xs H Q => (∃ i, xs = [V.int i] ∧ Q (V.int i) H) ∨ ∃ k, xs = [V.bl k] ∧ Q (V.int (if k = true then 1 else 0)) H) (tCons (tOp (rI0 fun i j => V.bl (decide (j ≤ i))) (tCB (fun xs H Q => ∃ i, xs = [V.int i] ∧ Q (V.int (if i < 0 then -i else i)) H) (tCons (tVar 2) tNil)) (tOp (rI CPowB fun i j => .int (i ^ j.toNat)) (tC (V.int 10)) (tC (V.int 18)))) tNil))) (gName 3)) (tRet (tLst (tCons (tVar 3) (tCons (tOp (rI (fun x j => 0 < j) fun i j => V.int (i % j)) (tCB (fun xs H Q => (∃ i, xs = [V.int i] ∧ Q (V.int i) H) ∨ ∃ k, xs = [V.bl k] ∧ Q (V.int (if k = true then 1 else 0)) H) (tCons (tOp (rI0 fun i j => V.int (i + j)) (tOp (rI0 fun i j => V.int (i + j)) (tOp (rI CMul fun i j => V.int (i * j)) (tOp (rI (fun x j => 0 < j) fun i j => V.int (i % j)) (tCB (fun xs H Q => (∃ i, xs = [V.int i] ∧ Q (V.int i) H) ∨ ∃ k, xs = [V.bl k] ∧ Q (V.int (if k = true then 1 else 0)) H) (tCons (tVar 2) tNil)) (tC (V.int 2305843009213693951))) (tC (V.int 70991))) (tOp (rI CMul fun i j => V.int (i * j)) (tOp (rI CMul fun i j => V.int (i * j)) (tC (V.int 5323)) (tVar 1)) (tVar 1))) (tC (V.int 71))) tNil)) (tC (V.int 2305843009213693921))) (tCons (tC (V.int 0)) tNil)))))
        { nx := fun _ H' => Q V.non H', rt := Q } [some (V.ref a), some (V.int k), some (V.int cell), none] H := fun cell => by
      have c0 : ∀ (b : Bool), (0 : Int) ≤ if b = true then 1 else 0 := fun b => by cases b <;> decide
      have c1 : ∀ (x : Int) (b : Bool), CMul x (if b = true then 1 else 0) := fun x b => by cases b <;> exact .inr ⟨by decide, by decide⟩
      have c2 : ∀ (x : Int), CMul x 70991 := fun x => .inr ⟨by decide, by decide⟩
      have c3 : ∀ (x : Int), CMul 5323 x := fun x => .inl ⟨by decide, by decide⟩
      have c4 : CMul (5323 * (k : Int)) k := .inr ⟨by omega, by omega⟩
      refine ⟨_, rfl, _, rfl, .inl ⟨_, rfl, _, _, rfl, rfl, p1, _, _, rfl, rfl, p2, _, _, rfl, rfl, (show (0 : Int) < (10 ^ Int.toNat 60) ^ Int.toNat 5 by decide +kernel), ?_⟩⟩
      refine ⟨_, rfl, _, rfl, _, _, rfl, rfl, p3, _, _, rfl, rfl, .inr ⟨_, rfl, _, _, rfl, rfl, c1 _ _, ?_⟩⟩
      refine ⟨_, rfl, _, rfl, .inl ⟨_, rfl, _, _, rfl, rfl, (show (0 : Int) < 2305843009213693951 by decide), _, _, rfl, rfl, c2 _, _, rfl, _, _, rfl, rfl, c3 _, _, rfl, _, _, rfl, rfl, c4, _, _, rfl, rfl, _, _, rfl, rfl, .inl ⟨_, rfl, _, _, rfl, rfl, (show (0 : Int) < 2305843009213693921 by decide), ?_⟩⟩⟩
      refine ⟨by show 3 ≤ sizeLine; decide, fun p hp => q p _ hp (same_new hp) ⟨_, _, _, upd_same, ?_, ?_, ?_, by decide, by decide⟩⟩
      · refine Int.mul_nonneg (Int.emod_nonneg _ (by decide +kernel)) (c0 _)
      · exact Int.emod_nonneg _ (by decide)
      · exact Int.emod_lt_of_pos _ (by decide)
    refine ⟨_, rfl, _, rfl, a, _, rfl, .inl hS, _, _, rfl, rfl, _, rfl, ?_⟩
    rw [List.length_map]
    by_cases h : (k : Int) < (ns.length : Int)
    · rw [decide_eq_true h]
      have hk' : k < ns.length := by omega
      exact iteT ⟨_, rfl, _, rfl, a, _, k, V.int ns[k], rfl, rfl, hS, atI_nat (by rw [List.getElem?_map, List.getElem?_eq_getElem hk']; rfl), core _⟩
    · rw [decide_eq_false h]
      exact iteF ⟨_, rfl, _, _, rfl, rfl, .inl ⟨by decide, by decide⟩, _, _, rfl, rfl, core _⟩
theorem scTake : FnScope ["_law_pot_here", "_law_upto", "_law_digit", "_law_prime", "_law_mixed"] ["_law_pot_here", "_law_upto"] (defScope sTake) := ⟨rfl, rfl, rfl, by decide +kernel, rfl, by decide +kernel, by decide +kernel⟩
theorem primes (x : Int) : ∃ v : Int, atI [V.int 2147483647, V.int 2147483629, V.int 2147483587, V.int 2147483579, V.int 2147483563] (x % 5) = some (.int v) ∧ 0 < v := by
  have h : x % 5 = 0 ∨ x % 5 = 1 ∨ x % 5 = 2 ∨ x % 5 = 3 ∨ x % 5 = 4 := by omega
  rcases h with h | h | h | h | h <;> rw [h] <;> exact ⟨_, rfl, by decide⟩
theorem ok_take {f : Addr} {fd : FuncData} (F : Fun K "_law_take" "_law_take" sTake f fd) (B4 : Blt4 mg) : FnOk P w K mg base CX0 1 f fd ["_law_pot_here", "_law_upto"] spTake := by
  refine F.ok scTake (fun vs H Q E h => ?_) (fun cdv A outer s H vs Q E hr h => ?_)
  · obtain ⟨p, u, n, rfl, _⟩ := h
    rfl
  · refine ⟨_, pss_cons (ps_if (pt_cmpR op_gt (pe_ix ix_list (pv 0) pe_int (fun _ _ => rfl)) pe_int (nomark _))
        (pss_cons (ps_set (i := 2) scTake.nd rfl (Or.inl rfl) (pe_op op_mod (pe_callTy call_int1 (by rfl) B4.int (by decide +kernel) (pa_cons (pe_ix ix_list (pv 0) pe_int (fun _ _ => rfl)) pa_nil)) (pv 1)))
        (pss_cons (ps_asg (pe_op op_fdiv (pe_ix ix_list (pv 0) pe_int (fun _ _ => rfl)) (pv 1)) (pg_sub (pv 0) pe_int set_list))
        (pss_one (ps_ret (pv 2))))) pss_nil)
      (pss_cons (ps_asg (pe_op op_add (pe_ix ix_list (pv 0) pe_int (fun _ _ => rfl)) pe_int) (pg_sub (pv 0) pe_int set_list))
      (pss_cons (ps_set (i := 3) scTake.nd rfl (Or.inl rfl) (pe_ix ix_list (pe_lst (pa_cons pe_int (pa_cons pe_int (pa_cons pe_int (pa_cons pe_int (pa_cons pe_int pa_nil)))))) (pe_op op_mod (pe_callTy call_int1 (by rfl) B4.int (by decide +kernel) (pa_cons (pe_ix ix_list (pv 0) pe_int (fun _ _ => rfl)) pa_nil)) pe_int) (fun _ _ => rfl)))
      (pss_cons (ps_set (i := 4) scTake.nd rfl (Or.inl rfl) (pe_op op_mod (pe_callTy call_int1 (by rfl) B4.int (by decide +kernel) (pa_cons (pe_op op_powB (pe_callTy call_int1 (by rfl) B4.int (by decide +kernel) (pa_cons
          (pe_op op_add (pe_op op_add (pe_ix ix_list (pv 0) pe_int (fun _ _ => rfl)) (pe_op op_mul (pe_op op_mul pe_int (pe_ix ix_list (pv 0) pe_int (fun _ _ => rfl))) (pe_ix ix_list (pv 0) pe_int (fun _ _ => rfl)))) pe_int) pa_nil)) pe_int) pa_nil)) (pv 3)))
      (pss_cons (ps_set (i := 4) scTake.nd rfl (Or.inl rfl) (pe_op op_mod (pe_callTy call_int1 (by rfl) B4.int (by decide +kernel) (pa_cons (pe_op op_mul (pv 4) (pe_op op_add (pe_op op_mod (pe_callTy call_int1 (by rfl) B4.int (by decide +kernel) (pa_cons (pv 4) pa_nil)) pe_int) (pe_op op_mul pe_int (pe_ix ix_list (pv 0) pe_int (fun _ _ => rfl))))) pa_nil)) pe_int))
      (pss_one (ps_ret (pe_op op_mod (pe_callTy call_int1 (by rfl) B4.int (by decide +kernel) (pa_cons (pe_op op_fdiv (pv 4) pe_int) pa_nil)) (pv 1)))))))), ?_⟩
    obtain ⟨p, u, n, rfl, ⟨a, b, c, hp, ha, hb, hb', hc, hcn⟩, hn, hu, hu', q⟩ := h
    refine ⟨_, rfl, p, _, 0, .int a, rfl, rfl, SqL.of hp, rfl, _, _, rfl, rfl, _, rfl, ?_⟩
    by_cases h : (0 : Int) < a
    · rw [decide_eq_true h]
      refine iteT ⟨_, rfl, p, _, 0, .int a, rfl, rfl, SqL.of hp, rfl, .inl ⟨_, rfl, _, rfl, _, _, rfl, rfl, (show (0 : Int) < u by omega), ?_⟩⟩
      refine ⟨_, rfl, p, _, 0, .int a, rfl, rfl, SqL.of hp, rfl, _, rfl, _, _, rfl, rfl, ⟨by omega, by omega⟩, ?_⟩
      refine ⟨_, rfl, p, _, 0, 0, rfl, rfl, hp, rfl, ?_⟩
      exact ⟨_, rfl, q _ _ KeepB.upd ⟨a / u, b, c, upd_same, Int.ediv_nonneg ha (by omega), hb, hb', hc, by omega⟩ (Int.emod_nonneg _ (by omega)) (Int.emod_lt_of_pos _ (by omega))⟩
    · rw [decide_eq_false h]
      refine iteF ⟨_, rfl, p, _, 2, .int c, rfl, rfl, SqL.of hp, rfl, _, _, rfl, rfl, ?_⟩
      refine ⟨_, rfl, p, _, 2, 2, rfl, rfl, hp, rfl, ?_⟩
      show tSeq _ _ _ _ (upd H p (.lst [.int a, .int b, .int (c + 1)]))
      refine ⟨by show 5 ≤ sizeLine; decide, fun l hl => ?_⟩
      have nlp : p ≠ l := fun z => by rw [← z, upd_same] at hl; cases hl
      have hp2 : ∀ {o : HO}, (upd (upd H p (.lst [.int a, .int b, .int (c + 1)])) l o) p = some (.lst [.int a, .int b, .int (c + 1)]) := fun {o} => by rw [upd_ne nlp, upd_same]
      obtain ⟨v, hv, hpos⟩ := primes (c + 1)
      refine ⟨_, rfl, p, _, 2, .int (c + 1), rfl, rfl, SqL.of hp2, rfl, .inl ⟨_, rfl, _, _, rfl, rfl, (show (0 : Int) < 5 by decide), ?_⟩⟩
      refine ⟨l, _, _, .int v, rfl, rfl, SqL.of upd_same, hv, ?_⟩
      have at1 : ∀ {R : V → Hp → Prop} {o : HO} {σ : L2.St}, σ[0]? = some (some (V.ref p)) → R (.int (c + 1)) (upd (upd H p (.lst [.int a, .int b, .int (c + 1)])) l o) → tOp (rIxL K) (tVar 0) (tC (V.int 2)) σ (upd (upd H p (.lst [.int a, .int b, .int (c + 1)])) l o) R := fun h0 r =>
        ⟨_, h0, p, _, 2, .int (c + 1), rfl, rfl, SqL.of hp2, rfl, r⟩
      have c1 : CMul 99991 (c + 1) := .inl ⟨by decide, by decide⟩
      have c2 : CMul (99991 * (c + 1)) (c + 1) := .inr ⟨by omega, by omega⟩
      have sq : 99991 * (c + 1) * (c + 1) ≤ 99991 * 1000001 * 1000001 := Int.mul_le_mul (by omega) (by omega) (by omega) (by decide)
      have sq0 : 0 ≤ 99991 * (c + 1) * (c + 1) := Int.mul_nonneg (by omega) (by omega)
      have p3 : CPowB (b + 99991 * (c + 1) * (c + 1) + 41) 3 := ⟨by decide, by have := bits_le (i := b + 99991 * (c + 1) * (c + 1) + 41) (n := 63) (by omega) (by decide); omega⟩
      refine ⟨_, rfl, p, _, 1, .int b, rfl, rfl, SqL.of hp2, rfl, ?_⟩
      refine at1 rfl ⟨_, _, rfl, rfl, c1, at1 rfl ⟨_, _, rfl, rfl, c2, _, _, rfl, rfl, _, _, rfl, rfl, .inl ⟨_, rfl, _, _, rfl, rfl, p3, .inl ⟨_, rfl, _, rfl, _, _, rfl, rfl, hpos, ?_⟩⟩⟩⟩
      refine ⟨_, rfl, _, rfl, .inl ⟨_, rfl, _, _, rfl, rfl, (show (0 : Int) < 10009 by decide), ?_⟩⟩
      have c4 : CMul 83 (c + 1) := .inl ⟨by decide, by decide⟩
      have m1 : ∀ x : Int, CMul x ((x % 10009) + 83 * (c + 1)) := fun x => .inr ⟨by omega, by omega⟩
      refine at1 rfl ⟨_, _, rfl, rfl, c4, _, _, rfl, rfl, _, _, rfl, rfl, m1 _, .inl ⟨_, rfl, _, _, rfl, rfl, (show (0 : Int) < 2305843009213693907 by decide), ?_⟩⟩
      refine ⟨_, rfl, _, _, rfl, rfl, (show (0 : Int) < 109 ∧ (109 : Int) < 1073741824 by decide), .inl ⟨_, rfl, _, rfl, _, _, rfl, rfl, (show (0 : Int) < u by omega), ?_⟩⟩
      refine q _ _ (fun x o nx e => ?_) ⟨a, b, c + 1, hp2, ha, hb, hb', by omega, by omega⟩ (Int.emod_nonneg _ (by omega)) (Int.emod_lt_of_pos _ (by omega))
      have e1 : (upd H p (.lst [.int a, .int b, .int (c + 1)])) x = some o := by rw [upd_ne nx]; exact e
      rw [upd_ne (ne_of_none e1 hl)]
      exact e1
end
theorem PotAt.mono {H : Hp} {p : Addr} {n m : Nat} (h : PotAt H p n) (l : n ≤ m) : PotAt H p m := by
  obtain ⟨a, b, c, e, h1, h2, h3, h4, h5⟩ := h
  exact ⟨a, b, c, e, h1, h2, h3, h4, by omega⟩
theorem PotAt.keepI {H H' : Hp} {p : Addr} {n : Nat} (h : PotAt H p n) (k : KeepB p H H') : KeepI H H' := by
  obtain ⟨a, b, c, e, _⟩ := h
  exact k.keepI e
/-- _law_of(pot, some) -/
def spOf : Sp := fun vs H Q _ => ∃ (p l : Addr) (xs : List V) (n : Nat), vs = [.ref p, .ref l] ∧ H l = some (.lst xs) ∧ l ≠ p ∧ 1 ≤ xs.length ∧ xs.length ≤ 1000 ∧ PotAt H p n ∧ n ≤ 1000000 ∧
  ∀ (i : Nat) v H', xs[i]? = some v → KeepB p H H' → PotAt H' p (n + 1) → Q v H'
section
variable {P : Program} {w : World} {K : PySem.W.Frag} {mg : Str → Option Value} {base : Heap}
theorem scOf : FnScope ["_law_pot_here", "_law_some"] ["_law_pot_here", "_law_some"] (defScope sOf) := ⟨rfl, rfl, rfl, by decide +kernel, rfl, by decide +kernel, by decide +kernel⟩
theorem ok_of {f : Addr} {fd : FuncData} (F : Fun K "_law_of" "_law_of" sOf f fd) (B : Blt mg) (D : Def P w K mg base CX0 1 "_law_take" ["_law_pot_here", "_law_upto"] spTake) : FnOk P w K mg base CX0 2 f fd ["_law_pot_here", "_law_some"] spOf := by
  obtain ⟨fT, dT, gT, kT, bT, GT⟩ := D.ok
  refine F.ok scOf (fun vs H Q E h => ?_) (fun cdv A outer s H vs Q E hr h => ?_)
  · obtain ⟨p, l, xs, n, rfl, _⟩ := h
    rfl
  · refine ⟨_, pss_one (ps_ret (pe_ix ix_list (pv 1) (pe_call GT hr rfl gT kT bT .nil pass0 (pa_cons (pv 0) (pa_cons (pe_callB call_len_seq (by rfl) B.len PySem.boot_len (pa_cons (pv 1) pa_nil)) pa_nil))) (fun _ _ => rfl))), ?_⟩
    obtain ⟨p, l, xs, n, rfl, hl, nlp, h1, h2, hp, hn, q⟩ := h
    refine ⟨_, rfl, _, rfl, _, rfl, l, xs, rfl, .inl (SqL.of hl), p, xs.length, n, rfl, hp, hn, by omega, by omega, fun d H' kb hp' d0 d1 => ?_⟩
    have hd : d.toNat < xs.length := by omega
    have e : ((d.toNat : Nat) : Int) = d := by omega
    exact ⟨l, xs, d, xs[d.toNat], rfl, rfl, SqL.of (kb _ _ nlp hl), by have z := atI_nat (List.getElem?_eq_getElem hd); rw [e] at z; exact z, q d.toNat _ H' (List.getElem?_eq_getElem hd) kb hp'⟩
end
end WK
namespace WK
open PySem PySem.Spec PyProof.Rows L2
abbrev sOfMany : Stmt := top 42
theorem many_row (w : Str) (t u : Tr) : many (.row w (mem w t ++ mem w u)) = many t + many u := by
  show (condsL _).length = _
  rw [condsL_append, conds_mem, conds_mem, List.length_append]
  rfl
/-- _law_of_many(pot, k), k up to m -/
def spMany (C : Addr) (m : Nat) : Sp := fun vs H Q _ => ∃ (p : Addr) (k n : Nat), vs = [.ref p, .int k] ∧ 1 ≤ k ∧ k ≤ m ∧ m ≤ 16 ∧ PotAt H p n ∧ n + (3 * k - 2) ≤ 1000000 ∧
  ∀ a t H', KeepB p H H' → PotAt H' p (n + (3 * k - 2)) → SA C H' a t → many t = k → Q (.ref a) H'
/-- an operator of searches, at (search, search) or (search, text) -/
structure OpS (P : Program) (w : World) (K : PySem.W.Frag) (mg : Str → Option Value) (base : Heap) (C : Addr) (nm : String) (sp : Sp) : Prop where
  ok : ∃ f fd rg, OwnBin K C nm f rg ∧ (rg = none ∨ ∃ g : Addr, rg = some (.ref g)) ∧ Binds K fd ["self", "other"] [] ∧ FnOk P w K mg base (L2.CX P w) 7 f fd ["self", "other"] sp
/-- .. at (text, search) -/
structure OpT (P : Program) (w : World) (K : PySem.W.Frag) (mg : Str → Option Value) (base : Heap) (C : Addr) (nm : String) (sp : Sp) : Prop where
  ok : ∃ f fd g, OwnBin K C nm f (some (.ref g)) ∧ PySem.W.isFn K (.ref g) = true ∧ Binds K fd ["self", "other"] [] ∧ FnOk P w K mg base (L2.CX P w) 7 g fd ["self", "other"] sp
structure Ops (P : Program) (w : World) (K : PySem.W.Frag) (mg : Str → Option Value) (base : Heap) (C CB CT : Addr) : Prop where
  and_ : OpS P w K mg base C "and" (spBin "and" id C CB CT)
  or_ : OpS P w K mg base C "or" (spBin "or" id C CB CT)
  xor : OpS P w K mg base C "xor" (spBin "either" id C CB CT)
  sub : OpS P w K mg base C "sub" (spBin "and" inv C CB CT)
  rand : OpT P w K mg base C "and" (spRBin "and" id C CB CT)
  ror : OpT P w K mg base C "or" (spRBin "or" id C CB CT)
  rxor : OpT P w K mg base C "xor" (spRBin "either" id C CB CT)
  rsub : OpT P w K mg base C "sub" (spRBin "and" inv C CB CT)
structure Makers (P : Program) (w : World) (K : PySem.W.Frag) (mg : Str → Option Value) (base : Heap) (C CB : Addr) : Prop where
  at_ : Def P w K mg base (L2.CX P w) 5 "at" ["path"] (spOne "at" pathB C CB)
  marked : Def P w K mg base (L2.CX P w) 5 "marked" ["name"] (spOne "marked" nameB C CB)
  every : Def P w K mg base CX0 4 "everything" [] (spZero "everything" C)
  nothing : Def P w K mg base CX0 4 "nothing" [] (spZero "nothing" C)
section
variable {P : Program} {w : World} {K : PySem.W.Frag} {mg : Str → Option Value} {base : Heap} {C CB CT : Addr}
theorem scOfMany : FnScope ["_law_pot_here", "_law_many", "_law_cut", "_law_way", "_law_left", "_law_right_here"] ["_law_pot_here", "_law_many"] (defScope sOfMany) := ⟨rfl, rfl, rfl, by decide +kernel, rfl, by decide +kernel, by decide +kernel⟩
theorem name_a : nameB "a" = true := by decide +kernel
theorem name_b : nameB "b" = true := by decide +kernel
theorem path_a : pathB "a" = true := by decide +kernel
theorem ok_ofMany {f : Addr} {fd : FuncData} (F : Fun K "_law_of_many" "_law_of_many" sOfMany f fd) (gf : mg "_law_of_many" = some (.ref f)) (kf : PySem.W.keepIn K (.ref f) = true) (bf : Binds K fd ["_law_pot_here", "_law_many"] [])
    (DT : Def P w K mg base CX0 1 "_law_take" ["_law_pot_here", "_law_upto"] spTake) (DO : Def P w K mg base CX0 2 "_law_of" ["_law_pot_here", "_law_some"] spOf) (M : Makers P w K mg base C CB) (O : Ops P w K mg base C CB CT) (IV : InvS P w K mg base C) :
    ∀ m, FnOk P w K mg base CX0 (8 + m) f fd ["_law_pot_here", "_law_many"] (spMany C m)
  | 0 => by
    refine F.ok (k := 7) scOfMany (fun vs H Q E h => ?_) (fun cdv A outer s H vs Q E hr h => ?_)
    · obtain ⟨p, k, n, rfl, h1, h2, _⟩ := h
      rfl
    · obtain ⟨p, k, n, rfl, h1, h2, _⟩ := h
      omega
  | m + 1 => by
    have IH := ok_ofMany F gf kf bf DT DO M O IV m
    obtain ⟨fT, dT, gT, kT, bT, GT⟩ := DT.ok
    obtain ⟨fO, dO, gO, kO, bO, GO⟩ := DO.ok
    obtain ⟨fA, dA, gA, kA, bA, GA⟩ := M.at_.ok
    obtain ⟨fM, dM, gM, kM, bM, GM⟩ := M.marked.ok
    obtain ⟨fE, dE, gE, kE, bE, GE⟩ := M.every.ok
    obtain ⟨fN, dN, gN, kN, bN, GN⟩ := M.nothing.ok
    obtain ⟨fV, dV, aV, iV, bV, GV⟩ := IV.ok
    obtain ⟨f1, d1, rg1, O1, r1, b1, G1⟩ := O.and_.ok
    obtain ⟨f2, d2, rg2, O2, r2, b2, G2⟩ := O.or_.ok
    obtain ⟨f3, d3, rg3, O3, r3, b3, G3⟩ := O.xor.ok
    obtain ⟨f4, d4, rg4, O4, r4, b4, G4⟩ := O.sub.ok
    refine F.ok (k := 8 + m) scOfMany (fun vs H Q E h => ?_) (fun cdv A outer s H vs Q E hr h => ?_)
    · obtain ⟨p, k, n, rfl, _⟩ := h
      rfl
    · have hr7 : Room 7 _ := hr.mono (by omega)
      refine ⟨_, pss_cons (ps_if (pt_cmpR op_eq (pv 1) pe_int (nomark _)) (pss_one (ps_ret (pe_call GO (hr.mono (by omega)) rfl gO kO bO .nil pass0 (pa_cons (pv 0) (pa_cons (pe_lst (pa_cons (pe_call GA (hr.mono (by omega)) rfl gA kA bA .nil passL (pa_cons pe_str pa_nil))
            (pa_cons (pe_call GM (hr.mono (by omega)) rfl gM kM bM .nil passL (pa_cons pe_str pa_nil)) (pa_cons (pe_call0 GE (hr.mono (by omega)) (by rfl) gE kE bE .nil pass0) (pa_cons (pe_un (un_own aV iV GV (hr.mono (by omega)) bV pass0) (pe_call0 GN (hr.mono (by omega)) (by rfl) gN kN bN .nil pass0)) pa_nil))))) pa_nil))))) pss_nil)
        (pss_cons (ps_par (i := 2) (j := 3) (by rfl) scOfMany.nd rfl rfl (by decide) rfl rfl (pa_cons (pe_op op_add pe_int (pe_call GT (hr.mono (by omega)) rfl gT kT bT .nil pass0 (pa_cons (pv 0) (pa_cons (pe_op op_sub (pv 1) pe_int) pa_nil))))
            (pa_cons (pe_call GT (hr.mono (by omega)) rfl gT kT bT .nil pass0 (pa_cons (pv 0) (pa_cons pe_int pa_nil))) pa_nil)) (by rfl))
        (pss_cons (ps_par (i := 4) (j := 5) (by rfl) scOfMany.nd rfl rfl (by decide) rfl rfl (pa_cons (pe_call IH hr rfl gf kf bf .nil pass0 (pa_cons (pv 0) (pa_cons (pv 2) pa_nil))) (pa_cons (pe_call IH hr rfl gf kf bf .nil pass0 (pa_cons (pv 0) (pa_cons (pe_op op_sub (pv 1) (pv 2)) pa_nil))) pa_nil)) (by rfl))
        (pss_one (ps_ret (pe_ifExp (pt_cmpR op_eq (pv 3) pe_int (nomark _)) (pe_op (op_own (op := .BitAnd) O1 r1 G1 hr7 b1 passL) (pv 4) (pv 5))
          (pe_ifExp (pt_cmpR op_eq (pv 3) pe_int (nomark _)) (pe_op (op_own (op := .BitOr) O2 r2 G2 hr7 b2 passL) (pv 4) (pv 5))
          (pe_ifExp (pt_cmpR op_eq (pv 3) pe_int (nomark _)) (pe_op (op_own (op := .BitXor) O3 r3 G3 hr7 b3 passL) (pv 4) (pv 5))
            (pe_op (op_own (op := .Sub) O4 r4 G4 hr7 b4 passL) (pv 4) (pe_un (un_own aV iV GV (hr.mono (by omega)) bV pass0) (pv 5))))))))))
        , ?_⟩
      obtain ⟨p, k, n, rfl, k1, k2, m16, hp, hn, q⟩ := h
      refine ⟨_, rfl, rfl, _, rfl, ?_⟩
      by_cases h : k = 1
      · subst h
        rw [decide_eq_true (show V.int ((1 : Nat) : Int) = V.int 1 from rfl)]
        refine iteT ⟨_, rfl, "a", rfl, by decide, fun _ a H1 s1 A1 => ?_, fun z => absurd z (by rw [path_a]; decide)⟩
        refine ⟨"b", rfl, by decide, fun _ b H2 s2 A2 => ?_, fun z => absurd z (by rw [name_b]; decide)⟩
        refine ⟨rfl, fun c H3 s3 A3 => ⟨rfl, fun d H4 s4 A4 => ?_⟩⟩
        obtain ⟨dx, p4, c4, sh4, hd4, _⟩ := A4.ins
        refine ⟨d, dx, _, rfl, hd4, d, _, rfl, A4, (by show 1 ≤ 60; decide), fun e H5 s5 A5 => ?_⟩
        refine ⟨by show 4 ≤ sizeLine; decide, fun l hl => ?_⟩
        have s15 := (((s1.trans s2).trans s3).trans s4).trans s5
        have s6 := same_new (o := .lst [.ref a, .ref b, .ref c, .ref e]) hl
        have hp5 := hp.keep (s15.trans s6)
        have nlp : l ≠ p := fun z => by
          obtain ⟨x, y, w', e', _⟩ := hp.keep s15
          rw [z, e'] at hl; cases hl
        have all : ∀ (i : Nat) (v : V), [V.ref a, V.ref b, V.ref c, V.ref e][i]? = some v → ∃ x y, v = .ref x ∧ SA C (upd H5 l (.lst [.ref a, .ref b, .ref c, .ref e])) x y ∧ many y = 1 := fun i v hv => by
          match i, hv with
          | 0, hv => cases hv; exact ⟨_, _, rfl, A1.keep (Same.keepI ((((s2.trans s3).trans s4).trans s5).trans s6)), rfl⟩
          | 1, hv => cases hv; exact ⟨_, _, rfl, A2.keep (Same.keepI (((s3.trans s4).trans s5).trans s6)), rfl⟩
          | 2, hv => cases hv; exact ⟨_, _, rfl, A3.keep (Same.keepI ((s4.trans s5).trans s6)), rfl⟩
          | 3, hv => cases hv; exact ⟨_, _, rfl, A5.keep (Same.keepI s6), rfl⟩
          | j + 4, hv => cases hv
        refine ⟨p, l, _, n, rfl, upd_same, nlp, (by show 1 ≤ 4; decide), (by show 4 ≤ 1000; decide), hp5, by omega, fun i v H' hv kb hp' => ?_⟩
        obtain ⟨x, y, rfl, S, e1⟩ := all i v hv
        exact q x y H' (KeepB.trans (Same.keepB (s15.trans s6)) kb) (hp'.mono (by omega)) (S.keep (hp5.keepI kb)) e1
      · rw [decide_eq_false (show ¬ V.int (k : Int) = V.int 1 from fun z => h (by injection z; omega))]
        refine iteF ⟨_, rfl, _, rfl, _, _, rfl, rfl, p, (k : Int) - 1, n, rfl, hp, by omega, by omega, by omega, fun d1 H1 kb1 hp1 d10 d11 => ?_⟩
        obtain ⟨c1, rfl⟩ : ∃ c : Nat, d1 = c := ⟨d1.toNat, by omega⟩
        refine ⟨_, _, rfl, rfl, _, rfl, p, 4, n + 1, rfl, hp1, by omega, by decide, by decide, fun d2 H2 kb2 hp2 d20 d21 => ⟨_, _, rfl, ?_⟩⟩
        have ec : (1 + (c1 : Int)) = ((c1 + 1 : Nat) : Int) := by omega
        have ek : ((k : Int) - (1 + (c1 : Int))) = ((k - (c1 + 1) : Nat) : Int) := by omega
        refine ⟨_, rfl, _, rfl, p, c1 + 1, n + 2, (congrArg (fun z => [V.ref p, V.int z]) ec), by omega, by omega, by omega, hp2, by omega, fun a t H3 kb3 hp3 SA3 mt => ?_⟩
        refine ⟨_, rfl, _, rfl, _, rfl, _, _, rfl, rfl, p, k - (c1 + 1), n + 2 + (3 * (c1 + 1) - 2), (congrArg (fun z => [V.ref p, V.int z]) ek), by omega, by omega, by omega, hp3, by omega, fun b u H4 kb4 hp4 SB4 mu => ⟨_, _, rfl, ?_⟩⟩
        have SA4 := SA3.keep (hp3.keepI kb4)
        have kb14 := ((kb1.trans kb2).trans kb3).trans kb4
        have fin : ∀ (wd : Str) (u' : Tr) (c : Addr) (H5 : Hp), many u' = many u → Same H4 H5 → SA C H5 c (.row wd (mem wd t ++ mem wd u')) → Q (.ref c) H5 := fun wd u' c H5 eu s5 S =>
          q c _ H5 (kb14.trans (Same.keepB s5)) ((hp4.keep s5).mono (by omega)) S (by rw [many_row, eu, mt, mu]; omega)
        have use : ∀ {wd : Str} {g : Tr → Tr} {b' : Addr} {v : Tr} {H5 : Hp}, many v = many u → many (g v) = many u → Same H4 H5 → SA C H5 b' v → rOwn C (spBin wd g C CB CT) E0 (.ref a) (.ref b') H5 Q := fun {wd g b' v H5} e1 e2 s5 S => by
          have SA5 := SA4.keep (Same.keepI s5)
          obtain ⟨dx, p1, c1', sh1, ha, _⟩ := SA5.ins
          obtain ⟨dy, p2, c2', sh2, hb, _⟩ := S.ins
          exact ⟨a, dx, _, rfl, ha, .inr ⟨b', dy, _, rfl, hb⟩, a, t, _, rfl, SA5, by omega, .inl ⟨b', v, rfl, S, by omega, fun _ c H6 s6 Z => fin wd (g v) c H6 e2 (s5.trans s6) Z, fun z => by omega⟩⟩
        have d4 : d2 = 0 ∨ d2 = 1 ∨ d2 = 2 ∨ d2 = 3 := by omega
        refine ⟨_, rfl, rfl, _, rfl, ?_⟩
        rcases d4 with rfl | rfl | rfl | rfl
        · exact iteT ⟨_, rfl, _, rfl, use rfl rfl (Same.refl _) SB4⟩
        · exact iteF ⟨_, rfl, rfl, _, rfl, iteT ⟨_, rfl, _, rfl, use rfl rfl (Same.refl _) SB4⟩⟩
        · exact iteF ⟨_, rfl, rfl, _, rfl, iteF ⟨_, rfl, rfl, _, rfl, iteT ⟨_, rfl, _, rfl, use rfl rfl (Same.refl _) SB4⟩⟩⟩
        · refine iteF ⟨_, rfl, rfl, _, rfl, iteF ⟨_, rfl, rfl, _, rfl, iteF ⟨_, rfl, _, rfl, ?_⟩⟩⟩
          obtain ⟨dy, p2, c2', sh2, hb, _⟩ := SB4.ins
          exact ⟨b, dy, _, rfl, hb, b, u, rfl, SB4, by omega, fun b' H5 s5 Z => use (many_inv u) (by rw [many_inv, many_inv]) s5 Z⟩
end
end WK
namespace WK
open PySem PySem.Spec PyProof.Rows L2
abbrev sJoined : Stmt := top 43
abbrev sHeard : Stmt := top 44
theorem op_or2 {X : Cx} {f : Value → Value → Sem Value} {r1 r2 : R2} (h1 : OpR X f r1) (h2 : OpR X f r2) : OpR X f (fun x y H Q => r1 x y H Q ∨ r2 x y H Q) := fun pins s σ H x y v u Q I rx ry h =>
  h.elim (h1 pins s σ H x y v u Q I rx ry) (h2 pins s σ H x y v u Q I rx ry)
/-- what a pair of operands comes to -/
inductive Out where
  | many (n : Nat)
  | long
  | word (z : Str)
def rowOut (n : Nat) : Out := if n ≤ 16 then .many n else .long
/-- a pair of operands (search, search), (search, text), (text, search) and what any operator makes of it -/
inductive Opd (C : Addr) (H : Hp) : V → V → Out → Prop
  | ss {a b : Addr} {t u : Tr} : SA C H a t → SA C H b u → many t ≤ 60 → many u ≤ 60 → Opd C H (.ref a) (.ref b) (rowOut (many t + many u))
  | st {a : Addr} {t : Tr} {z : Str} : SA C H a t → many t ≤ 60 → z.length ≤ 1000 → Opd C H (.ref a) (.str z) (if nameB z = true then rowOut (many t + 1) else .word z)
  | ts {a : Addr} {t : Tr} {z : Str} : SA C H a t → many t ≤ 60 → z.length ≤ 1000 → Opd C H (.str z) (.ref a) (if nameB z = true then rowOut (many t + 1) else .word z)
theorem Opd.keep {C : Addr} {H H' : Hp} {x y : V} {o : Out} (h : Opd C H x y o) (k : KeepI H H') : Opd C H' x y o := by
  cases h with
  | ss a b c d => exact .ss (a.keep k) (b.keep k) c d
  | st a b c => exact .st (a.keep k) b c
  | ts a b c => exact .ts (a.keep k) b c
def Then (C CB CT : Addr) (o : Out) (H : Hp) (Q : VK) (E : XK) : Prop := match o with
  | .many n => ∀ c t H', Same H H' → SA C H' c t → many t = n → Q (.ref c) H'
  | .long => Xs CT "most" (.int 16) H E
  | .word z => Xs CB "value" (.str z) H E
theorem Then.mono {C CB CT : Addr} {o : Out} {H H1 : Hp} {Q : VK} {E : XK} (h : Then C CB CT o H Q E) (s : Same H H1) : Then C CB CT o H1 Q E := by
  cases o with
  | many n => exact fun c t H' s' => h c t H' (s.trans s')
  | long => exact Xs.mono h s
  | word z => exact Xs.mono h s
/-- an operator that reads so -/
def OpsAll (C CB CT : Addr) (wd : Str) (g : Tr → Tr) (E : XK) : R2 := fun x y H Q => rOwn C (spBin wd g C CB CT) E x y H Q ∨ rOwnR C (spRBin wd g C CB CT) E x y H Q
theorem then_row {C CB CT : Addr} {wd : Str} {t u : Tr} {H : Hp} {Q : VK} {E : XK} {n : Nat} (hn : many t + many u = n) (h : Then C CB CT (rowOut n) H Q E) : RowQ C CT wd t u H Q E := by
  subst hn
  unfold rowOut at h
  refine ⟨fun l c H' s' S => ?_, fun l => ?_⟩
  · rw [if_pos l] at h
    exact h c _ H' s' S (many_row wd t u)
  · rw [if_neg (by omega)] at h
    exact h
theorem all_of {C CB CT : Addr} {wd : Str} {g : Tr → Tr} {E : XK} {x y : V} {o : Out} {H : Hp} {Q : VK} (hg : ∀ t, many (g t) = many t) (h : Opd C H x y o) (k : Then C CB CT o H Q E) : OpsAll C CB CT wd g E x y H Q := by
  cases h with
  | @ss a b t u A B lt lu =>
    obtain ⟨dx, _, _, _, ha, _⟩ := A.ins
    obtain ⟨dy, _, _, _, hb, _⟩ := B.ins
    exact .inl ⟨a, dx, _, rfl, ha, .inr ⟨b, dy, _, rfl, hb⟩, a, t, _, rfl, A, lt, .inl ⟨b, u, rfl, B, lu, then_row (by rw [hg]) k⟩⟩
  | @st a t z A lt lz =>
    obtain ⟨dx, _, _, _, ha, _⟩ := A.ins
    refine .inl ⟨a, dx, _, rfl, ha, .inl ⟨z, rfl⟩, a, t, _, rfl, A, lt, .inr ⟨z, rfl, lz, fun hn => ?_, fun hn => ?_⟩⟩
    · rw [if_pos hn] at k
      exact then_row (by rw [hg]; rfl) k
    · rw [if_neg (by rw [hn]; decide)] at k
      exact k
  | @ts a t z A lt lz =>
    obtain ⟨dx, _, _, _, ha, _⟩ := A.ins
    refine .inr ⟨z, a, dx, _, rfl, rfl, ha, a, t, z, rfl, A, lt, lz, fun hn => ?_, fun hn => ?_⟩
    · rw [if_pos hn] at k
      exact then_row (by rw [hg, Nat.add_comm]; rfl) k
    · rw [if_neg (by rw [hn]; decide)] at k
      exact k
def Sign (wd : Str) : Prop := wd = "&" ∨ wd = "|" ∨ wd = "^" ∨ wd = "-"
def spJoined (C CB CT : Addr) : Sp := fun vs H Q E => ∃ (wd : Str) (x y : V) (o : Out), vs = [.str wd, x, y] ∧ Sign wd ∧ Opd C H x y o ∧ Then C CB CT o H Q E
section
variable {P : Program} {w : World} {K : PySem.W.Frag} {mg : Str → Option Value} {base : Heap} {C CB CT : Addr}
theorem scJoined : FnScope ["_law_word", "_law_one", "_law_other"] ["_law_word", "_law_one", "_law_other"] (defScope sJoined) := ⟨rfl, rfl, rfl, by decide +kernel, rfl, by decide +kernel, by decide +kernel⟩
theorem ok_joined {f : Addr} {fd : FuncData} (F : Fun K "_law_joined" "_law_joined" sJoined f fd) (O : Ops P w K mg base C CB CT) : FnOk P w K mg base (L2.CX P w) 8 f fd ["_law_word", "_law_one", "_law_other"] (spJoined C CB CT) := by
  obtain ⟨f1, d1, rg1, O1, r1, b1, G1⟩ := O.and_.ok
  obtain ⟨f2, d2, rg2, O2, r2, b2, G2⟩ := O.or_.ok
  obtain ⟨f3, d3, rg3, O3, r3, b3, G3⟩ := O.xor.ok
  obtain ⟨f4, d4, rg4, O4, r4, b4, G4⟩ := O.sub.ok
  obtain ⟨f5, d5, g5, O5, i5, b5, G5⟩ := O.rand.ok
  obtain ⟨f6, d6, g6, O6, i6, b6, G6⟩ := O.ror.ok
  obtain ⟨f7, d7, g7, O7, i7, b7, G7⟩ := O.rxor.ok
  obtain ⟨f8, d8, g8, O8, i8, b8, G8⟩ := O.rsub.ok
  refine F.okX scJoined (fun vs H Q E h => ?_) (fun cdv A outer s H vs Q E hr h => ?_)
  · obtain ⟨wd, x, y, o, rfl, _⟩ := h
    rfl
  · have tk := takes_of (X := cxOf (L2.CX P w) P w K mg base ["_law_word", "_law_one", "_law_other"] "_law_joined" (defScope sJoined) f cdv A outer s H E) (E := E) rfl rfl rfl rfl
    refine ⟨_, pss_cons (ps_if (pt_cmpR op_eq (pv 0) pe_str (nomark _)) (pss_one (ps_ret (pe_op (op_or2 (op_own (op := .BitAnd) O1 r1 G1 hr b1 (passK tk)) (op_ownR (op := .BitAnd) O5 i5 G5 hr b5 (passK tk))) (pv 1) (pv 2)))) pss_nil)
      (pss_cons (ps_if (pt_cmpR op_eq (pv 0) pe_str (nomark _)) (pss_one (ps_ret (pe_op (op_or2 (op_own (op := .BitOr) O2 r2 G2 hr b2 (passK tk)) (op_ownR (op := .BitOr) O6 i6 G6 hr b6 (passK tk))) (pv 1) (pv 2)))) pss_nil)
      (pss_one (ps_ret (pe_ifExp (pt_cmpR op_eq (pv 0) pe_str (nomark _)) (pe_op (op_or2 (op_own (op := .BitXor) O3 r3 G3 hr b3 (passK tk)) (op_ownR (op := .BitXor) O7 i7 G7 hr b7 (passK tk))) (pv 1) (pv 2))
        (pe_op (op_or2 (op_own (op := .Sub) O4 r4 G4 hr b4 (passK tk)) (op_ownR (op := .Sub) O8 i8 G8 hr b8 (passK tk))) (pv 1) (pv 2)))))), ?_⟩
    obtain ⟨wd, x, y, o, rfl, hw, D, k⟩ := h
    have run : ∀ (wd' : Str) (g : Tr → Tr), (∀ t, many (g t) = many t) → OpsAll C CB CT wd' g E x y H Q := fun wd' g hg => all_of hg D k
    rcases hw with rfl | rfl | rfl | rfl
    · exact ⟨_, rfl, rfl, _, rfl, iteT ⟨_, rfl, _, rfl, run "and" id fun _ => rfl⟩⟩
    · exact ⟨_, rfl, rfl, _, rfl, iteF ⟨_, rfl, rfl, _, rfl, iteT ⟨_, rfl, _, rfl, run "or" id fun _ => rfl⟩⟩⟩
    · exact ⟨_, rfl, rfl, _, rfl, iteF ⟨_, rfl, rfl, _, rfl, iteF ⟨_, rfl, rfl, _, rfl, iteT ⟨_, rfl, _, rfl, run "either" id fun _ => rfl⟩⟩⟩⟩
    · exact ⟨_, rfl, rfl, _, rfl, iteF ⟨_, rfl, rfl, _, rfl, iteF ⟨_, rfl, rfl, _, rfl, iteF ⟨_, rfl, _, rfl, run "and" inv many_inv⟩⟩⟩⟩
end
end WK
namespace WK
open PySem PySem.Spec PyProof.Rows L2
def outV : Out → List V
  | .many n => [.str "many", .int n]
  | .long => [.str "long", .int 16]
  | .word z => [.str "word", .str z]
def spHeard (C : Addr) : Sp := fun vs H Q _ => ∃ (wd : Str) (x y : V) (o : Out), vs = [.str wd, x, y] ∧ Sign wd ∧ Opd C H x y o ∧ ∀ q H', Same H H' → H' q = some (.tup (outV o)) → Q (.ref q) H'
/-- the errors' classes: what except and isinstance say of them -/
structure ErrK (K : PySem.W.Frag) (mg : Str → Option Value) (CS CB CT : Addr) : Prop where
  gS : mg "ShelfError" = some (.ref CS)
  gB : mg "BadWord" = some (.ref CB)
  gT : mg "TooLong" = some (.ref CT)
  xB : PySem.W.exmOne K (.ref CB) (.ref CS) = some true
  xT : PySem.W.exmOne K (.ref CT) (.ref CS) = some true
  eB : ExcC K CB
  eT : ExcC K CT
  fB : XfC K CB
  fT : XfC K CT
  nB : PySem.W.findIn K (.ref CB) "value" = some none
  nT : PySem.W.findIn K (.ref CT) "most" = some none
  kBT : PySem.W.kitOne K (.ref CB) (.ref CT) = some false
  kTT : PySem.W.kitOne K (.ref CT) (.ref CT) = some true
  kBB : PySem.W.kitOne K (.ref CB) (.ref CB) = some true
section
variable {P : Program} {w : World} {K : PySem.W.Frag} {mg : Str → Option Value} {base : Heap} {C CB CT CS : Addr}
theorem scHeard : FnScope ["_law_word", "_law_one", "_law_other", "_law_found", "_law_caught", "error"] ["_law_word", "_law_one", "_law_other"] (defScope sHeard) := ⟨rfl, rfl, rfl, by decide +kernel, rfl, by decide +kernel, by decide +kernel⟩
theorem ok_heard {f : Addr} {fd : FuncData} (F : Fun K "_law_heard" "_law_heard" sHeard f fd) (B : Blt mg) (S : SrchT K mg C) (T : TyS K C) (EK : ErrK K mg CS CB CT) (D : Def P w K mg base (L2.CX P w) 8 "_law_joined" ["_law_word", "_law_one", "_law_other"] (spJoined C CB CT)) :
    FnOk P w K mg base CX0 9 f fd ["_law_word", "_law_one", "_law_other"] (spHeard C) := by
  obtain ⟨fJ, dJ, gJ, kJ, bJ, GJ⟩ := D.ok
  refine F.ok scHeard (fun vs H Q E h => ?_) (fun cdv A outer s H vs Q E hr h => ?_)
  · obtain ⟨wd, x, y, o, rfl, _⟩ := h
    rfl
  · refine ⟨_, pss_cons (ps_asg (pe_tup (pa_cons pe_non (pa_cons pe_non pa_nil))) (pg_tup (by rfl) (pgs_cons (pg_name (i := 3) scHeard.nd rfl (Or.inl rfl)) (pgs_cons (pg_name (i := 4) scHeard.nd rfl (Or.inl rfl)) pgs_nil))))
      (pss_cons (ps_try_kept (i := 5) (tb := fun W => tAsg (tCallS (spJoined C CB CT) (WE W) (tCons (tVar 0) (tCons (tVar 1) (tCons (tVar 2) tNil)))) (gName 3)) (ts := fun _ _ _ => tAsg (tVar 5) (gName 4)) (Wout := fun _ _ _ _ => False) rfl rfl rfl scHeard.nd rfl rfl ⟨rfl, by decide, Or.inl EK.gS⟩ takes0
          (fun W pn xe tk _ => pss_one (ps_set (i := 3) scHeard.nd rfl (Or.inl rfl) (by exact (pe_callS GJ hr rfl gJ kJ bJ (fun σ => passAt tk σ) (pa_cons (pv 0) (pa_cons (pv 1) (pa_cons (pv 2) pa_nil)))))))
          (fun a oe cls d pn hz hf => pss_one (ps_set (i := 4) scHeard.nd rfl (Or.inl rfl) (pv 5))))
      (pss_cons (ps_if (pt_cmpR op_isN (pv 4) pe_non (nomark _)) (pss_one (ps_ret (pe_ifExp (pt_truth (pe_callB call_isi (by rfl) B.isi (by decide +kernel) (pa_cons (pv 3) (pa_cons (pe_glob (v := .ref C) (by rfl) S.g rfl) pa_nil))) (fun _ => rfl))
          (pe_tup (pa_cons pe_str (pa_cons (pe_fld (pv 3) rfl) pa_nil))) (pe_tup (pa_cons pe_str (pa_cons pe_non pa_nil)))))) pss_nil)
      (pss_cons (ps_if (pt_truth (pe_callB call_isKept (by rfl) B.isi (by decide +kernel) (pa_cons (pv 4) (pa_cons (pe_glob (v := .ref CT) (by rfl) EK.gT rfl) pa_nil))) (fun _ => rfl)) (pss_one (ps_ret (pe_tup (pa_cons pe_str (pa_cons (pe_kf EK.fT EK.nT (pv 4)) pa_nil))))) pss_nil)
      (pss_one (ps_ret (pe_ifExp (pt_truth (pe_callB call_isKept (by rfl) B.isi (by decide +kernel) (pa_cons (pv 4) (pa_cons (pe_glob (v := .ref CB) (by rfl) EK.gB rfl) pa_nil))) (fun _ => rfl))
          (pe_tup (pa_cons pe_str (pa_cons (pe_kf EK.fB EK.nB (pv 4)) pa_nil))) (pe_tup (pa_cons pe_str (pa_cons pe_non pa_nil))))))))), ?_⟩
    obtain ⟨wd, x, y, o, rfl, hw, D, q⟩ := h
    refine ⟨by show 2 ≤ sizeLine; decide, fun m hm => ⟨m, _, rfl, SqT.of upd_same, rfl, _, _, rfl, _, _, rfl, rfl, ?_⟩⟩
    have s1 := same_new (o := .tup [V.non, V.non]) hm
    refine ⟨_, rfl, _, rfl, _, rfl, wd, x, y, o, rfl, hw, D.keep (Same.keepI s1), ?_⟩
    cases o with
    | many n =>
      refine fun c t H' s' A e => ?_
      refine ⟨_, rfl, rfl, _, rfl, iteT ?_⟩
      obtain ⟨dx, p, c', sh, hc, _⟩ := A.ins
      refine ⟨_, rfl, .ref c, .ref C, .ref C, .ref C, true, rfl, .own C, T.ty hc, T.k4, true, rfl, iteT ?_⟩
      refine ⟨_, rfl, c, C, dx, _, _, rfl, hc, S.cl, S.nM, sf_many, by show 2 ≤ sizeLine; decide, fun r hr => q r _ ((s1.trans s').trans (same_new hr)) ?_⟩
      rw [upd_same, e]
      rfl
    | long =>
      refine fun d H' s' hd => ⟨true, EK.xT, fun _ a ha => ?_, fun z => Bool.noConfusion z⟩
      have s2 := same_new (o := ExK (.ref CT) (some d) a) ha
      refine ⟨_, rfl, ⟨_, rfl, rfl, _, rfl, iteF ?_⟩⟩
      have hd2 := s2 _ _ hd
      refine ⟨_, rfl, a, CT, some d, .ref CT, .ref CT, true, rfl, upd_same, EK.eT, fun dd e => ⟨_, by cases e; exact hd2⟩, fun z r => r, EK.kTT, true, rfl, iteT ?_⟩
      exact ⟨_, rfl, a, d, _, .int 16, rfl, upd_same, hd2, lk_hit, by show 2 ≤ sizeLine; decide, fun r hr => q r _ (((s1.trans s').trans s2).trans (same_new hr)) upd_same⟩
    | word z =>
      refine fun d H' s' hd => ⟨true, EK.xB, fun _ a ha => ?_, fun z => Bool.noConfusion z⟩
      have s2 := same_new (o := ExK (.ref CB) (some d) a) ha
      refine ⟨_, rfl, ⟨_, rfl, rfl, _, rfl, iteF ?_⟩⟩
      have hd2 := s2 _ _ hd
      refine ⟨_, rfl, a, CB, some d, .ref CT, .ref CT, false, rfl, upd_same, EK.eB, fun dd e => ⟨_, by cases e; exact hd2⟩, fun z r => r, EK.kBT, false, rfl, iteF ?_⟩
      refine ⟨_, rfl, a, CB, some d, .ref CB, .ref CB, true, rfl, upd_same, EK.eB, fun dd e => ⟨_, by cases e; exact hd2⟩, fun z r => r, EK.kBB, true, rfl, iteT ?_⟩
      exact ⟨_, rfl, a, d, _, .str z, rfl, upd_same, hd2, lk_hit, by show 2 ≤ sizeLine; decide, fun r hr => q r _ (((s1.trans s').trans s2).trans (same_new hr)) upd_same⟩
end
end WK
namespace WK
open PySem PySem.Spec PyProof.Rows L2
def outD : Out → PyData
  | .many n => .tuple [.str "many", .int n]
  | .long => .tuple [.str "long", .int 16]
  | .word z => .tuple [.str "word", .str z]
theorem dp_out {K : PySem.W.Frag} {H : Hp} {q : Addr} {o : Out} (h : H q = some (.tup (outV o))) : Dp K H (.ref q) (outD o) := by
  cases o with
  | many n => exact .tup (SqT.of h) (.cons (.str _) (.cons (.int _) .nil))
  | long => exact .tup (SqT.of h) (.cons (.str _) (.cons (.int _) .nil))
  | word z => exact .tup (SqT.of h) (.cons (.str _) (.cons (.str _) .nil))
theorem dp_all {K : PySem.W.Frag} {H : Hp} {o : Out} : ∀ {qs : List Addr}, (∀ q ∈ qs, H q = some (.tup (outV o))) → DpAll K H (qs.map V.ref) (List.replicate qs.length (outD o))
  | [], _ => .nil
  | q :: qs, h => .cons (dp_out (h q List.mem_cons_self)) (dp_all fun b hb => h b (List.mem_cons_of_mem _ hb))
def okO : Out → Prop
  | .word z => PyData.strOk z = true
  | _ => True
theorem shaped_rep {o : Out} {n : Nat} (hn : n = 4 ∨ n = 8) (ho : okO o) : SeqAt.shaped (.list (List.replicate n (outD o))) = true := by
  have e : PyData.canLay0 (outD o) = true := by
    cases o with
    | many n => with_unfolding_all rfl
    | long => with_unfolding_all rfl
    | word z =>
      have h1 : PyData.strOk z = true := ho
      have h2 : PyData.strOk ("word" : Str) = true := by decide +kernel
      simp [outD, PyData.canLay0, PyData.canLayAll0, h1, h2]
  have d : decide (PyData.depth (.list (List.replicate n (outD o))) ≤ 64) = true := by
    rcases hn with rfl | rfl <;> cases o <;> with_unfolding_all rfl
  unfold SeqAt.shaped
  rw [d, Bool.and_true]
  rcases hn with rfl | rfl <;> simp [List.replicate, PyData.canLay0, PyData.canLayAll0, e]
theorem flat_rep (dq : Addr) : ∀ n, (List.replicate n [V.ref dq]).flatten = (List.replicate n dq).map V.ref
  | 0 => rfl
  | n + 1 => by
    rw [List.replicate_succ, List.flatten_cons, flat_rep dq n]
    rfl
theorem ne_told {K : PySem.W.Frag} {H : Hp} {D r dq : Addr} {o : Out} {n : Nat} {qs : List Addr} {Q : VK} (hD : H D = some (.lst (qs.map V.ref))) (hl : qs.length = n) (hq : ∀ q ∈ qs, H q = some (.tup (outV o)))
    (hr : H r = some (.lst (List.replicate n [V.ref dq]).flatten)) (hd : H dq = some (.tup (outV o))) (hn : n = 4 ∨ n = 8) (ho : okO o) (k : Q (.bl false) H) : rNeD K (.ref D) (.ref r) H Q := by
  subst hl
  have sh := shaped_rep (o := o) hn ho
  refine ⟨.list (List.replicate qs.length (outD o)), .list (List.replicate qs.length (outD o)), .lst (SqL.of hD) (dp_all hq), .lst (SqL.of hr) ?_, sh, sh, ?_⟩
  · rw [flat_rep]
    have z := dp_all (K := K) (H := H) (o := o) (qs := List.replicate qs.length dq) fun b hb => by rw [List.eq_of_mem_replicate hb]; exact hd
    rw [List.length_replicate] at z
    exact z
  · have sh' := sh
    unfold SeqAt.shaped at sh'
    rw [SeqAt.eqv_refl _ (Bool.and_eq_true_iff.mp sh').1]
    exact k
/-- the comprehension over a tuple of words, each of which is heard -/
theorem lc_told {K : PySem.W.Frag} {t : Addr} {te : TE} {vs : List Nat} {j : Nat} {σ : L2.St} {H1 : Hp} {D : Addr} {Qd : Hp → Prop} {ps ws : List V} (ht : H1 t = some (.tup ws)) (hz : ws.length ≤ 60) (hD : H1 D = none)
    (hw : ∀ x, wipe ((wipe σ vs).set j (some x)) vs = wipe σ vs)
    (he : ∀ (i : Nat) x H, ws[i]? = some x → Same H1 H → ∀ Q : VK, (∀ q H', Same H H' → H' q = some (.tup ps) → Q (.ref q) H') → te ((wipe σ vs).set j (some x)) H Q)
    (hd : ∀ H (qs : List Addr), Same H1 H → H D = some (.lst (qs.map V.ref)) → qs.length = ws.length → (∀ q ∈ qs, H q = some (.tup ps)) → Qd H) :
    ∃ W : Nat → Nat → Hp → Prop, (∃ m, W 0 m (upd H1 D (.lst []))) ∧ ∀ i m H, W i m H →
      ((Itt K t).stop i H ∧ Qd H) ∨ ((Itt K t).go i H ∧ ∃ Nx : Hp → Prop, (∀ H', Nx H' → ∃ m', m' < m ∧ W (i + 1) m' H') ∧ ∀ x H', (Itt K t).yld i H x H' → gName j x (wipe σ vs) H' fun σ2 H2 => wipe σ2 vs = wipe σ vs ∧ tYes σ2 H2 fun b H3 =>
        if b = true then te σ2 H3 fun y H4 => ∃ acc, H4 D = some (.lst acc) ∧ acc.length < sizeLine ∧ Nx (upd H4 D (.lst (acc ++ [y]))) else Nx H3) := by
  have grow : ∀ {H : Hp} {o : HO}, Same H1 H → Same H1 (upd H D o) := fun {H o} s b u e => by
    rw [upd_ne (ne_of_none e hD)]; exact s b u e
  refine lc_it (walk_tup (xs := ws)) (fun i H => Same H1 H ∧ ∃ qs : List Addr, H D = some (.lst (qs.map V.ref)) ∧ qs.length = i ∧ ∀ q ∈ qs, H q = some (.tup ps)) ⟨grow (Same.refl H1), [], upd_same, rfl, fun q h => nomatch h⟩
    (fun i H _ q => SqT.of (q.1 _ _ ht)) (fun i x H H' hi q y => ?_) fun H q => ?_
  · obtain ⟨rfl, hx⟩ := y
    obtain ⟨s, qs, e, hl, hq⟩ := q
    refine ⟨hw _, ?_⟩
    dsimp only [tYes]
    rw [if_pos rfl]
    refine he i x _ hx s _ fun q H2 s2 hq2 => ⟨qs.map V.ref, s2 _ _ e, sz2 (by rw [List.length_map]; omega), grow (s.trans s2), qs ++ [q], by rw [upd_same, List.map_append]; rfl, by rw [List.length_append, hl]; rfl, fun b hb => ?_⟩
    have nD : ∀ {b : Addr}, H2 b = some (.tup ps) → b ≠ D := fun h z => by
      have := s2 _ _ e
      rw [z, this] at h; cases h
    rcases List.mem_append.mp hb with hb | hb
    · have z := s2 _ _ (hq b hb)
      rw [upd_ne (nD z)]; exact z
    · rw [List.mem_singleton.mp hb, upd_ne (nD hq2)]; exact hq2
  · obtain ⟨s, qs, e, hl, hq⟩ := q
    exact hd H qs s e hl hq
end WK
namespace WK
open PySem PySem.Spec PyProof.Rows L2
abbrev sRight : Stmt := top 45
abbrev nRight : List Str := ["_law_pot_here", "_law_lap", "_law_many", "_law_more", "_law_one", "_law_second", "_law_due", "_law_told", "_law_title", "_law_is_right", "_law_word"]
def spRight : Sp := fun vs H Q _ => ∃ (p : Addr), vs = [.ref p] ∧ PotAt H p 0 ∧ ∀ H', KeepB p H H' → Q (.bl true) H'
structure Blt5 (mg : Str → Option Value) : Prop where
  range : mg "range" = none
theorem pot_ne {H : Hp} {p l : Addr} {n : Nat} (h : PotAt H p n) (hl : H l = none) : l ≠ p := fun z => by
  obtain ⟨a, b, c, e, _⟩ := h
  rw [z, e] at hl; cases hl
theorem pick1 {d : Int} (d0 : 0 ≤ d) (d1 : d < 16) : ∀ (i : Nat) (v : V), [V.int 1, V.int 8, V.int 15, V.int 16, V.int (1 + d)][i]? = some v → ∃ m : Nat, v = .int m ∧ 1 ≤ m ∧ m ≤ 16
  | 0, v, h => by cases h; exact ⟨1, rfl, by omega, by omega⟩
  | 1, v, h => by cases h; exact ⟨8, rfl, by omega, by omega⟩
  | 2, v, h => by cases h; exact ⟨15, rfl, by omega, by omega⟩
  | 3, v, h => by cases h; exact ⟨16, rfl, by omega, by omega⟩
  | 4, v, h => by cases h; exact ⟨(1 + d).toNat, congrArg V.int (by omega), by omega, by omega⟩
  | j + 5, v, h => by cases h
theorem pick2 {d : Int} {m : Nat} (d0 : 0 ≤ d) (d1 : d < 16) (m1 : 1 ≤ m) : ∀ (i : Nat) (v : V), [V.int 1, V.int (16 - m), V.int (17 - m), V.int 8, V.int 16, V.int (1 + d)][i]? = some v → ∃ z : Int, v = .int z ∧ z ≤ 16
  | 0, v, h => by cases h; exact ⟨1, rfl, by omega⟩
  | 1, v, h => by cases h; exact ⟨_, rfl, by omega⟩
  | 2, v, h => by cases h; exact ⟨_, rfl, by omega⟩
  | 3, v, h => by cases h; exact ⟨8, rfl, by omega⟩
  | 4, v, h => by cases h; exact ⟨16, rfl, by omega⟩
  | 5, v, h => by cases h; exact ⟨_, rfl, by omega⟩
  | j + 6, v, h => by cases h
def titles : List Str := ["a", "abcdefgh", "", "A", "abcdefghi", "a/b", "x y", "1", "zz"]
theorem titles_ok : ∀ z ∈ titles, inV (.str z) [.str "a", .str "abcdefgh", .str "zz"] = nameB z ∧ PyData.strOk z = true ∧ z.length ≤ 1000 := by
  intro z h
  simp only [titles, List.mem_cons, List.not_mem_nil, or_false] at h
  rcases h with rfl | rfl | rfl | rfl | rfl | rfl | rfl | rfl | rfl <;> exact ⟨by decide +kernel, by decide +kernel, by decide +kernel⟩
theorem signs {i : Nat} {x : V} (h : [V.str "&", V.str "|", V.str "^", V.str "-"][i]? = some x) : ∃ wd, x = .str wd ∧ Sign wd := by
  match i, h with
  | 0, h => cases h; exact ⟨_, rfl, .inl rfl⟩
  | 1, h => cases h; exact ⟨_, rfl, .inr (.inl rfl)⟩
  | 2, h => cases h; exact ⟨_, rfl, .inr (.inr (.inl rfl))⟩
  | 3, h => cases h; exact ⟨_, rfl, .inr (.inr (.inr rfl))⟩
  | j + 4, h => cases h
section
variable {P : Program} {w : World} {K : PySem.W.Frag} {mg : Str → Option Value} {base : Heap} {C CB CT CS : Addr}
theorem scRight : FnScope nRight ["_law_pot_here"] (defScope sRight) := ⟨rfl, rfl, rfl, by decide +kernel, rfl, by decide +kernel, by decide +kernel⟩
theorem ok_right {f : Addr} {fd : FuncData} (F : Fun K "_law_right" "_law_right" sRight f fd) (B5 : Blt5 mg) (S : SrchT K mg C) (IV : InvS P w K mg base C) (DT : Def P w K mg base CX0 1 "_law_take" ["_law_pot_here", "_law_upto"] spTake) (DO : Def P w K mg base CX0 2 "_law_of" ["_law_pot_here", "_law_some"] spOf)
    (DM : Def P w K mg base CX0 24 "_law_of_many" ["_law_pot_here", "_law_many"] (spMany C 16)) (DH : Def P w K mg base CX0 9 "_law_heard" ["_law_word", "_law_one", "_law_other"] (spHeard C)) :
    FnOk P w K mg base CX0 25 f fd ["_law_pot_here"] spRight := by
  obtain ⟨fT, dT, gT, kT, bT, GT⟩ := DT.ok
  obtain ⟨fO, dO, gO, kO, bO, GO⟩ := DO.ok
  obtain ⟨fM, dM, gM, kM, bM, GM⟩ := DM.ok
  obtain ⟨fH, dH, gH, kH, bH, GH⟩ := DH.ok
  obtain ⟨fV, dV, aV, iV, bV, GV⟩ := IV.ok
  refine F.ok scRight (fun vs H Q E h => ?_) (fun cdv A outer s H vs Q E hr h => ?_)
  · obtain ⟨p, rfl, _⟩ := h
    rfl
  · have hr1 : Room 1 _ := hr.mono (by decide)
    have hr2 : Room 2 _ := hr.mono (by decide)
    have hr4 : Room 4 _ := hr.mono (by decide)
    have hr9 : Room 9 _ := hr.mono (by decide)
    refine ⟨_, pss_cons (ps_for PassesOwn.never rfl (pi_range1 rfl B5.range (pa_cons pe_int pa_nil)) (pg_name (i := 1) scRight.nd rfl (Or.inl rfl))
      (pss_cons (ps_set (i := 2) scRight.nd rfl (Or.inl rfl) (pe_call GO hr2 rfl gO kO bO .nil pass0 (pa_cons (pv 0) (pa_cons (pe_lst (pa_cons pe_int (pa_cons pe_int (pa_cons pe_int (pa_cons pe_int (pa_cons (pe_op op_add pe_int (pe_call GT hr1 rfl gT kT bT .nil pass0 (pa_cons (pv 0) (pa_cons pe_int pa_nil)))) pa_nil)))))) pa_nil))))
      (pss_cons (ps_set (i := 3) scRight.nd rfl (Or.inl rfl) (pe_call GO hr2 rfl gO kO bO .nil pass0 (pa_cons (pv 0) (pa_cons (pe_lst (pa_cons pe_int (pa_cons (pe_op op_sub pe_int (pv 2)) (pa_cons (pe_op op_sub pe_int (pv 2)) (pa_cons pe_int (pa_cons pe_int (pa_cons (pe_op op_add pe_int (pe_call GT hr1 rfl gT kT bT .nil pass0 (pa_cons (pv 0) (pa_cons pe_int pa_nil)))) pa_nil))))))) pa_nil))))
      (pss_cons (ps_set (i := 3) scRight.nd rfl (Or.inl rfl) (pe_ifExp (pt_cmpR op_gt (pv 3) pe_int (nomark _)) (pv 3) pe_int))
      (pss_cons (ps_asg (pe_tup (pa_cons (pe_call GM hr rfl gM kM bM .nil pass0 (pa_cons (pv 0) (pa_cons (pv 2) pa_nil))) (pa_cons (pe_call GM hr rfl gM kM bM .nil pass0 (pa_cons (pv 0) (pa_cons (pv 3) pa_nil))) pa_nil))) (pg_tup (by rfl) (pgs_cons (pg_name (i := 4) scRight.nd rfl (Or.inr rfl)) (pgs_cons (pg_name (i := 5) scRight.nd rfl (Or.inr rfl)) pgs_nil))))
      (pss_cons (ps_set (i := 6) scRight.nd rfl (Or.inl rfl) (pe_ifExp (pt_cmpR op_le (pe_op op_add (pv 2) (pv 3)) pe_int (nomark _)) (pe_tup (pa_cons pe_str (pa_cons (pe_op op_add (pv 2) (pv 3)) pa_nil))) (pe_tup (pa_cons pe_str (pa_cons pe_int pa_nil)))))
      (pss_cons (ps_setLc (i := 7) (own := [("_law_word", 10)]) (g := gName 10) (tt := tYes) (by rfl) scRight.nd rfl rfl (sw_true rfl rfl rfl (by decide +kernel)) (pi_tup (pe_tup (pa_cons pe_str (pa_cons pe_str (pa_cons pe_str (pa_cons pe_str pa_nil)))))) (blkOk_by (N := nRight) (sc := defScope sRight) (by decide +kernel))
          (fun _ _ _ _ _ => pg_name (i := 10) scRight.nd rfl (Or.inl rfl)) (fun _ _ _ _ _ => pts_nil) (fun _ _ _ _ _ => pe_call GH hr9 rfl gH kH bH .nil pass0 (pa_cons (pv 10) (pa_cons (pv 4) (pa_cons (pv 5) pa_nil)))))
      (pss_cons (ps_if (pw_or (pt_cmpR (op_neD hr.units) (pv 7) (pe_op op_rep (pe_lst (pa_cons (pv 6) pa_nil)) pe_int) (nomark _)) (pw_or (pt_cmpR op_ne (pe_fld (pe_un (un_own aV iV GV hr4 bV pass0) (pv 4)) rfl) (pv 2) (nomark _)) (pw_or (pt_cmpR op_ne (pe_fld (pv 4) rfl) (pv 2) (nomark _)) (pw_or1 (pt_cmpR op_ne (pe_fld (pv 5) rfl) (pv 3) (nomark _)))))).pt
          (pss_one (ps_ret pe_bl)) pss_nil)
      (pss_cons (ps_set (i := 8) scRight.nd rfl (Or.inr rfl) (pe_call GO hr2 rfl gO kO bO .nil pass0 (pa_cons (pv 0) (pa_cons (pe_lst (pa_cons pe_str (pa_cons pe_str (pa_cons pe_str (pa_cons pe_str (pa_cons pe_str (pa_cons pe_str (pa_cons pe_str (pa_cons pe_str (pa_cons pe_str pa_nil)))))))))) pa_nil))))
      (pss_cons (ps_set (i := 9) scRight.nd rfl (Or.inl rfl) (pe_cmpR op_in_seq (pv 8) (pe_tup (pa_cons pe_str (pa_cons pe_str (pa_cons pe_str pa_nil)))) (by with_unfolding_all rfl)))
      (pss_cons (ps_set (i := 6) scRight.nd rfl (Or.inl rfl) (pe_ifExp (pt_not (pt_truth (pv 9) (fun _ => rfl))) (pe_tup (pa_cons pe_str (pa_cons (pv 8) pa_nil))) (pe_ifExp (pt_cmpR op_lt (pv 2) pe_int (nomark _)) (pe_tup (pa_cons pe_str (pa_cons (pe_op op_add (pv 2) pe_int) pa_nil))) (pe_tup (pa_cons pe_str (pa_cons pe_int pa_nil))))))
      (pss_cons (ps_setLc (i := 7) (own := [("_law_word", 10)]) (g := gName 10) (tt := tYes) (by rfl) scRight.nd rfl rfl (sw_true rfl rfl rfl (by decide +kernel)) (pi_tup (pe_tup (pa_cons pe_str (pa_cons pe_str (pa_cons pe_str (pa_cons pe_str pa_nil)))))) (blkOk_by (N := nRight) (sc := defScope sRight) (by decide +kernel))
          (fun _ _ _ _ _ => pg_name (i := 10) scRight.nd rfl (Or.inl rfl)) (fun _ _ _ _ _ => pts_nil) (fun _ _ _ _ _ => pe_call GH hr9 rfl gH kH bH .nil pass0 (pa_cons (pv 10) (pa_cons (pv 4) (pa_cons (pv 8) pa_nil)))))
      (pss_one (ps_if (pt_cmpR (op_neD hr.units) (pe_op op_cat (pv 7) (pe_lc (own := [("_law_word", 10)]) (g := gName 10) (tt := tYes) rfl scRight.nd (pi_tup (pe_tup (pa_cons pe_str (pa_cons pe_str (pa_cons pe_str (pa_cons pe_str pa_nil)))))) (blkOk_by (N := nRight) (sc := defScope sRight) (by decide +kernel))
          (fun _ _ _ _ _ => pg_name (i := 10) scRight.nd rfl (Or.inl rfl)) (fun _ _ _ _ _ => pts_nil) (fun _ _ _ _ _ => pe_call GH hr9 rfl gH kH bH .nil pass0 (pa_cons (pv 10) (pa_cons (pv 8) (pa_cons (pv 4) pa_nil))))))
          (pe_op op_rep (pe_lst (pa_cons (pv 6) pa_nil)) pe_int) (nomark _)) (pss_one (ps_ret pe_bl)) pss_nil))))))))))))))
      (pss_one (ps_ret pe_bl)), ?_⟩
    obtain ⟨p, rfl, hp, q⟩ := h
    refine ⟨20, rfl, by decide, by decide, for_range (n := 20) (fun i σ H' => ∃ b1 b2 b3 b4 b5 b6 b7 b8 b9 b10 : Option V, σ = [some (.ref p), b1, b2, b3, b4, b5, b6, b7, b8, b9, b10] ∧ KeepB p H H' ∧ PotAt H' p (100 * i))
      ⟨none, none, none, none, none, none, none, none, none, none, rfl, KeepB.refl p H, hp⟩ ?_ ?_⟩
    · rintro i σ H0 hi ⟨b1, b2, b3, b4, b5, b6, b7, b8, b9, b10, rfl, kb0, hp0⟩
      -- many
      refine ⟨_, rfl, _, rfl, p, 16, 100 * i, rfl, hp0, by omega, by decide, by decide, fun d H1 kb1 hp1 d0 d1 => ⟨_, _, rfl, rfl, by show 5 ≤ sizeLine; decide, fun l hl => ?_⟩⟩
      refine ⟨p, l, _, 100 * i + 1, rfl, upd_same, pot_ne hp1 hl, (by show 1 ≤ 5; decide), (by show 5 ≤ 1000; decide), hp1.keep (same_new hl), by omega, fun j v H2 hv kb2 hp2 => ?_⟩
      obtain ⟨m, rfl, m1, m16⟩ := pick1 d0 d1 j v hv
      have kb02 : KeepB p H0 H2 := (kb1.trans (Same.keepB (same_new hl))).trans kb2
      -- more
      refine ⟨_, rfl, _, rfl, _, _, rfl, rfl, _, rfl, _, _, rfl, rfl, _, rfl, p, 16, 100 * i + 2, rfl, hp2, by omega, by decide, by decide, fun d' H3 kb3 hp3 d0' d1' => ⟨_, _, rfl, rfl, by show 6 ≤ sizeLine; decide, fun l' hl' => ?_⟩⟩
      refine ⟨p, l', _, 100 * i + 3, rfl, upd_same, pot_ne hp3 hl', (by show 1 ≤ 6; decide), (by show 6 ≤ 1000; decide), hp3.keep (same_new hl'), by omega, fun j' v' H4 hv' kb4 hp4 => ?_⟩
      obtain ⟨z0, rfl, z16⟩ := pick2 d0' d1' m1 j' v' hv'
      have kb04 : KeepB p H0 H4 := ((kb02.trans kb3).trans (Same.keepB (same_new hl'))).trans kb4
      -- more if more > 0 else 1
      have pick : ∀ Q : VK, (∀ n : Nat, 1 ≤ n → n ≤ 16 → Q (.int n) H4) → tIf (tTest (tOp (rI0 fun i j => V.bl (decide (j < i))) (tVar 3) (tC (V.int 0)))) (tVar 3) (tC (V.int 1)) [some (.ref p), some (.int (0 + (i : Int))), some (.int m), some (.int z0), b4, b5, b6, b7, b8, b9, b10] H4 Q := fun Q k => by
        refine ⟨_, rfl, _, _, rfl, rfl, _, rfl, ?_⟩
        by_cases h : (0 : Int) < z0
        · rw [decide_eq_true h]
          have e : z0 = (z0.toNat : Int) := by omega
          refine iteT ⟨_, rfl, ?_⟩
          rw [e]
          exact k _ (by omega) (by omega)
        · rw [decide_eq_false h]
          exact iteF (k 1 (by omega) (by omega))
      refine pick _ fun n n1 n16 => ?_
      -- one, second
      refine ⟨_, rfl, _, rfl, p, m, 100 * i + 4, rfl, m1, m16, by decide, hp4, by omega, fun a t H5 kb5 hp5 A mt => ?_⟩
      refine ⟨_, rfl, _, rfl, p, n, 100 * i + 50, rfl, n1, n16, by decide, hp5.mono (by omega), by omega, fun b u H6 kb6 hp6 Bs mu => ⟨by show 2 ≤ sizeLine; decide, fun tq htq => ?_⟩⟩
      have A6 := A.keep (hp5.keepI kb6)
      have kb06 : KeepB p H0 H6 := (kb04.trans kb5).trans kb6
      refine ⟨tq, _, rfl, SqT.of upd_same, rfl, _, _, rfl, _, _, rfl, rfl, ?_⟩
      have s7 := same_new (o := .tup [.ref a, .ref b]) htq
      -- due
      have due1 : ∀ Q : VK, (∀ dq H8, Same H6 H8 → H8 dq = some (.tup (outV (rowOut (m + n)))) → Q (.ref dq) H8) → tIf (tTest (tOp (rI0 fun i j => V.bl (decide (i ≤ j))) (tOp (rI0 fun i j => V.int (i + j)) (tVar 2) (tVar 3)) (tC (V.int 16))))
          (tTup (tCons (tC (V.str "many")) (tCons (tOp (rI0 fun i j => V.int (i + j)) (tVar 2) (tVar 3)) tNil))) (tTup (tCons (tC (V.str "long")) (tCons (tC (V.int 16)) tNil)))
          [some (.ref p), some (.int (0 + (i : Int))), some (.int m), some (.int n), some (.ref a), some (.ref b), b6, b7, b8, b9, b10] (upd H6 tq (.tup [.ref a, .ref b])) Q := fun Q k => by
        refine ⟨_, rfl, _, rfl, _, _, rfl, rfl, _, _, rfl, rfl, _, rfl, ?_⟩
        unfold rowOut at k
        by_cases h : (m : Int) + (n : Int) ≤ 16
        · rw [decide_eq_true h]
          rw [if_pos (show m + n ≤ 16 by omega)] at k
          exact iteT ⟨_, rfl, _, rfl, _, _, rfl, rfl, by show 2 ≤ sizeLine; decide, fun dq hdq => k dq _ (s7.trans (same_new hdq)) (by rw [upd_same]; rfl)⟩
        · rw [decide_eq_false h]
          rw [if_neg (show ¬ m + n ≤ 16 by omega)] at k
          exact iteF ⟨by show 2 ≤ sizeLine; decide, fun dq hdq => k dq _ (s7.trans (same_new hdq)) (by rw [upd_same]; rfl)⟩
      refine due1 _ fun dq H8 s68 hdq => ?_
      -- told
      refine ⟨by show 4 ≤ sizeLine; decide, fun wt hwt => ⟨wt, rfl, ⟨_, SqT.of upd_same⟩, fun D hD => ?_⟩⟩
      have op1 : ∀ H9, Same H6 H9 → Opd C H9 (.ref a) (.ref b) (rowOut (m + n)) := fun H9 s9 => by
        have z := Opd.ss (A6.keep (Same.keepI s9)) (Bs.keep (Same.keepI s9)) (by omega) (by omega)
        rw [mt, mu] at z
        exact z
      have ok1 : okO (rowOut (m + n)) := by unfold rowOut; split <;> trivial
      have s6w := s68.trans (same_new (o := .tup [.str "&", .str "|", .str "^", .str "-"]) hwt)
      refine lc_told (K := K) (t := wt) (ps := outV (rowOut (m + n))) upd_same (by show 4 ≤ 60; decide) hD (fun x => rfl) (fun j x H9 hx s9 Q k => ?_) fun H9 qs s9 hD9 hlen hqs => ?_
      · obtain ⟨wd, rfl, hsg⟩ := signs hx
        exact ⟨_, rfl, _, rfl, _, rfl, wd, _, _, _, rfl, hsg, op1 _ (s6w.trans s9), k⟩
      have s69 := s6w.trans s9
      have s89 := (same_new (o := .tup [.str "&", .str "|", .str "^", .str "-"]) hwt).trans s9
      -- told != [due] * 4
      refine ⟨_, rfl, _, rfl, by show 1 ≤ sizeLine; decide, fun r0 hr0 => ⟨r0, 4, _, rfl, rfl, upd_same, by decide, by decide, by show 4 ≤ sizeLine; decide, fun r hr => ?_⟩⟩
      have sE := (same_new (o := .lst [.ref dq]) hr0).trans (same_new (o := .lst (List.replicate (Int.toNat 4) [V.ref dq]).flatten) hr)
      refine ne_told (n := 4) (o := rowOut (m + n)) (dq := dq) (sE _ _ hD9) hlen (fun b hb => sE _ _ (hqs b hb)) upd_same (sE _ _ (s89 _ _ hdq)) (.inl rfl) ok1 ⟨_, rfl, iteF ?_⟩
      have s6E := s69.trans sE
      -- (~one).many
      have AE := A6.keep (Same.keepI s6E)
      have BE := Bs.keep (Same.keepI s6E)
      obtain ⟨dx, p1, c1, sh1, ha, _⟩ := AE.ins
      refine ⟨_, rfl, a, dx, _, rfl, ha, a, t, rfl, AE, by omega, fun e HF sF Z => ?_⟩
      obtain ⟨dz, p3, c3, sh3, he, _⟩ := Z.ins
      refine ⟨e, C, dz, _, _, rfl, he, S.cl, S.nM, sf_many, _, rfl, rfl, _, rfl, ?_⟩
      rw [many_inv, mt, decide_eq_true (show V.int (m : Int) = V.int (m : Int) from rfl)]
      refine iteF ⟨_, rfl, a, C, dx, _, _, rfl, sF _ _ ha, S.cl, S.nM, sf_many, _, rfl, rfl, _, rfl, ?_⟩
      rw [mt, decide_eq_true (show V.int (m : Int) = V.int (m : Int) from rfl)]
      obtain ⟨dy, p2, c2, sh2, hb, _⟩ := BE.ins
      refine iteF ⟨_, rfl, b, C, dy, _, _, rfl, sF _ _ hb, S.cl, S.nM, sf_many, _, rfl, rfl, _, rfl, ?_⟩
      rw [mu, decide_eq_true (show V.int (n : Int) = V.int (n : Int) from rfl)]
      refine iteF ?_
      -- title
      have s6F := s6E.trans sF
      have hpF : PotAt HF p (100 * i + 96) := (hp6.keep s6F).mono (by omega)
      refine ⟨_, rfl, by show 9 ≤ sizeLine; decide, fun l2 hl2 => ⟨p, l2, _, 100 * i + 96, rfl, upd_same, pot_ne hpF hl2, (by show 1 ≤ 9; decide), (by show 9 ≤ 1000; decide), hpF.keep (same_new hl2), by omega, fun j2 v2 HG hv2 kbG hpG => ?_⟩⟩
      obtain ⟨z, hz, rfl⟩ : ∃ z ∈ titles, v2 = V.str z := by
        have hv3 : (titles.map V.str)[j2]? = some v2 := hv2
        obtain ⟨z, h1, h2⟩ := List.mem_map.mp (List.mem_of_getElem? hv3)
        exact ⟨z, h1, h2.symm⟩
      obtain ⟨tz1, tz2, tz3⟩ := titles_ok z hz
      have kb6G : KeepB p H6 HG := (Same.keepB (s6F.trans (same_new hl2))).trans kbG
      have AG := A6.keep (hp6.keepI kb6G)
      -- is_right
      refine ⟨_, rfl, by show 3 ≤ sizeLine; decide, fun t3 ht3 => ⟨t3, _, rfl, .inr (SqT.of upd_same), rfl, rfl, ?_⟩⟩
      rw [if_neg Bool.false_ne_true, tz1]
      have sG1 := same_new (o := .tup [.str "a", .str "abcdefgh", .str "zz"]) ht3
      -- due
      have due2 : ∀ Q : VK, (∀ dq H8, Same HG H8 → H8 dq = some (.tup (outV (if nameB z = true then rowOut (m + 1) else .word z))) → Q (.ref dq) H8) → tIf (tNot fun σ H_1 Q => tVar 9 σ H_1 fun x H' => ∃ k, TruV K x H' k ∧ Q k H')
          (tTup (tCons (tC (V.str "word")) (tCons (tVar 8) tNil))) (tIf (tTest (tOp (rI0 fun i j => V.bl (decide (i < j))) (tVar 2) (tC (V.int 16)))) (tTup (tCons (tC (V.str "many")) (tCons (tOp (rI0 fun i j => V.int (i + j)) (tVar 2) (tC (V.int 1))) tNil))) (tTup (tCons (tC (V.str "long")) (tCons (tC (V.int 16)) tNil))))
          [some (.ref p), some (.int (0 + (i : Int))), some (.int m), some (.int n), some (.ref a), some (.ref b), some (.ref dq), some (.ref D), some (.str z), some (.bl (nameB z)), b10] (upd HG t3 (.tup [.str "a", .str "abcdefgh", .str "zz"])) Q := fun Q k => by
        refine ⟨_, rfl, nameB z, rfl, ?_⟩
        cases hb : nameB z with
        | false =>
          rw [hb, if_neg Bool.false_ne_true] at k
          exact iteT ⟨_, rfl, by show 2 ≤ sizeLine; decide, fun dq hdq => k dq _ (sG1.trans (same_new hdq)) (by rw [upd_same]; rfl)⟩
        | true =>
          rw [hb, if_pos rfl] at k
          unfold rowOut at k
          refine iteF ⟨_, rfl, _, _, rfl, rfl, _, rfl, ?_⟩
          by_cases h : (m : Int) < 16
          · rw [decide_eq_true h]
            rw [if_pos (show m + 1 ≤ 16 by omega)] at k
            exact iteT ⟨_, rfl, _, _, rfl, rfl, by show 2 ≤ sizeLine; decide, fun dq hdq => k dq _ (sG1.trans (same_new hdq)) (by rw [upd_same]; rfl)⟩
          · rw [decide_eq_false h]
            rw [if_neg (show ¬ m + 1 ≤ 16 by omega)] at k
            exact iteF ⟨by show 2 ≤ sizeLine; decide, fun dq hdq => k dq _ (sG1.trans (same_new hdq)) (by rw [upd_same]; rfl)⟩
      refine due2 _ fun dq2 HI sGI hdq2 => ?_
      have ok2 : okO (if nameB z = true then rowOut (m + 1) else .word z) := by
        split
        · unfold rowOut; split <;> trivial
        · exact tz2
      have op2 : ∀ H9, Same HG H9 → Opd C H9 (.ref a) (.str z) (if nameB z = true then rowOut (m + 1) else .word z) := fun H9 s9 => by
        have y := Opd.st (z := z) (AG.keep (Same.keepI s9)) (by omega) tz3
        rw [mt] at y
        exact y
      have op3 : ∀ H9, Same HG H9 → Opd C H9 (.str z) (.ref a) (if nameB z = true then rowOut (m + 1) else .word z) := fun H9 s9 => by
        have y := Opd.ts (z := z) (AG.keep (Same.keepI s9)) (by omega) tz3
        rw [mt] at y
        exact y
      -- told
      refine ⟨by show 4 ≤ sizeLine; decide, fun w2 hw2 => ⟨w2, rfl, ⟨_, SqT.of upd_same⟩, fun D2 hD2 => ?_⟩⟩
      have sI1 := same_new (o := .tup [.str "&", .str "|", .str "^", .str "-"]) hw2
      refine lc_told (K := K) (t := w2) (ps := outV (if nameB z = true then rowOut (m + 1) else .word z)) upd_same (by show 4 ≤ 60; decide) hD2 (fun x => rfl) (fun j x H9 hx s9 Q k => ?_) fun HJ qs2 sJ hDJ hlen2 hqs2 => ?_
      · obtain ⟨wd, rfl, hsg⟩ := signs hx
        exact ⟨_, rfl, _, rfl, _, rfl, wd, _, _, _, rfl, hsg, op2 _ ((sGI.trans sI1).trans s9), k⟩
      refine ⟨_, rfl, by show 4 ≤ sizeLine; decide, fun w3 hw3 => ⟨w3, rfl, ⟨_, SqT.of upd_same⟩, fun D3 hD3 => ?_⟩⟩
      have sJ1 := same_new (o := .tup [.str "&", .str "|", .str "^", .str "-"]) hw3
      refine lc_told (K := K) (t := w3) (ps := outV (if nameB z = true then rowOut (m + 1) else .word z)) upd_same (by show 4 ≤ 60; decide) hD3 (fun x => rfl) (fun j x H9 hx s9 Q k => ?_) fun HK qs3 sK hDK hlen3 hqs3 => ?_
      · obtain ⟨wd, rfl, hsg⟩ := signs hx
        exact ⟨_, rfl, _, rfl, _, rfl, wd, _, _, _, rfl, hsg, op3 _ ((((sGI.trans sI1).trans sJ).trans sJ1).trans s9), k⟩
      have sJK := sJ1.trans sK
      have l2' : qs2.length = 4 := hlen2
      have l3' : qs3.length = 4 := hlen3
      refine ⟨D2, D3, _, _, rfl, rfl, sJK _ _ hDJ, hDK, by rw [List.length_map, List.length_map, l2', l3']; decide, fun cc hcc => ⟨_, rfl, by show 1 ≤ sizeLine; decide, fun r1 hr1 => ⟨r1, 8, _, rfl, rfl, upd_same, by decide, by decide, by show 8 ≤ sizeLine; decide, fun r2 hr2 => ?_⟩⟩⟩
      have sC := same_new (o := .lst (qs2.map V.ref ++ qs3.map V.ref)) hcc
      have sR := (same_new (o := .lst [.ref dq2]) hr1).trans (same_new (o := .lst (List.replicate (Int.toNat 8) [V.ref dq2]).flatten) hr2)
      have sIK := (sI1.trans sJ).trans sJK
      refine ne_told (n := 8) (o := if nameB z = true then rowOut (m + 1) else .word z) (dq := dq2) (qs := qs2 ++ qs3) (sR _ _ (by rw [upd_same, List.map_append])) (by rw [List.length_append, l2', l3']) (fun b hb => (sC.trans sR) _ _ ?_) upd_same ((sC.trans sR) _ _ (sIK _ _ hdq2)) (.inr rfl) ok2 ⟨_, rfl, iteF ?_⟩
      · rcases List.mem_append.mp hb with hb | hb
        · exact sJK _ _ (hqs2 b hb)
        · exact hqs3 b hb
      have sGN := (sGI.trans sIK).trans (sC.trans sR)
      exact ⟨_, _, _, _, _, _, _, _, _, _, rfl, ((kb0.trans kb06).trans kb6G).trans (Same.keepB sGN), (hpG.keep sGN).mono (by omega)⟩
    · rintro σ H' ⟨b1, b2, b3, b4, b5, b6, b7, b8, b9, b10, rfl, kb, hp'⟩
      exact q H' kb
end
end WK
namespace WK
open PySem PySem.Spec PyProof.Rows L2
abbrev sLaw : Stmt := top 46
structure Blt6 (mg : Str → Option Value) : Prop where
  max : mg "max" = none
  min : mg "min" = none
def spLaw (K : PySem.W.Frag) : Sp := fun vs H Q _ => ∃ (a : Addr) (ns : List Int), vs = [.ref a] ∧ SqL K H a (ns.map V.int) ∧ ns.length ≤ 63 ∧ ∀ H', Q (.bl true) H'
section
variable {P : Program} {w : World} {K : PySem.W.Frag} {mg : Str → Option Value} {base : Heap} {C CB CT CS : Addr}
theorem scLaw : FnScope ["_law_script", "_law_k"] ["_law_script"] (defScope sLaw) := ⟨rfl, rfl, rfl, by decide +kernel, rfl, by decide +kernel, by decide +kernel⟩
theorem ok_law {f : Addr} {fd : FuncData} (F : Fun K "law" "law" sLaw f fd) (B : Blt mg) (B5 : Blt5 mg) (B6 : Blt6 mg) (DP : Def P w K mg base CX0 1 "_law_pot" ["_law_script", "_law_k"] (spPot K)) (DR : Def P w K mg base CX0 25 "_law_right" ["_law_pot_here"] spRight) :
    FnOk P w K mg base CX0 26 f fd ["_law_script"] (spLaw K) := by
  obtain ⟨fP, dP, gP, kP, bP, GP⟩ := DP.ok
  obtain ⟨fR, dR, gR, kR, bR, GR⟩ := DR.ok
  refine F.ok scLaw (fun vs H Q E h => ?_) (fun cdv A outer s H vs Q E hr h => ?_)
  · obtain ⟨a, ns, rfl, _⟩ := h
    rfl
  · refine ⟨_, pss_one (ps_ret (pe_callB (cr_all rfl) (by rfl) B.all (by decide +kernel) (pa_cons
      (pe_lc (own := [("_law_k", 1)]) (g := gName 1) (tt := tYes) rfl scLaw.nd (pi_range1 rfl B5.range (pa_cons (pe_callB (call_max2 rfl) (by rfl) B6.max (by decide +kernel) (pa_cons pe_int (pa_cons (pe_callB (call_min2 rfl) (by rfl) B6.min (by decide +kernel) (pa_cons pe_int (pa_cons (pe_callB call_len_seq (by rfl) B.len PySem.boot_len (pa_cons (pv 0) pa_nil)) pa_nil))) pa_nil))) pa_nil))
        (blkOk_by (N := ["_law_script", "_law_k"]) (sc := defScope sLaw) (by decide +kernel))
        (fun _ _ _ _ _ => pg_name (i := 1) scLaw.nd rfl (Or.inl rfl)) (fun _ _ _ _ _ => pts_nil)
        (fun _ _ _ _ _ => pe_call GR hr rfl gR kR bR .nil pass0 (pa_cons (pe_call GP (hr.mono (by decide)) rfl gP kP bP .nil pass0 (pa_cons (pv 0) (pa_cons (pv 1) pa_nil))) pa_nil))) pa_nil))), ?_⟩
    obtain ⟨a, ns, rfl, hS, hl, q⟩ := h
    refine ⟨_, rfl, a, _, rfl, .inl hS, _, _, rfl, _, _, rfl, ?_⟩
    rw [List.length_map]
    obtain ⟨n, en, hn⟩ : ∃ n : Nat, (if (if (ns.length : Int) < 3 then (ns.length : Int) else 3) > 1 then (if (ns.length : Int) < 3 then (ns.length : Int) else 3) else 1) = (n : Int) ∧ n ≤ 3 := by
      by_cases h3 : (ns.length : Int) < 3
      · rw [if_pos h3]
        by_cases h1 : (ns.length : Int) > 1
        · rw [if_pos h1]; exact ⟨ns.length, rfl, by omega⟩
        · rw [if_neg h1]; exact ⟨1, rfl, by omega⟩
      · rw [if_neg h3, if_pos (by decide)]; exact ⟨3, rfl, by omega⟩
    rw [en]
    refine ⟨n, rfl, by omega, by omega, fun D hD => lc_it (walk_range (lo := 0) (n := n)) (fun i H' => Same H H' ∧ H' D = some (.lst ((List.replicate i true).map V.bl))) ⟨same_new hD, upd_same⟩ (fun _ _ _ _ => trivial) (fun i x H1 H2 hi q1 y => ?_) fun H' q1 => ?_⟩
    · obtain ⟨rfl, rfl⟩ := y
      obtain ⟨s1, hD1⟩ := q1
      refine ⟨rfl, ?_⟩
      dsimp only [tYes]
      rw [if_pos rfl]
      refine ⟨_, rfl, _, rfl, a, ns, i, ?_, s1.seq hS, hl, by omega, fun p H3 hp s3 hpot => ⟨p, rfl, hpot, fun H4 kb4 => ?_⟩⟩
      · show [V.ref a, V.int (0 + (i : Int))] = _
        rw [Int.zero_add]
      have hD3 := s3 _ _ hD1
      have nDp : D ≠ p := fun z => by rw [← z, hD1] at hp; cases hp
      refine ⟨_, kb4 _ _ nDp hD3, sz2 (by rw [List.length_map, List.length_replicate]; omega), fun b o e => ?_, ?_⟩
      · have nbD : b ≠ D := ne_of_none e hD
        have e1 := s1 _ _ e
        have nbp : b ≠ p := ne_of_none e1 hp
        rw [upd_ne nbD]
        exact kb4 _ _ nbp (s3 _ _ e1)
      · rw [upd_same, List.replicate_succ', List.map_append]
        rfl
    · exact ⟨D, List.replicate n true, rfl, SqL.of q1.2, by rw [show (List.replicate n true).all id = true from List.all_eq_true.mpr fun b hb => List.eq_of_mem_replicate hb]; exact q H'⟩
end
end WK
namespace WK
open PySem PySem.Spec PyProof.Rows L2
theorem kit_self {K : PySem.W.Frag} {t : Value} : PySem.W.kitOne K t t = some true := by
  unfold PySem.W.kitOne
  rw [if_pos (by simp)]
theorem kit_ref {K : PySem.W.Frag} {T : Value} {D : Addr} {b : Bool} (ne : T ≠ .ref D) (i : PySem.W.isClsIn K D = true) (t : PySem.W.typeIn K (.ref D) = some (.type "type")) (s : PySem.W.subIn K T (.ref D) = some b) : PySem.W.kitOne K T (.ref D) = some b := by
  unfold PySem.W.kitOne
  rw [if_neg (by simpa using ne)]
  show (if ((PySem.W.clsIn K D).isSome && PySem.W.typeIn K (.ref D) == some (.type "type")) = true then PySem.W.subIn K T (.ref D) else none) = some b
  have i' : (PySem.W.clsIn K D).isSome = true := i
  rw [i', t, if_pos (by rfl)]
  exact s
theorem kit_str {K : PySem.W.Frag} {D : Addr} {b : Bool} (s : PySem.W.subIn K (.ref D) (.type "str") = some b) : PySem.W.kitOne K (.ref D) (.type "str") = some b := by
  unfold PySem.W.kitOne
  rw [if_neg (by simp)]
  show (if PySem.W.kitMeta "str" = true then PySem.W.subIn K (.ref D) (.type "str") else none) = some b
  rw [if_pos (by decide +kernel)]
  exact s
theorem kit_any1 {K : PySem.W.Frag} {C : Addr} : PySem.W.kitAny K (.ref C) [.ref C, .type "str"] = some true := by
  show (match PySem.W.kitOne K (.ref C) (.ref C) with | some true => some true | some false => _ | none => none) = _
  rw [kit_self]
theorem kit_any2 {K : PySem.W.Frag} {C : Addr} (i : PySem.W.isClsIn K C = true) (t : PySem.W.typeIn K (.ref C) = some (.type "type")) (s : PySem.W.subIn K (.type "str") (.ref C) = some false) : PySem.W.kitAny K (.type "str") [.ref C, .type "str"] = some true := by
  show (match PySem.W.kitOne K (.type "str") (.ref C) with | some true => some true | some false => (match PySem.W.kitOne K (.type "str") (.type "str") with | some true => some true | some false => some false | none => none) | none => none) = _
  rw [kit_ref (by intro z; cases z) i t s, kit_self]
theorem exm_up {K : PySem.W.Frag} {T : Value} {S : Addr} (b : PySem.W.subIn K (.ref S) (.type "BaseException") = some true) (i : PySem.W.isClsIn K S = true) (t : PySem.W.typeIn K (.ref S) = some (.type "type")) (s : PySem.W.subIn K T (.ref S) = some true) : PySem.W.exmOne K T (.ref S) = some true := by
  unfold PySem.W.exmOne
  rw [b, if_pos (by rfl)]
  show (if ((PySem.W.clsIn K S).isSome && PySem.W.typeIn K (.ref S) == some (.type "type")) = true then PySem.W.subIn K T (.ref S) else none) = some true
  have i' : (PySem.W.clsIn K S).isSome = true := i
  rw [i', t, if_pos (by rfl)]
  exact s
theorem all_mk {l : PySem.W.OpenLaw} {w : World} {K : PySem.W.Frag} {h : Heap} {mg : Str → Option Value} {fa : Addr} (X : K.In h) (G : h.Ns mainGlobals mg) (hfa : mg "law" = some (.ref fa))
    {odNm anNm : Option Addr} {slNm : Array (Option Value)} {fNm : Addr} {ocNm kVNm dcNm pmNm cdNm ctNm : Value}
    {odPa anPa : Option Addr} {slPa : Array (Option Value)} {fPa : Addr} {ocPa kVPa dcPa pmPa cdPa ctPa : Value}
    {odCd anCd : Option Addr} {slCd : Array (Option Value)} {fCd : Addr} {ocCd kVCd dcCd pmCd cdCd ctCd : Value}
    {odSh anSh : Option Addr} {slSh : Array (Option Value)} {fSh : Addr} {ocSh kVSh dcSh pmSh cdSh ctSh : Value}
    {odAt anAt : Option Addr} {slAt : Array (Option Value)} {fAt : Addr} {ocAt kVAt dcAt pmAt cdAt ctAt : Value}
    {odMa anMa : Option Addr} {slMa : Array (Option Value)} {fMa : Addr} {ocMa kVMa dcMa pmMa cdMa ctMa : Value}
    {odSf anSf : Option Addr} {slSf : Array (Option Value)} {fSf : Addr} {ocSf kVSf dcSf pmSf cdSf ctSf : Value}
    {odEv anEv : Option Addr} {slEv : Array (Option Value)} {fEv : Addr} {ocEv kVEv dcEv pmEv cdEv ctEv : Value}
    {odNo anNo : Option Addr} {slNo : Array (Option Value)} {fNo : Addr} {ocNo kVNo dcNo pmNo cdNo ctNo : Value}
    {odFo anFo : Option Addr} {slFo : Array (Option Value)} {fFo : Addr} {ocFo kVFo dcFo pmFo cdFo ctFo : Value}
    {odNa anNa : Option Addr} {slNa : Array (Option Value)} {fNa : Addr} {ocNa kVNa dcNa pmNa cdNa ctNa : Value}
    {odSo anSo : Option Addr} {slSo : Array (Option Value)} {fSo : Addr} {ocSo kVSo dcSo pmSo cdSo ctSo : Value}
    {odRo anRo : Option Addr} {slRo : Array (Option Value)} {fRo : Addr} {ocRo kVRo dcRo pmRo cdRo ctRo : Value}
    {odMe anMe : Option Addr} {slMe : Array (Option Value)} {fMe : Addr} {ocMe kVMe dcMe pmMe cdMe ctMe : Value}
    {odPo anPo : Option Addr} {slPo : Array (Option Value)} {fPo : Addr} {ocPo kVPo dcPo pmPo cdPo ctPo : Value}
    {odTa anTa : Option Addr} {slTa : Array (Option Value)} {fTa : Addr} {ocTa kVTa dcTa pmTa cdTa ctTa : Value}
    {odOf anOf : Option Addr} {slOf : Array (Option Value)} {fOf : Addr} {ocOf kVOf dcOf pmOf cdOf ctOf : Value}
    {odOm anOm : Option Addr} {slOm : Array (Option Value)} {fOm : Addr} {ocOm kVOm dcOm pmOm cdOm ctOm : Value}
    {odJo anJo : Option Addr} {slJo : Array (Option Value)} {fJo : Addr} {ocJo kVJo dcJo pmJo cdJo ctJo : Value}
    {odHe anHe : Option Addr} {slHe : Array (Option Value)} {fHe : Addr} {ocHe kVHe dcHe pmHe cdHe ctHe : Value}
    {odRi anRi : Option Addr} {slRi : Array (Option Value)} {fRi : Addr} {ocRi kVRi dcRi pmRi cdRi ctRi : Value}
    {odLa anLa : Option Addr} {slLa : Array (Option Value)} {fLa : Addr} {ocLa kVLa dcLa pmLa cdLa ctLa : Value}
    {C CS : Addr}
    {odIn anIn : Option Addr} {slIn : Array (Option Value)} {fIn : Addr} {ocIn kVIn dcIn pmIn cdIn ctIn : Value}
    {odan anan : Option Addr} {slan : Array (Option Value)} {fan : Addr} {ocan kVan dcan pman cdan ctan : Value}
    {odra anra : Option Addr} {slra : Array (Option Value)} {fra : Addr} {ocra kVra dcra pmra cdra ctra : Value}
    {odoo anoo : Option Addr} {sloo : Array (Option Value)} {foo : Addr} {ocoo kVoo dcoo pmoo cdoo ctoo : Value}
    {odro anro : Option Addr} {slro : Array (Option Value)} {fro : Addr} {ocro kVro dcro pmro cdro ctro : Value}
    {odxo anxo : Option Addr} {slxo : Array (Option Value)} {fxo : Addr} {ocxo kVxo dcxo pmxo cdxo ctxo : Value}
    {odrx anrx : Option Addr} {slrx : Array (Option Value)} {frx : Addr} {ocrx kVrx dcrx pmrx cdrx ctrx : Value}
    {odsu ansu : Option Addr} {slsu : Array (Option Value)} {fsu : Addr} {ocsu kVsu dcsu pmsu cdsu ctsu : Value}
    {odrs anrs : Option Addr} {slrs : Array (Option Value)} {frs : Addr} {ocrs kVrs dcrs pmrs cdrs ctrs : Value}
    {odiv aniv : Option Addr} {sliv : Array (Option Value)} {fiv : Addr} {ociv kViv dciv pmiv cdiv ctiv : Value}
    {CB : Addr} {nmB qnB : Str} {NB : Addr} {bsB bmB : List Value} {snB : List Str} {subB : List Value} {abB : Bool} {colB : Option Bool} {ddB : Option Addr} {m0B m1B m2B m3B m5B : Option Value}
    {odIB anIB : Option Addr} {slIB : Array (Option Value)} {fIB : Addr} {ocIB kVIB dcIB pmIB cdIB ctIB : Value}
    {CT : Addr} {nmT qnT : Str} {NT : Addr} {bsT bmT : List Value} {snT : List Str} {subT : List Value} {abT : Bool} {colT : Option Bool} {ddT : Option Addr} {m0T m1T m2T m3T m5T : Option Value}
    {odIT anIT : Option Addr} {slIT : Array (Option Value)} {fIT : Addr} {ocIT kVIT dcIT pmIT cdIT ctIT : Value}
    {tL tN tP tM u1 u2 u3 : Tok} {aR : Addr} {dR : Option Addr} {nR : Nat} {slR : Array (Option Value)}
    (aNm : PySem.W.nsIn K mainGlobals "is_name" = some (some (.ref fNm)))
    (lNm : K.lookup fNm = some ⟨ocNm, odNm, .func (PySem.W.fnOf "is_name" "is_name" (defArgs sIsName) (defBody sIsName) (defScope sIsName) .none kVNm dcNm pmNm anNm cdNm ctNm), slNm⟩)
    (cNm : PySem.W.codeIn K cdNm "is_name" = true)
    (kNm : PySem.W.keepIn K (.ref fNm) = true)
    (aPa : PySem.W.nsIn K mainGlobals "is_path" = some (some (.ref fPa)))
    (lPa : K.lookup fPa = some ⟨ocPa, odPa, .func (PySem.W.fnOf "is_path" "is_path" (defArgs sIsPath) (defBody sIsPath) (defScope sIsPath) .none kVPa dcPa pmPa anPa cdPa ctPa), slPa⟩)
    (cPa : PySem.W.codeIn K cdPa "is_path" = true)
    (kPa : PySem.W.keepIn K (.ref fPa) = true)
    (aCd : PySem.W.nsIn K mainGlobals "conditions_of" = some (some (.ref fCd)))
    (lCd : K.lookup fCd = some ⟨ocCd, odCd, .func (PySem.W.fnOf "conditions_of" "conditions_of" (defArgs sConds) (defBody sConds) (defScope sConds) .none kVCd dcCd pmCd anCd cdCd ctCd), slCd⟩)
    (cCd : PySem.W.codeIn K cdCd "conditions_of" = true)
    (kCd : PySem.W.keepIn K (.ref fCd) = true)
    (aSh : PySem.W.nsIn K mainGlobals "shelves_of" = some (some (.ref fSh)))
    (lSh : K.lookup fSh = some ⟨ocSh, odSh, .func (PySem.W.fnOf "shelves_of" "shelves_of" (defArgs sShelves) (defBody sShelves) (defScope sShelves) .none kVSh dcSh pmSh anSh cdSh ctSh), slSh⟩)
    (cSh : PySem.W.codeIn K cdSh "shelves_of" = true)
    (kSh : PySem.W.keepIn K (.ref fSh) = true)
    (aAt : PySem.W.nsIn K mainGlobals "at" = some (some (.ref fAt)))
    (lAt : K.lookup fAt = some ⟨ocAt, odAt, .func (PySem.W.fnOf "at" "at" (defArgs sAt) (defBody sAt) (defScope sAt) .none kVAt dcAt pmAt anAt cdAt ctAt), slAt⟩)
    (cAt : PySem.W.codeIn K cdAt "at" = true)
    (kAt : PySem.W.keepIn K (.ref fAt) = true)
    (aMa : PySem.W.nsIn K mainGlobals "marked" = some (some (.ref fMa)))
    (lMa : K.lookup fMa = some ⟨ocMa, odMa, .func (PySem.W.fnOf "marked" "marked" (defArgs sMarked) (defBody sMarked) (defScope sMarked) .none kVMa dcMa pmMa anMa cdMa ctMa), slMa⟩)
    (cMa : PySem.W.codeIn K cdMa "marked" = true)
    (kMa : PySem.W.keepIn K (.ref fMa) = true)
    (aSf : PySem.W.nsIn K mainGlobals "shelf" = some (some (.ref fSf)))
    (lSf : K.lookup fSf = some ⟨ocSf, odSf, .func (PySem.W.fnOf "shelf" "shelf" (defArgs sShelf) (defBody sShelf) (defScope sShelf) .none kVSf dcSf pmSf anSf cdSf ctSf), slSf⟩)
    (cSf : PySem.W.codeIn K cdSf "shelf" = true)
    (kSf : PySem.W.keepIn K (.ref fSf) = true)
    (aEv : PySem.W.nsIn K mainGlobals "everything" = some (some (.ref fEv)))
    (lEv : K.lookup fEv = some ⟨ocEv, odEv, .func (PySem.W.fnOf "everything" "everything" (defArgs sEvery) (defBody sEvery) (defScope sEvery) .none kVEv dcEv pmEv anEv cdEv ctEv), slEv⟩)
    (cEv : PySem.W.codeIn K cdEv "everything" = true)
    (kEv : PySem.W.keepIn K (.ref fEv) = true)
    (aNo : PySem.W.nsIn K mainGlobals "nothing" = some (some (.ref fNo)))
    (lNo : K.lookup fNo = some ⟨ocNo, odNo, .func (PySem.W.fnOf "nothing" "nothing" (defArgs sNothing) (defBody sNothing) (defScope sNothing) .none kVNo dcNo pmNo anNo cdNo ctNo), slNo⟩)
    (cNo : PySem.W.codeIn K cdNo "nothing" = true)
    (kNo : PySem.W.keepIn K (.ref fNo) = true)
    (aFo : PySem.W.nsIn K mainGlobals "folder_search" = some (some (.ref fFo)))
    (lFo : K.lookup fFo = some ⟨ocFo, odFo, .func (PySem.W.fnOf "folder_search" "folder_search" (defArgs sFolder) (defBody sFolder) (defScope sFolder) .none kVFo dcFo pmFo anFo cdFo ctFo), slFo⟩)
    (cFo : PySem.W.codeIn K cdFo "folder_search" = true)
    (kFo : PySem.W.keepIn K (.ref fFo) = true)
    (aNa : PySem.W.nsIn K mainGlobals "name_search" = some (some (.ref fNa)))
    (lNa : K.lookup fNa = some ⟨ocNa, odNa, .func (PySem.W.fnOf "name_search" "name_search" (defArgs sNamed) (defBody sNamed) (defScope sNamed) .none kVNa dcNa pmNa anNa cdNa ctNa), slNa⟩)
    (cNa : PySem.W.codeIn K cdNa "name_search" = true)
    (kNa : PySem.W.keepIn K (.ref fNa) = true)
    (aSo : PySem.W.nsIn K mainGlobals "search_of" = some (some (.ref fSo)))
    (lSo : K.lookup fSo = some ⟨ocSo, odSo, .func (PySem.W.fnOf "search_of" "search_of" (defArgs sSearchOf) (defBody sSearchOf) (defScope sSearchOf) .none kVSo dcSo pmSo anSo cdSo ctSo), slSo⟩)
    (cSo : PySem.W.codeIn K cdSo "search_of" = true)
    (kSo : PySem.W.keepIn K (.ref fSo) = true)
    (aRo : PySem.W.nsIn K mainGlobals "row_of" = some (some (.ref fRo)))
    (lRo : K.lookup fRo = some ⟨ocRo, odRo, .func (PySem.W.fnOf "row_of" "row_of" (defArgs sRow) (defBody sRow) (defScope sRow) .none kVRo dcRo pmRo anRo cdRo ctRo), slRo⟩)
    (cRo : PySem.W.codeIn K cdRo "row_of" = true)
    (kRo : PySem.W.keepIn K (.ref fRo) = true)
    (aMe : PySem.W.nsIn K mainGlobals "members_for" = some (some (.ref fMe)))
    (lMe : K.lookup fMe = some ⟨ocMe, odMe, .func (PySem.W.fnOf "members_for" "members_for" (defArgs sMembers) (defBody sMembers) (defScope sMembers) .none kVMe dcMe pmMe anMe cdMe ctMe), slMe⟩)
    (cMe : PySem.W.codeIn K cdMe "members_for" = true)
    (kMe : PySem.W.keepIn K (.ref fMe) = true)
    (aPo : PySem.W.nsIn K mainGlobals "_law_pot" = some (some (.ref fPo)))
    (lPo : K.lookup fPo = some ⟨ocPo, odPo, .func (PySem.W.fnOf "_law_pot" "_law_pot" (defArgs sPot) (defBody sPot) (defScope sPot) .none kVPo dcPo pmPo anPo cdPo ctPo), slPo⟩)
    (cPo : PySem.W.codeIn K cdPo "_law_pot" = true)
    (kPo : PySem.W.keepIn K (.ref fPo) = true)
    (aTa : PySem.W.nsIn K mainGlobals "_law_take" = some (some (.ref fTa)))
    (lTa : K.lookup fTa = some ⟨ocTa, odTa, .func (PySem.W.fnOf "_law_take" "_law_take" (defArgs sTake) (defBody sTake) (defScope sTake) .none kVTa dcTa pmTa anTa cdTa ctTa), slTa⟩)
    (cTa : PySem.W.codeIn K cdTa "_law_take" = true)
    (kTa : PySem.W.keepIn K (.ref fTa) = true)
    (aOf : PySem.W.nsIn K mainGlobals "_law_of" = some (some (.ref fOf)))
    (lOf : K.lookup fOf = some ⟨ocOf, odOf, .func (PySem.W.fnOf "_law_of" "_law_of" (defArgs sOf) (defBody sOf) (defScope sOf) .none kVOf dcOf pmOf anOf cdOf ctOf), slOf⟩)
    (cOf : PySem.W.codeIn K cdOf "_law_of" = true)
    (kOf : PySem.W.keepIn K (.ref fOf) = true)
    (aOm : PySem.W.nsIn K mainGlobals "_law_of_many" = some (some (.ref fOm)))
    (lOm : K.lookup fOm = some ⟨ocOm, odOm, .func (PySem.W.fnOf "_law_of_many" "_law_of_many" (defArgs sOfMany) (defBody sOfMany) (defScope sOfMany) .none kVOm dcOm pmOm anOm cdOm ctOm), slOm⟩)
    (cOm : PySem.W.codeIn K cdOm "_law_of_many" = true)
    (kOm : PySem.W.keepIn K (.ref fOm) = true)
    (aJo : PySem.W.nsIn K mainGlobals "_law_joined" = some (some (.ref fJo)))
    (lJo : K.lookup fJo = some ⟨ocJo, odJo, .func (PySem.W.fnOf "_law_joined" "_law_joined" (defArgs sJoined) (defBody sJoined) (defScope sJoined) .none kVJo dcJo pmJo anJo cdJo ctJo), slJo⟩)
    (cJo : PySem.W.codeIn K cdJo "_law_joined" = true)
    (kJo : PySem.W.keepIn K (.ref fJo) = true)
    (aHe : PySem.W.nsIn K mainGlobals "_law_heard" = some (some (.ref fHe)))
    (lHe : K.lookup fHe = some ⟨ocHe, odHe, .func (PySem.W.fnOf "_law_heard" "_law_heard" (defArgs sHeard) (defBody sHeard) (defScope sHeard) .none kVHe dcHe pmHe anHe cdHe ctHe), slHe⟩)
    (cHe : PySem.W.codeIn K cdHe "_law_heard" = true)
    (kHe : PySem.W.keepIn K (.ref fHe) = true)
    (aRi : PySem.W.nsIn K mainGlobals "_law_right" = some (some (.ref fRi)))
    (lRi : K.lookup fRi = some ⟨ocRi, odRi, .func (PySem.W.fnOf "_law_right" "_law_right" (defArgs sRight) (defBody sRight) (defScope sRight) .none kVRi dcRi pmRi anRi cdRi ctRi), slRi⟩)
    (cRi : PySem.W.codeIn K cdRi "_law_right" = true)
    (kRi : PySem.W.keepIn K (.ref fRi) = true)
    (aLa : PySem.W.nsIn K mainGlobals "law" = some (some (.ref fLa)))
    (lLa : K.lookup fLa = some ⟨ocLa, odLa, .func (PySem.W.fnOf "law" "law" (defArgs sLaw) (defBody sLaw) (defScope sLaw) .none kVLa dcLa pmLa anLa cdLa ctLa), slLa⟩)
    (cLa : PySem.W.codeIn K cdLa "law" = true)
    (kLa : PySem.W.keepIn K (.ref fLa) = true)
    (gC : PySem.W.nsIn K mainGlobals "Search" = some (some (.ref C)))
    (aIn : PySem.W.findIn K (.ref C) "__init__" = some (some (.ref fIn)))
    (iIn : PySem.W.isFn K (.ref fIn) = true)
    (lIn : K.lookup fIn = some ⟨ocIn, odIn, .func (PySem.W.fnOf "__init__" "Search.__init__" (defArgs sSInit) (defBody sSInit) (defScope sSInit) .none kVIn dcIn pmIn anIn cdIn ctIn), slIn⟩)
    (cIn : PySem.W.codeIn K cdIn "Search.__init__" = true)
    (kIn : PySem.W.keepIn K (.ref fIn) = true)
    (aan : PySem.W.findIn K (.ref C) "__and__" = some (some (.ref fan)))
    (ian : PySem.W.isFn K (.ref fan) = true)
    (lan : K.lookup fan = some ⟨ocan, odan, .func (PySem.W.fnOf "__and__" "Search.__and__" (defArgs sAnd) (defBody sAnd) (defScope sAnd) .none kVan dcan pman anan cdan ctan), slan⟩)
    (can : PySem.W.codeIn K cdan "Search.__and__" = true)
    (kan : PySem.W.keepIn K (.ref fan) = true)
    (ara : PySem.W.findIn K (.ref C) "__rand__" = some (some (.ref fra)))
    (ira : PySem.W.isFn K (.ref fra) = true)
    (lra : K.lookup fra = some ⟨ocra, odra, .func (PySem.W.fnOf "__rand__" "Search.__rand__" (defArgs sRand) (defBody sRand) (defScope sRand) .none kVra dcra pmra anra cdra ctra), slra⟩)
    (cra : PySem.W.codeIn K cdra "Search.__rand__" = true)
    (kra : PySem.W.keepIn K (.ref fra) = true)
    (aoo : PySem.W.findIn K (.ref C) "__or__" = some (some (.ref foo)))
    (ioo : PySem.W.isFn K (.ref foo) = true)
    (loo : K.lookup foo = some ⟨ocoo, odoo, .func (PySem.W.fnOf "__or__" "Search.__or__" (defArgs sOr) (defBody sOr) (defScope sOr) .none kVoo dcoo pmoo anoo cdoo ctoo), sloo⟩)
    (coo : PySem.W.codeIn K cdoo "Search.__or__" = true)
    (koo : PySem.W.keepIn K (.ref foo) = true)
    (aro : PySem.W.findIn K (.ref C) "__ror__" = some (some (.ref fro)))
    (iro : PySem.W.isFn K (.ref fro) = true)
    (lro : K.lookup fro = some ⟨ocro, odro, .func (PySem.W.fnOf "__ror__" "Search.__ror__" (defArgs sRor) (defBody sRor) (defScope sRor) .none kVro dcro pmro anro cdro ctro), slro⟩)
    (cro : PySem.W.codeIn K cdro "Search.__ror__" = true)
    (kro : PySem.W.keepIn K (.ref fro) = true)
    (axo : PySem.W.findIn K (.ref C) "__xor__" = some (some (.ref fxo)))
    (ixo : PySem.W.isFn K (.ref fxo) = true)
    (lxo : K.lookup fxo = some ⟨ocxo, odxo, .func (PySem.W.fnOf "__xor__" "Search.__xor__" (defArgs sXor) (defBody sXor) (defScope sXor) .none kVxo dcxo pmxo anxo cdxo ctxo), slxo⟩)
    (cxo : PySem.W.codeIn K cdxo "Search.__xor__" = true)
    (kxo : PySem.W.keepIn K (.ref fxo) = true)
    (arx : PySem.W.findIn K (.ref C) "__rxor__" = some (some (.ref frx)))
    (irx : PySem.W.isFn K (.ref frx) = true)
    (lrx : K.lookup frx = some ⟨ocrx, odrx, .func (PySem.W.fnOf "__rxor__" "Search.__rxor__" (defArgs sRxor) (defBody sRxor) (defScope sRxor) .none kVrx dcrx pmrx anrx cdrx ctrx), slrx⟩)
    (crx : PySem.W.codeIn K cdrx "Search.__rxor__" = true)
    (krx : PySem.W.keepIn K (.ref frx) = true)
    (asu : PySem.W.findIn K (.ref C) "__sub__" = some (some (.ref fsu)))
    (isu : PySem.W.isFn K (.ref fsu) = true)
    (lsu : K.lookup fsu = some ⟨ocsu, odsu, .func (PySem.W.fnOf "__sub__" "Search.__sub__" (defArgs sSub) (defBody sSub) (defScope sSub) .none kVsu dcsu pmsu ansu cdsu ctsu), slsu⟩)
    (csu : PySem.W.codeIn K cdsu "Search.__sub__" = true)
    (ksu : PySem.W.keepIn K (.ref fsu) = true)
    (ars : PySem.W.findIn K (.ref C) "__rsub__" = some (some (.ref frs)))
    (irs : PySem.W.isFn K (.ref frs) = true)
    (lrs : K.lookup frs = some ⟨ocrs, odrs, .func (PySem.W.fnOf "__rsub__" "Search.__rsub__" (defArgs sRsub) (defBody sRsub) (defScope sRsub) .none kVrs dcrs pmrs anrs cdrs ctrs), slrs⟩)
    (crs : PySem.W.codeIn K cdrs "Search.__rsub__" = true)
    (krs : PySem.W.keepIn K (.ref frs) = true)
    (aiv : PySem.W.findIn K (.ref C) "__invert__" = some (some (.ref fiv)))
    (iiv : PySem.W.isFn K (.ref fiv) = true)
    (liv : K.lookup fiv = some ⟨ociv, odiv, .func (PySem.W.fnOf "__invert__" "Search.__invert__" (defArgs sInvert) (defBody sInvert) (defScope sInvert) .none kViv dciv pmiv aniv cdiv ctiv), sliv⟩)
    (civ : PySem.W.codeIn K cdiv "Search.__invert__" = true)
    (kiv : PySem.W.keepIn K (.ref fiv) = true)
    (s1and : PySem.W.findIn K (.type "str") "__and__" = some none)
    (s2and : PySem.W.findIn K (.type "str") "__rand__" = some none)
    (s1or : PySem.W.findIn K (.type "str") "__or__" = some none)
    (s2or : PySem.W.findIn K (.type "str") "__ror__" = some none)
    (s1xor : PySem.W.findIn K (.type "str") "__xor__" = some none)
    (s2xor : PySem.W.findIn K (.type "str") "__rxor__" = some none)
    (s1sub : PySem.W.findIn K (.type "str") "__sub__" = some none)
    (s2sub : PySem.W.findIn K (.type "str") "__rsub__" = some none)
    (sF : PySem.W.selfFirst K C = true)
    (sb : PySem.W.subIn K (.type "str") (.ref C) = some false)
    (pg : PySem.W.plainGet K C Str.empty = true)
    (hd : PySem.W.hasDictIn K C = true)
    (po : PySem.W.plainOver K C = true)
    (sa : PySem.W.findIn K (.ref C) "__setattr__" = some (some (.builtin "object.__setattr__")))
    (mk : PySem.W.makesIn K C = true)
    (kc : PySem.W.keepIn K (.ref C) = true)
    (n_parts : PySem.W.findIn K (.ref C) "parts" = some none)
    (n_conditions : PySem.W.findIn K (.ref C) "conditions" = some none)
    (n_shelves : PySem.W.findIn K (.ref C) "shelves" = some none)
    (n_many : PySem.W.findIn K (.ref C) "many" = some none)
    (cC : PySem.W.findIn K (.ref C) "__class__" = some (some (.builtin "object.__class__")))
    (sg : PySem.W.specialIn K (.builtin "object.__class__") "__get__" = some (some (.builtin "getset_descriptor.__get__")))
    (tk : PySem.W.takesIn K (.builtin "object.__class__") = some true)
    (mo : PySem.W.mroIn K C (.type "object") = some true)
    (q1 : PySem.W.subIn K (.ref C) (.type "str") = some false)
    (iC : PySem.W.isClsIn K C = true)
    (tC : PySem.W.typeIn K (.ref C) = some (.type "type"))
    (gS : PySem.W.nsIn K mainGlobals "ShelfError" = some (some (.ref CS)))
    (bS : PySem.W.subIn K (.ref CS) (.type "BaseException") = some true)
    (iS : PySem.W.isClsIn K CS = true)
    (tS : PySem.W.typeIn K (.ref CS) = some (.type "type"))
    (gB : PySem.W.nsIn K mainGlobals "BadWord" = some (some (.ref CB)))
    (xB : K.lookup CB = some (excClassObj nmB qnB CB NB bsB bmB true snB subB abB colB ddB m0B m1B m2B m3B m5B "ValueError.__new__"))
    (vB : HandSPX.refsVE bmB = true)
    (saB : PySem.W.findIn K (.ref CB) "__setattr__" = some (some (.builtin "object.__setattr__")))
    (gaB : PySem.W.findIn K (.ref CB) "__getattribute__" = some (some (.builtin "BaseException.__getattribute__")))
    (ggB : PySem.W.findIn K (.ref CB) "__getattr__" = some none)
    (eCB : PySem.W.subIn K (.ref CB) (.type "BaseException") = some true)
    (hdB : PySem.W.hasDictIn K CB = true)
    (clB : PySem.W.findIn K (.ref CB) "__class__" = some (some (.builtin "object.__class__")))
    (moB : PySem.W.mroIn K CB (.type "object") = some true)
    (tCB : PySem.W.typeIn K (.ref CB) = some (.type "type"))
    (kCB : PySem.W.keepIn K (.ref CB) = true)
    (nfB : PySem.W.findIn K (.ref CB) "value" = some none)
    (aIB : PySem.W.findIn K (.ref CB) "__init__" = some (some (.ref fIB)))
    (lIB : K.lookup fIB = some ⟨ocIB, odIB, .func (PySem.W.fnOf "__init__" "BadWord.__init__" (defArgs sBWInit) (defBody sBWInit) (defScope sBWInit) .none kVIB dcIB pmIB anIB cdIB ctIB), slIB⟩)
    (cIB : PySem.W.codeIn K cdIB "BadWord.__init__" = true)
    (kIB : PySem.W.keepIn K (.ref fIB) = true)
    (tIB : PySem.W.typeIn K (.ref fIB) = some (.type "function"))
    (xmB : PySem.W.subIn K (.ref CB) (.ref CS) = some true)
    (gT : PySem.W.nsIn K mainGlobals "TooLong" = some (some (.ref CT)))
    (xT : K.lookup CT = some (excClassObj nmT qnT CT NT bsT bmT true snT subT abT colT ddT m0T m1T m2T m3T m5T "ValueError.__new__"))
    (vT : HandSPX.refsVE bmT = true)
    (saT : PySem.W.findIn K (.ref CT) "__setattr__" = some (some (.builtin "object.__setattr__")))
    (gaT : PySem.W.findIn K (.ref CT) "__getattribute__" = some (some (.builtin "BaseException.__getattribute__")))
    (ggT : PySem.W.findIn K (.ref CT) "__getattr__" = some none)
    (eCT : PySem.W.subIn K (.ref CT) (.type "BaseException") = some true)
    (hdT : PySem.W.hasDictIn K CT = true)
    (clT : PySem.W.findIn K (.ref CT) "__class__" = some (some (.builtin "object.__class__")))
    (moT : PySem.W.mroIn K CT (.type "object") = some true)
    (tCT : PySem.W.typeIn K (.ref CT) = some (.type "type"))
    (kCT : PySem.W.keepIn K (.ref CT) = true)
    (nfT : PySem.W.findIn K (.ref CT) "most" = some none)
    (aIT : PySem.W.findIn K (.ref CT) "__init__" = some (some (.ref fIT)))
    (lIT : K.lookup fIT = some ⟨ocIT, odIT, .func (PySem.W.fnOf "__init__" "TooLong.__init__" (defArgs sTLInit) (defBody sTLInit) (defScope sTLInit) .none kVIT dcIT pmIT anIT cdIT ctIT), slIT⟩)
    (cIT : PySem.W.codeIn K cdIT "TooLong.__init__" = true)
    (kIT : PySem.W.keepIn K (.ref fIT) = true)
    (tIT : PySem.W.typeIn K (.ref fIT) = some (.type "function"))
    (xmT : PySem.W.subIn K (.ref CT) (.ref CS) = some true)
    (kBT : PySem.W.subIn K (.ref CB) (.ref CT) = some false)
    (iT : PySem.W.isClsIn K CT = true)
    (nBT : CB ≠ CT)
    (gL : PySem.W.nsIn K mainGlobals "LETTERS" = some (some (.str letters tL)))
    (gN : PySem.W.nsIn K mainGlobals "LONGEST_NAME" = some (some (.int 8 tN)))
    (gP : PySem.W.nsIn K mainGlobals "LONGEST_PATH" = some (some (.int 3 tP)))
    (gM : PySem.W.nsIn K mainGlobals "MOST_CONDITIONS" = some (some (.int 16 tM)))
    (gR : PySem.W.nsIn K mainGlobals "ROW_WORDS" = some (some (.ref aR)))
    (lR : K.lookup aR = some ⟨.type "tuple", dR, .seq #[.str "and" u1, .str "or" u2, .str "either" u3] nR, slR⟩)
    (z_isinstance : PySem.W.nsIn K mainGlobals "isinstance" = some none)
    (z_str : PySem.W.nsIn K mainGlobals "str" = some none)
    (z_len : PySem.W.nsIn K mainGlobals "len" = some none)
    (z_all : PySem.W.nsIn K mainGlobals "all" = some none)
    (z_tuple : PySem.W.nsIn K mainGlobals "tuple" = some none)
    (z_sorted : PySem.W.nsIn K mainGlobals "sorted" = some none)
    (z_set : PySem.W.nsIn K mainGlobals "set" = some none)
    (z_int : PySem.W.nsIn K mainGlobals "int" = some none)
    (z_abs : PySem.W.nsIn K mainGlobals "abs" = some none)
    (z_range : PySem.W.nsIn K mainGlobals "range" = some none)
    (z_max : PySem.W.nsIn K mainGlobals "max" = some none)
    (z_min : PySem.W.nsIn K mainGlobals "min" = some none) :
    ∃ fd : FuncData, (∀ (s : Shared) (v : Value), BindsTo s fd ⟨[v], []⟩ [("_law_script", v)]) ∧ ∀ base : Heap, K.In base → base.Ns mainGlobals mg → FnOk l.prog w K mg base CX0 26 fa fd ["_law_script"] (spLaw K) := by
  have e := hfa.symm.trans (PySem.W.mg_of X G aLa)
  cases e
  refine ⟨PySem.W.fnOf "law" "law" (defArgs sLaw) (defBody sLaw) (defScope sLaw) .none kVLa dcLa pmLa anLa cdLa ctLa, fun s v => .of_eq rfl, fun base _ _ => ?_⟩
  have FNm := fun_mk (st := sIsName) lNm cNm kNm
  have bNm := FNm.binds (ps := ["value"]) fun _ _ _ _ _ _ us hl => match us, hl with | [_], _ => rfl
  have FPa := fun_mk (st := sIsPath) lPa cPa kPa
  have bPa := FPa.binds (ps := ["value"]) fun _ _ _ _ _ _ us hl => match us, hl with | [_], _ => rfl
  have FCd := fun_mk (st := sConds) lCd cCd kCd
  have bCd := FCd.binds (ps := ["parts"]) fun _ _ _ _ _ _ us hl => match us, hl with | [_], _ => rfl
  have FSh := fun_mk (st := sShelves) lSh cSh kSh
  have bSh := FSh.binds (ps := ["conditions"]) fun _ _ _ _ _ _ us hl => match us, hl with | [_], _ => rfl
  have FAt := fun_mk (st := sAt) lAt cAt kAt
  have bAt := FAt.binds (ps := ["path"]) fun _ _ _ _ _ _ us hl => match us, hl with | [_], _ => rfl
  have FMa := fun_mk (st := sMarked) lMa cMa kMa
  have bMa := FMa.binds (ps := ["name"]) fun _ _ _ _ _ _ us hl => match us, hl with | [_], _ => rfl
  have FSf := fun_mk (st := sShelf) lSf cSf kSf
  have bSf := FSf.binds (ps := ["name"]) fun _ _ _ _ _ _ us hl => match us, hl with | [_], _ => rfl
  have FEv := fun_mk (st := sEvery) lEv cEv kEv
  have bEv := FEv.binds (ps := ([] : List Str)) fun _ _ _ _ _ _ us hl => match us, hl with | [], _ => rfl
  have FNo := fun_mk (st := sNothing) lNo cNo kNo
  have bNo := FNo.binds (ps := ([] : List Str)) fun _ _ _ _ _ _ us hl => match us, hl with | [], _ => rfl
  have FFo := fun_mk (st := sFolder) lFo cFo kFo
  have bFo := FFo.binds (ps := ["word", "path"]) fun _ _ _ _ _ _ us hl => match us, hl with | [_, _], _ => rfl
  have FNa := fun_mk (st := sNamed) lNa cNa kNa
  have bNa := FNa.binds (ps := ["word", "name"]) fun _ _ _ _ _ _ us hl => match us, hl with | [_, _], _ => rfl
  have FSo := fun_mk (st := sSearchOf) lSo cSo kSo
  have bSo := FSo.binds (ps := ["operand"]) fun _ _ _ _ _ _ us hl => match us, hl with | [_], _ => rfl
  have FRo := fun_mk (st := sRow) lRo cRo kRo
  have bRo := FRo.binds (ps := ["word", "one", "other"]) fun _ _ _ _ _ _ us hl => match us, hl with | [_, _, _], _ => rfl
  have FMe := fun_mk (st := sMembers) lMe cMe kMe
  have bMe := FMe.binds (ps := ["word", "search"]) fun _ _ _ _ _ _ us hl => match us, hl with | [_, _], _ => rfl
  have FPo := fun_mk (st := sPot) lPo cPo kPo
  have bPo := FPo.binds (ps := ["_law_script", "_law_k"]) fun _ _ _ _ _ _ us hl => match us, hl with | [_, _], _ => rfl
  have FTa := fun_mk (st := sTake) lTa cTa kTa
  have bTa := FTa.binds (ps := ["_law_pot_here", "_law_upto"]) fun _ _ _ _ _ _ us hl => match us, hl with | [_, _], _ => rfl
  have FOf := fun_mk (st := sOf) lOf cOf kOf
  have bOf := FOf.binds (ps := ["_law_pot_here", "_law_some"]) fun _ _ _ _ _ _ us hl => match us, hl with | [_, _], _ => rfl
  have FOm := fun_mk (st := sOfMany) lOm cOm kOm
  have bOm := FOm.binds (ps := ["_law_pot_here", "_law_many"]) fun _ _ _ _ _ _ us hl => match us, hl with | [_, _], _ => rfl
  have FJo := fun_mk (st := sJoined) lJo cJo kJo
  have bJo := FJo.binds (ps := ["_law_word", "_law_one", "_law_other"]) fun _ _ _ _ _ _ us hl => match us, hl with | [_, _, _], _ => rfl
  have FHe := fun_mk (st := sHeard) lHe cHe kHe
  have bHe := FHe.binds (ps := ["_law_word", "_law_one", "_law_other"]) fun _ _ _ _ _ _ us hl => match us, hl with | [_, _, _], _ => rfl
  have FRi := fun_mk (st := sRight) lRi cRi kRi
  have bRi := FRi.binds (ps := ["_law_pot_here"]) fun _ _ _ _ _ _ us hl => match us, hl with | [_], _ => rfl
  have FLa := fun_mk (st := sLaw) lLa cLa kLa
  have bLa := FLa.binds (ps := ["_law_script"]) fun _ _ _ _ _ _ us hl => match us, hl with | [_], _ => rfl
  have FIn := fun_mk (st := sSInit) lIn cIn kIn
  have bIn := FIn.binds (ps := ["self", "parts"]) fun _ _ _ _ _ _ us hl => match us, hl with | [_, _], _ => rfl
  have Fan := fun_mk (st := sAnd) lan can kan
  have ban := Fan.binds (ps := ["self", "other"]) fun _ _ _ _ _ _ us hl => match us, hl with | [_, _], _ => rfl
  have Fra := fun_mk (st := sRand) lra cra kra
  have bra := Fra.binds (ps := ["self", "other"]) fun _ _ _ _ _ _ us hl => match us, hl with | [_, _], _ => rfl
  have Foo := fun_mk (st := sOr) loo coo koo
  have boo := Foo.binds (ps := ["self", "other"]) fun _ _ _ _ _ _ us hl => match us, hl with | [_, _], _ => rfl
  have Fro := fun_mk (st := sRor) lro cro kro
  have bro := Fro.binds (ps := ["self", "other"]) fun _ _ _ _ _ _ us hl => match us, hl with | [_, _], _ => rfl
  have Fxo := fun_mk (st := sXor) lxo cxo kxo
  have bxo := Fxo.binds (ps := ["self", "other"]) fun _ _ _ _ _ _ us hl => match us, hl with | [_, _], _ => rfl
  have Frx := fun_mk (st := sRxor) lrx crx krx
  have brx := Frx.binds (ps := ["self", "other"]) fun _ _ _ _ _ _ us hl => match us, hl with | [_, _], _ => rfl
  have Fsu := fun_mk (st := sSub) lsu csu ksu
  have bsu := Fsu.binds (ps := ["self", "other"]) fun _ _ _ _ _ _ us hl => match us, hl with | [_, _], _ => rfl
  have Frs := fun_mk (st := sRsub) lrs crs krs
  have brs := Frs.binds (ps := ["self", "other"]) fun _ _ _ _ _ _ us hl => match us, hl with | [_, _], _ => rfl
  have Fiv := fun_mk (st := sInvert) liv civ kiv
  have biv := Fiv.binds (ps := ["self"]) fun _ _ _ _ _ _ us hl => match us, hl with | [_], _ => rfl
  have FIB := fun_mk (st := sBWInit) lIB cIB kIB
  have bIB := FIB.binds (ps := ["self", "value"]) fun _ _ _ _ _ _ us hl => match us, hl with | [_, _], _ => rfl
  have FIT := fun_mk (st := sTLInit) lIT cIT kIT
  have bIT := FIT.binds (ps := ["self", "most"]) fun _ _ _ _ _ _ us hl => match us, hl with | [_, _], _ => rfl
  have B : Blt mg := ⟨PySem.W.mg_none_of X G z_isinstance, PySem.W.mg_none_of X G z_str, PySem.W.mg_none_of X G z_len, PySem.W.mg_none_of X G z_all⟩
  have B2 : Blt2 mg := ⟨PySem.W.mg_none_of X G z_tuple, PySem.W.mg_none_of X G z_sorted, PySem.W.mg_none_of X G z_set⟩
  have B4 : Blt4 mg := ⟨PySem.W.mg_none_of X G z_int, PySem.W.mg_none_of X G z_abs⟩
  have B5 : Blt5 mg := ⟨PySem.W.mg_none_of X G z_range⟩
  have B6 : Blt6 mg := ⟨PySem.W.mg_none_of X G z_max, PySem.W.mg_none_of X G z_min⟩
  have T : Cst K mg := ⟨⟨_, PySem.W.mg_of X G gL⟩, ⟨_, PySem.W.mg_of X G gN⟩, ⟨_, PySem.W.mg_of X G gP⟩⟩
  have T2 : Cst2 K mg := ⟨_, PySem.W.mg_of X G gR, fun H => .inr ⟨_, _, _, lR, rfl, rfl, by show 3 ≤ sizeLine; decide, .cons ⟨_, rfl⟩ (.cons ⟨_, rfl⟩ (.cons ⟨_, rfl⟩ .nil))⟩⟩
  have T3 : Cst3 mg := ⟨_, PySem.W.mg_of X G gM⟩
  have cls : Cls K C := ⟨pg, hd, po, sa⟩
  have S : SrchT K mg C := ⟨cls, n_parts, n_conditions, n_shelves, n_many, PySem.W.mg_of X G gC⟩
  have TY : TyS K C := ⟨cls, cC, sg, tk, mo, kit_str q1, kit_any1, kit_any2 iC tC sb, kit_self⟩
  have oxB : OexC K CB := ⟨⟨_, _, _, _, _, _, _, _, _, _, _, _, _, _, _, xB, vB⟩, saB, eCB, tCB, kCB⟩
  have oxT : OexC K CT := ⟨⟨_, _, _, _, _, _, _, _, _, _, _, _, _, _, _, xT, vT⟩, saT, eCT, tCT, kCT⟩
  have fB : XfC K CB := ⟨gaB, ggB, eCB, hdB⟩
  have fT : XfC K CT := ⟨gaT, ggT, eCT, hdT⟩
  have eB : ExcC K CB := ⟨gaB, ggB, eCB, hdB, clB, sg, tk, moB⟩
  have eT : ExcC K CT := ⟨gaT, ggT, eCT, hdT, clT, sg, tk, moT⟩
  have EK : ErrK K mg CS CB CT := ⟨PySem.W.mg_of X G gS, PySem.W.mg_of X G gB, PySem.W.mg_of X G gT, exm_up bS iS tS xmB, exm_up bS iS tS xmT, eB, eT, fB, fT, nfB, nfT, kit_ref (fun z => nBT (by injection z)) iT tCT kBT, kit_self, kit_self⟩
  have DNm : Def l.prog w K mg base CX0 1 "is_name" ["value"] (spIsName K) := ⟨_, _, PySem.W.mg_of X G aNm, kNm, bNm, ok_isName FNm B T⟩
  have DPa : Def l.prog w K mg base CX0 2 "is_path" ["value"] (spIsPath K) := ⟨_, _, PySem.W.mg_of X G aPa, kPa, bPa, ok_isPath FPa B T (ok_isName FNm B T) (PySem.W.mg_of X G aNm) kNm bNm⟩
  have MS : MkS l.prog w K mg base C := ⟨⟨_, _, ⟨mk, aIn, iIn, kc⟩, bIn, ok_sinit FIn B S (ok_conds FCd B2 T2 S) (PySem.W.mg_of X G aCd) kCd bCd (ok_shelves FSh B B2) (PySem.W.mg_of X G aSh) kSh bSh⟩, PySem.W.mg_of X G gC⟩
  have MB : MkE l.prog w K mg base "BadWord" "value" CB := ⟨_, _, _, ⟨oxB, fB, eB, nfB, aIB, tIB, PySem.W.mg_of X G gB⟩, bIB, ok_bw FIB oxB nfB⟩
  have MT : MkE l.prog w K mg base "TooLong" "most" CT := ⟨_, _, _, ⟨oxT, fT, eT, nfT, aIT, tIT, PySem.W.mg_of X G gT⟩, bIT, ok_tl FIT oxT nfT⟩
  have DNa : Def l.prog w K mg base (L2.CX l.prog w) 4 "name_search" ["word", "name"] (spMake nameB C CB) := ⟨_, _, PySem.W.mg_of X G aNa, kNa, bNa, ok_named FNa DNm MS MB⟩
  have DFo : Def l.prog w K mg base (L2.CX l.prog w) 4 "folder_search" ["word", "path"] (spMake pathB C CB) := ⟨_, _, PySem.W.mg_of X G aFo, kFo, bFo, ok_folder FFo DPa MS MB⟩
  have DAt : Def l.prog w K mg base (L2.CX l.prog w) 5 "at" ["path"] (spOne "at" pathB C CB) := ⟨_, _, PySem.W.mg_of X G aAt, kAt, bAt, ok_at FAt DFo⟩
  have DMa : Def l.prog w K mg base (L2.CX l.prog w) 5 "marked" ["name"] (spOne "marked" nameB C CB) := ⟨_, _, PySem.W.mg_of X G aMa, kMa, bMa, ok_marked FMa DNa⟩
  have DSf : Def l.prog w K mg base (L2.CX l.prog w) 5 "shelf" ["name"] (spOne "shelf" nameB C CB) := ⟨_, _, PySem.W.mg_of X G aSf, kSf, bSf, ok_shelf FSf DNa⟩
  have DEv : Def l.prog w K mg base CX0 4 "everything" [] (spZero "everything" C) := ⟨_, _, PySem.W.mg_of X G aEv, kEv, bEv, ok_every FEv MS⟩
  have DNo : Def l.prog w K mg base CX0 4 "nothing" [] (spZero "nothing" C) := ⟨_, _, PySem.W.mg_of X G aNo, kNo, bNo, ok_nothing FNo MS⟩
  have DSo : Def l.prog w K mg base (L2.CX l.prog w) 6 "search_of" ["operand"] (spSearchOf C CB) := ⟨_, _, PySem.W.mg_of X G aSo, kSo, bSo, ok_searchOf FSo B TY DSf⟩
  have DMe : Def l.prog w K mg base CX0 1 "members_for" ["word", "search"] (spMembers C) := ⟨_, _, PySem.W.mg_of X G aMe, kMe, bMe, ok_members FMe S⟩
  have DRo : Def l.prog w K mg base (L2.CX l.prog w) 4 "row_of" ["word", "one", "other"] (spRow C CT) := ⟨_, _, PySem.W.mg_of X G aRo, kRo, bRo, ok_row FRo S T3 DMe MS MT⟩
  have IV : InvS l.prog w K mg base C := ⟨_, _, aiv, iiv, biv, ok_invert Fiv S MS⟩
  have R : Rows l.prog w K mg base C CB CT := ⟨DRo, DSo, DSf⟩
  have gC' := PySem.W.mg_of X G gC
  have Oand : OwnBin K C "and" fan (some (.ref fra)) := ⟨sF, aan, ian, ara, s1and, s2and, sb⟩
  have Oor : OwnBin K C "or" foo (some (.ref fro)) := ⟨sF, aoo, ioo, aro, s1or, s2or, sb⟩
  have Oxor : OwnBin K C "xor" fxo (some (.ref frx)) := ⟨sF, axo, ixo, arx, s1xor, s2xor, sb⟩
  have Osub : OwnBin K C "sub" fsu (some (.ref frs)) := ⟨sF, asu, isu, ars, s1sub, s2sub, sb⟩
  have OP : Ops l.prog w K mg base C CB CT := ⟨⟨_, _, _, Oand, .inr ⟨_, rfl⟩, ban, ok_And Fan B gC' TY R⟩, ⟨_, _, _, Oor, .inr ⟨_, rfl⟩, boo, ok_Or Foo B gC' TY R⟩, ⟨_, _, _, Oxor, .inr ⟨_, rfl⟩, bxo, ok_Xor Fxo B gC' TY R⟩, ⟨_, _, _, Osub, .inr ⟨_, rfl⟩, bsu, ok_Sub Fsu B gC' TY R IV⟩,
    ⟨_, _, _, Oand, ira, bra, ok_Rand Fra B R⟩, ⟨_, _, _, Oor, iro, bro, ok_Ror Fro B R⟩, ⟨_, _, _, Oxor, irx, brx, ok_Rxor Frx B R⟩, ⟨_, _, _, Osub, irs, brs, ok_Rsub Frs B R IV⟩⟩
  have MK : Makers l.prog w K mg base C CB := ⟨DAt, DMa, DEv, DNo⟩
  have DPo : Def l.prog w K mg base CX0 1 "_law_pot" ["_law_script", "_law_k"] (spPot K) := ⟨_, _, PySem.W.mg_of X G aPo, kPo, bPo, ok_pot FPo B B4⟩
  have DTa : Def l.prog w K mg base CX0 1 "_law_take" ["_law_pot_here", "_law_upto"] spTake := ⟨_, _, PySem.W.mg_of X G aTa, kTa, bTa, ok_take FTa B4⟩
  have DOf : Def l.prog w K mg base CX0 2 "_law_of" ["_law_pot_here", "_law_some"] spOf := ⟨_, _, PySem.W.mg_of X G aOf, kOf, bOf, ok_of FOf B DTa⟩
  have DOm : Def l.prog w K mg base CX0 24 "_law_of_many" ["_law_pot_here", "_law_many"] (spMany C 16) := ⟨_, _, PySem.W.mg_of X G aOm, kOm, bOm, ok_ofMany FOm (PySem.W.mg_of X G aOm) kOm bOm DTa DOf MK OP IV 16⟩
  have DJo : Def l.prog w K mg base (L2.CX l.prog w) 8 "_law_joined" ["_law_word", "_law_one", "_law_other"] (spJoined C CB CT) := ⟨_, _, PySem.W.mg_of X G aJo, kJo, bJo, ok_joined FJo OP⟩
  have DHe : Def l.prog w K mg base CX0 9 "_law_heard" ["_law_word", "_law_one", "_law_other"] (spHeard C) := ⟨_, _, PySem.W.mg_of X G aHe, kHe, bHe, ok_heard FHe B S TY EK DJo⟩
  have DRi : Def l.prog w K mg base CX0 25 "_law_right" ["_law_pot_here"] spRight := ⟨_, _, PySem.W.mg_of X G aRi, kRi, bRi, ok_right FRi B5 S IV DTa DOf DOm DHe⟩
  exact ok_law FLa B B5 B6 DPo DRi
theorem walk {l : PySem.W.OpenLaw} {q : Program} {loose : List Str} {XP : (Str → Option Value) → Heap → Prop} {YP : World → Heap → Prop} {d : DefRec} {K : Params → PySem.W.Frag} (hn : l.most = some 63) (hdf : d.params.defaults = [])
    (hY : ∀ (w : World) (h : Heap), YP w h → (K w.params).In h)
    (F : ∀ (w : World) (mg : Str → Option Value) (fa : Addr) (h : Heap), (K w.params).In h → h.Ns mainGlobals mg → mg d.name = some (.ref fa) →
      ∃ fd : FuncData, (∀ (s : Shared) (u : Value), BindsTo s fd ⟨[u], []⟩ [("_law_script", u)]) ∧ ∀ base : Heap, (K w.params).In base → base.Ns mainGlobals mg → FnOk l.prog w (K w.params) mg base CX0 26 fa fd ["_law_script"] (spLaw (K w.params))) :
    PySem.W.WalkO q loose XP YP l.row.toRowW d [] (fun f vs => PySem.call f vs) :=
  L2.walk_of (n := 63) (k := 26) (x := "_law_script") (CX := fun _ => CX0) (sp := fun w => spLaw (K w.params)) hn (by decide) hdf ⟨rfl, by decide, by decide⟩ hY F (fun _ _ a ns hl _ hS => ⟨a, ns, rfl, hS, hl, fun _ => rfl⟩) fun _ _ _ _ _ z => z
end WK
open PySem PySem.W PyProof.Rows
set_option maxRecDepth 100000 in
set_option maxHeartbeats 0 in
theorem PySem.Challenge.cw_wishshelves_k08_searches_too_long_holds : PySem.Challenge.rw_wishshelves_k08_searches_too_long.Holds := by
  w_on; o_law; k_head; (case hw => w_witness2)
  k_fill
  refine WK.walk (l := PySem.Challenge.rw_wishshelves_k08_searches_too_long) rfl rfl (fun w h Y => PySem.W.kIn_of Y) ?F
  case F =>
    intro w mg fa h KX G hmg
    refine' WK.all_mk KX G hmg ?aNm ?lNm ?cNm ?kNm ?aPa ?lPa ?cPa ?kPa ?aCd ?lCd ?cCd ?kCd ?aSh ?lSh ?cSh ?kSh ?aAt ?lAt ?cAt ?kAt ?aMa ?lMa ?cMa ?kMa ?aSf ?lSf ?cSf ?kSf ?aEv ?lEv ?cEv ?kEv ?aNo ?lNo ?cNo ?kNo ?aFo ?lFo ?cFo ?kFo ?aNa ?lNa ?cNa ?kNa ?aSo ?lSo ?cSo ?kSo ?aRo ?lRo ?cRo ?kRo ?aMe ?lMe ?cMe ?kMe ?aPo ?lPo ?cPo ?kPo ?aTa ?lTa ?cTa ?kTa ?aOf ?lOf ?cOf ?kOf ?aOm ?lOm ?cOm ?kOm ?aJo ?lJo ?cJo ?kJo ?aHe ?lHe ?cHe ?kHe ?aRi ?lRi ?cRi ?kRi ?aLa ?lLa ?cLa ?kLa ?gC ?aIn ?iIn ?lIn ?cIn ?kIn ?aan ?ian ?lan ?can ?kan ?ara ?ira ?lra ?cra ?kra ?aoo ?ioo ?loo ?coo ?koo ?aro ?iro ?lro ?cro ?kro ?axo ?ixo ?lxo ?cxo ?kxo ?arx ?irx ?lrx ?crx ?krx ?asu ?isu ?lsu ?csu ?ksu ?ars ?irs ?lrs ?crs ?krs ?aiv ?iiv ?liv ?civ ?kiv ?s1and ?s2and ?s1or ?s2or ?s1xor ?s2xor ?s1sub ?s2sub ?sF ?sb ?pg ?hd ?po ?sa ?mk ?kc ?n_parts ?n_conditions ?n_shelves ?n_many ?cC ?sg ?tk ?mo ?q1 ?iC ?tC ?gS ?bS ?iS ?tS ?gB ?xB ?vB ?saB ?gaB ?ggB ?eCB ?hdB ?clB ?moB ?tCB ?kCB ?nfB ?aIB ?lIB ?cIB ?kIB ?tIB ?xmB ?gT ?xT ?vT ?saT ?gaT ?ggT ?eCT ?hdT ?clT ?moT ?tCT ?kCT ?nfT ?aIT ?lIT ?cIT ?kIT ?tIT ?xmT ?kBT ?iT ?nBT ?gL ?gN ?gP ?gM ?gR ?lR ?z_isinstance ?z_str ?z_len ?z_all ?z_tuple ?z_sorted ?z_set ?z_int ?z_abs ?z_range ?z_max ?z_min
    (case aNm => k_is)
    (case lNm => k_is)
    (case cNm => k_is)
    (case kNm => k_is)
    (case aPa => k_is)
    (case lPa => k_is)
    (case cPa => k_is)
    (case kPa => k_is)
    (case aCd => k_is)
    (case lCd => k_is)
    (case cCd => k_is)
    (case kCd => k_is)
    (case aSh => k_is)
    (case lSh => k_is)
    (case cSh => k_is)
    (case kSh => k_is)
    (case aAt => k_is)
    (case lAt => k_is)
    (case cAt => k_is)
    (case kAt => k_is)
    (case aMa => k_is)
    (case lMa => k_is)
    (case cMa => k_is)
    (case kMa => k_is)
    (case aSf => k_is)
    (case lSf => k_is)
    (case cSf => k_is)
    (case kSf => k_is)
    (case aEv => k_is)
    (case lEv => k_is)
    (case cEv => k_is)
    (case kEv => k_is)
    (case aNo => k_is)
    (case lNo => k_is)
    (case cNo => k_is)
    (case kNo => k_is)
    (case aFo => k_is)
    (case lFo => k_is)
    (case cFo => k_is)
    (case kFo => k_is)
    (case aNa => k_is)
    (case lNa => k_is)
    (case cNa => k_is)
    (case kNa => k_is)
    (case aSo => k_is)
    (case lSo => k_is)
    (case cSo => k_is)
    (case kSo => k_is)
    (case aRo => k_is)
    (case lRo => k_is)
    (case cRo => k_is)
    (case kRo => k_is)
    (case aMe => k_is)
    (case lMe => k_is)
    (case cMe => k_is)
    (case kMe => k_is)
    (case aPo => k_is)
    (case lPo => k_is)
    (case cPo => k_is)
    (case kPo => k_is)
    (case aTa => k_is)
    (case lTa => k_is)
    (case cTa => k_is)
    (case kTa => k_is)
    (case aOf => k_is)
    (case lOf => k_is)
    (case cOf => k_is)
    (case kOf => k_is)
    (case aOm => k_is)
    (case lOm => k_is)
    (case cOm => k_is)
    (case kOm => k_is)
    (case aJo => k_is)
    (case lJo => k_is)
    (case cJo => k_is)
    (case kJo => k_is)
    (case aHe => k_is)
    (case lHe => k_is)
    (case cHe => k_is)
    (case kHe => k_is)
    (case aRi => k_is)
    (case lRi => k_is)
    (case cRi => k_is)
    (case kRi => k_is)
    (case aLa => k_is)
    (case lLa => k_is)
    (case cLa => k_is)
    (case kLa => k_is)
    (case gC => k_is)
    (case aIn => k_is)
    (case iIn => k_is)
    (case lIn => k_is)
    (case cIn => k_is)
    (case kIn => k_is)
    (case aan => k_is)
    (case ian => k_is)
    (case lan => k_is)
    (case can => k_is)
    (case kan => k_is)
    (case ara => k_is)
    (case ira => k_is)
    (case lra => k_is)
    (case cra => k_is)
    (case kra => k_is)
    (case aoo => k_is)
    (case ioo => k_is)
    (case loo => k_is)
    (case coo => k_is)
    (case koo => k_is)
    (case aro => k_is)
    (case iro => k_is)
    (case lro => k_is)
    (case cro => k_is)
    (case kro => k_is)
    (case axo => k_is)
    (case ixo => k_is)
    (case lxo => k_is)
    (case cxo => k_is)
    (case kxo => k_is)
    (case arx => k_is)
    (case irx => k_is)
    (case lrx => k_is)
    (case crx => k_is)
    (case krx => k_is)
    (case asu => k_is)
    (case isu => k_is)
    (case lsu => k_is)
    (case csu => k_is)
    (case ksu => k_is)
    (case ars => k_is)
    (case irs => k_is)
    (case lrs => k_is)
    (case crs => k_is)
    (case krs => k_is)
    (case aiv => k_is)
    (case iiv => k_is)
    (case liv => k_is)
    (case civ => k_is)
    (case kiv => k_is)
    (case s1and => k_is)
    (case s2and => k_is)
    (case s1or => k_is)
    (case s2or => k_is)
    (case s1xor => k_is)
    (case s2xor => k_is)
    (case s1sub => k_is)
    (case s2sub => k_is)
    (case sF => k_is)
    (case sb => k_is)
    (case pg => k_is)
    (case hd => k_is)
    (case po => k_is)
    (case sa => k_is)
    (case mk => k_is)
    (case kc => k_is)
    (case n_parts => k_is)
    (case n_conditions => k_is)
    (case n_shelves => k_is)
    (case n_many => k_is)
    (case cC => k_is)
    (case sg => k_is)
    (case tk => k_is)
    (case mo => k_is)
    (case q1 => k_is)
    (case iC => k_is)
    (case tC => k_is)
    (case gS => k_is)
    (case bS => k_is)
    (case iS => k_is)
    (case tS => k_is)
    (case gB => k_is)
    (case xB => k_is)
    (case vB => decide +kernel)
    (case saB => k_is)
    (case gaB => k_is)
    (case ggB => k_is)
    (case eCB => k_is)
    (case hdB => k_is)
    (case clB => k_is)
    (case moB => k_is)
    (case tCB => k_is)
    (case kCB => k_is)
    (case nfB => k_is)
    (case aIB => k_is)
    (case lIB => k_is)
    (case cIB => k_is)
    (case kIB => k_is)
    (case tIB => k_is)
    (case xmB => k_is)
    (case gT => k_is)
    (case xT => k_is)
    (case vT => decide +kernel)
    (case saT => k_is)
    (case gaT => k_is)
    (case ggT => k_is)
    (case eCT => k_is)
    (case hdT => k_is)
    (case clT => k_is)
    (case moT => k_is)
    (case tCT => k_is)
    (case kCT => k_is)
    (case nfT => k_is)
    (case aIT => k_is)
    (case lIT => k_is)
    (case cIT => k_is)
    (case kIT => k_is)
    (case tIT => k_is)
    (case xmT => k_is)
    (case kBT => k_is)
    (case iT => k_is)
    (case nBT => decide +kernel)
    (case gL => k_is)
    (case gN => k_is)
    (case gP => k_is)
    (case gM => k_is)
    (case gR => k_is)
    (case lR => k_is)
    (case z_isinstance => k_is)
    (case z_str => k_is)
    (case z_len => k_is)
    (case z_all => k_is)
    (case z_tuple => k_is)
    (case z_sorted => k_is)
    (case z_set => k_is)
    (case z_int => k_is)
    (case z_abs => k_is)
    (case z_range => k_is)
    (case z_max => k_is)
    (case z_min => k_is)
