import PyProof.Rows.All
import Wide.All
import OpenK.AllK
import Wide.FinOn
import HandS.ForMost
import HandS.Wide
import HandS.Deep
import HandS.IsInst
import HandS.Strs
import HandS.Codes
import HandS.Gcd
import KE.SortData
import KE.DataMinMax
import HandS.SetFor
import HandS.OwnEq
import HandS.Zip
import PySem.Challenge.RW_darkpace_k58_whole_all_hands_led_back
set_option Elab.async false
set_option linter.all false
set_option maxRecDepth 100000
set_option exponentiation.threshold 3000
set_option maxHeartbeats 16000000
/-! Rules of our own: data under a growing heap, sorted and max and min of data, set of ints, a written dict's item, a method called with a keyword. -/
namespace DP
open PySem PySem.Spec PyProof.Rows L2

theorem rooms {A : Around} {k : Nat} (hr : Room k A) : A.units + 65 < cLine := by have := hr.un; omega

theorem Same.rd {H H' : Hp} {a : Addr} {u : HO} (S : Same H H') (h : Rd H a u) : Rd H' a u := by
  rcases h with h | ⟨o, h⟩
  · exact Or.inl (S _ _ h)
  · exact Or.inr ⟨o, S _ _ h⟩
theorem Same.sqT {K : PySem.W.Frag} {H H' : Hp} {a : Addr} {xs : List V} (S : Same H H') (h : SqT K H a xs) : SqT K H' a xs := by
  rcases h with h | h
  · exact Or.inl (Same.rd S h)
  · exact Or.inr h
theorem Same.sqL {K : PySem.W.Frag} {H H' : Hp} {a : Addr} {xs : List V} (S : Same H H') (h : SqL K H a xs) : SqL K H' a xs := by
  rcases h with h | h
  · exact Or.inl (Same.rd S h)
  · exact Or.inr h
mutual
theorem dp_mono {K : PySem.W.Frag} {H H' : Hp} (S : Same H H') : ∀ (d : PyData) (v : V), Dp K H v d → Dp K H' v d
  | .none, _, h => by cases h; exact .non
  | .bool b, _, h => by cases h; exact .bl _
  | .int b, _, h => by cases h; exact .int _
  | .str b, _, h => by cases h; exact .str _
  | .list ds, _, h => by
    cases h with
    | lst s a => exact .lst (Same.sqL S s) (dpAll_mono S ds _ a)
  | .tuple ds, _, h => by
    cases h with
    | tup s a => exact .tup (Same.sqT S s) (dpAll_mono S ds _ a)
  | .dict _, _, h => by cases h
theorem dpAll_mono {K : PySem.W.Frag} {H H' : Hp} (S : Same H H') : ∀ (ds : List PyData) (vs : List V), DpAll K H vs ds → DpAll K H' vs ds
  | [], _, h => by cases h; exact .nil
  | d :: ds, _, h => by
    cases h with
    | cons a b => exact .cons (dp_mono S d _ a) (dpAll_mono S ds _ b)
end
section
variable {K : PySem.W.Frag} {H : Hp}
theorem dpAll_len : ∀ {vs : List V} {ds : List PyData}, DpAll K H vs ds → vs.length = ds.length
  | _, _, .nil => rfl
  | _, _, .cons _ t => by rw [List.length_cons, List.length_cons, dpAll_len t]
theorem dpAll_get : ∀ {vs : List V} {ds : List PyData} {i : Nat} {v : V}, DpAll K H vs ds → vs[i]? = some v → ∃ d, ds[i]? = some d ∧ Dp K H v d
  | _, _, _, _, .nil, e => by simp at e
  | _, _, 0, _, .cons r _, e => by simp at e; subst e; exact ⟨_, rfl, r⟩
  | _, _, i + 1, v, .cons _ t, e => by
    obtain ⟨d, h1, h2⟩ := dpAll_get (i := i) (v := v) t (by simpa using e)
    exact ⟨d, by simpa using h1, h2⟩
theorem dpAll_get' : ∀ {vs : List V} {ds : List PyData} {i : Nat} {d : PyData}, DpAll K H vs ds → ds[i]? = some d → ∃ v, vs[i]? = some v ∧ Dp K H v d
  | _, _, _, _, .nil, e => by simp at e
  | _, _, 0, _, .cons r _, e => by simp at e; subst e; exact ⟨_, rfl, r⟩
  | _, _, i + 1, v, .cons _ t, e => by
    obtain ⟨d, h1, h2⟩ := dpAll_get' (i := i) (d := v) t (by simpa using e)
    exact ⟨d, by simpa using h1, h2⟩
theorem dpAll_snoc : ∀ {vs : List V} {ds : List PyData} {v : V} {d : PyData}, DpAll K H vs ds → Dp K H v d → DpAll K H (vs ++ [v]) (ds ++ [d])
  | _, _, _, _, .nil, r => .cons r .nil
  | _, _, _, _, .cons q t, r => .cons q (dpAll_snoc t r)
theorem dpAll_app : ∀ {vs ws : List V} {ds es : List PyData}, DpAll K H vs ds → DpAll K H ws es → DpAll K H (vs ++ ws) (ds ++ es)
  | _, _, _, _, .nil, r => r
  | _, _, _, _, .cons q t, r => .cons q (dpAll_app t r)
theorem dpAll_ints : ∀ ns : List Int, DpAll K H (ns.map V.int) (ns.map PyData.int)
  | [] => .nil
  | n :: ns => .cons (.int n) (dpAll_ints ns)
theorem dpAll_int : ∀ {vs : List V} {ns : List Int}, DpAll K H vs (ns.map PyData.int) → vs = ns.map V.int
  | _, [], h => by cases h; rfl
  | _, n :: ns, h => by
    have h' : DpAll K H _ (PyData.int n :: ns.map PyData.int) := h
    cases h' with
    | cons a b =>
      cases a
      rw [dpAll_int b]; rfl
theorem same_upd {H : Hp} {p : Addr} {o : HO} (h : H p = none) : Same H (upd H p o) := fun b u e => by rw [upd_ne (ne_of_none e h)]; exact e
end

section
variable {X : Cx}
/-- sorted(xs): xs a list of alike data, of any length; P is what is known of each -/
def rSortD (K : PySem.W.Frag) {β : Type} (enc : β → PyData) : List V → Hp → VK → Prop := fun vs H Q => ∃ (a : Addr) (xs : List V) (bs : List β), vs = [V.ref a] ∧ SqL K H a xs ∧ DpAll K H xs (bs.map enc) ∧
  PySem.W.AllAlike (bs.map enc) ∧ PySem.W.Sortable (bs.map enc) ∧ (∀ b ∈ bs, (enc b).depth ≤ 60) ∧
  ∀ (p : Addr) (ys : List V) H', H p = none → Same H H' → H' p = some (.lst ys) → DpAll K H' ys ((bs.mergeSort (PySem.W.dataLe false enc)).map enc) → Q (.ref p) H'
theorem each_vals {K : PySem.W.Frag} {H : Hp} {β : Type} {enc : β → PyData} : ∀ {xs : List V} {us : List Value} {bs : List β}, Vals xs us → DpAll K H xs (bs.map enc) → PySem.W.EachIs (fun u b => ∃ x, RelV x u ∧ Dp K H x (enc b)) us bs
  | _, _, [], r, d => by
    have d' : DpAll K H _ [] := d
    cases d'
    cases r
    exact .nil
  | _, _, b :: bs, r, d => by
    have d' : DpAll K H _ (enc b :: bs.map enc) := d
    cases d' with
    | cons d1 d2 =>
      cases r with
      | cons r1 r2 => exact .cons ⟨_, r1, d1⟩ (each_vals r2 d2)
theorem vals_each {K : PySem.W.Frag} {H : Hp} {β : Type} {enc : β → PyData} : ∀ {us : List Value} {bs : List β}, PySem.W.EachIs (fun u b => ∃ x, RelV x u ∧ Dp K H x (enc b)) us bs → ∃ xs, Vals xs us ∧ DpAll K H xs (bs.map enc)
  | _, _, .nil => ⟨[], .nil, .nil⟩
  | _, _, .cons ⟨x, r, d⟩ t => by
    obtain ⟨xs, h1, h2⟩ := vals_each t
    exact ⟨x :: xs, .cons r h1, .cons d h2⟩
theorem cr_sortD {β : Type} (enc : β → PyData) (hu : X.A.units + 65 < cLine) : CallR X (.builtin "sorted") (rSortD X.K enc) := by
  intro pins s σ H vs us Q I r h
  obtain ⟨a, xs, bs, rfl, hs, hd, hal, hk, hdep, q⟩ := h
  obtain ⟨its, rv, hl, hz⟩ := I.list hs
  rw [Vals.ref1 r]
  have hlen : its.length = bs.length := by rw [← rv.length, dpAll_len hd, List.length_map]
  have e := each_vals rv hd
  obtain ⟨as, ra⟩ := Dp.readsAll I _ _ _ hd rv
  refine PySem.W.sorted_data (enc := enc) (bs := bs) (vs := its) hl.isList e (PySem.W.readsAll_each enc ra) hal hk (by rw [← hlen, ← rv.length]; exact hz) (fun b hb => ?_) fun out ho eo => ?_
  · have := hdep b hb
    omega
  · obtain ⟨ys, h1, h2⟩ := vals_each eo
    obtain ⟨ep, he'⟩ := PyProof.Rows.sortedAll_at s.heap its (List.toArray out)
    have hn : H (s.heap.objs.size + 1) = none := I.hok.fresh (Nat.le_succ _)
    have hyl : ys.length ≤ sizeLine := by
      rw [h1.length, ho, ← hlen, ← rv.length]; exact hz
    refine ⟨.ref _, upd H (s.heap.objs.size + 1) (.lst ys), I.laid (t' := s.toks) (fun _ _ => PyProof.Rows.sortedAll_old) (Nat.le_succ _) ⟨hyl, out, ep, h1, he'⟩, rfl, q _ ys _ hn (same_upd hn) upd_same ?_⟩
    exact dpAll_mono (same_upd hn) _ _ h2

/-- max(xs), min(xs): xs a list of alike data -/
def rBestD (K : PySem.W.Frag) (best : PyData → List PyData → PyData) : List V → Hp → VK → Prop := fun vs H Q => ∃ (a : Addr) (xs : List V) (d : PyData) (ds : List PyData), vs = [V.ref a] ∧ SqL K H a xs ∧ DpAll K H xs (d :: ds) ∧
  PySem.W.AlikeAll (d :: ds) ∧ PyData.canLayAll0 (d :: ds) = true ∧ PyData.depthAll (d :: ds) ≤ 60 ∧
  ∀ (x : V), Dp K H x (best d ds) → Q x H
theorem best_end {pins : List (Addr × Obj)} {s : Shared} {σ : L2.St} {H : Hp} {Q : VK} (I : Inv X pins σ H s) {xs : List V} {its : List Value} {as : List Addr} {ds : List PyData} (rv : Vals xs its) (hd : DpAll X.K H xs ds) (ra : ReadsAll s.heap its ds as) (hc : PyData.canLayAll0 ds = true) {i : Nat} {v : Value} {h' : Heap} {tk : Nat} {bs : List Addr} {e : PyData} (hi : its.toArray[i]? = some v)
    (hr : Reads h' v e bs) (he : e.canLay0 = true) (hk : ∀ b o, s.heap.get? b = some o → h'.get? b = some o) (q : ∀ x, Dp X.K H x e → Q x H) : EP X pins σ Q v { heap := h', gens := s.gens, drawn := s.drawn, toks := tk, os := s.os } := by
  have hi' : its[i]? = some v := by simpa using hi
  have hlt : i < its.length := by
    rcases Nat.lt_or_ge i its.length with h | h
    · exact h
    · rw [List.getElem?_eq_none h] at hi'; cases hi'
  obtain ⟨x, hx⟩ : ∃ x, xs[i]? = some x := ⟨xs[i]'(by rw [rv.length]; exact hlt), List.getElem?_eq_getElem _⟩
  obtain ⟨u, hu, ru⟩ := rv.get hx
  have euv : u = v := Option.some.inj (hu.symm.trans hi')
  subst euv
  obtain ⟨d, hdi, hdx⟩ := dpAll_get hd hx
  obtain ⟨as', rx⟩ := Dp.reads I d x u hdx ru
  have rx' : Reads h' u d as' := PyProof.Rows.Reads.keeps hk rx
  have hcd : d.canLay0 = true := by
    have : ∀ (ds : List PyData) (i : Nat), PyData.canLayAll0 ds = true → ds[i]? = some d → d.canLay0 = true := by
      intro ds
      induction ds with
      | nil => intro i _ h; simp at h
      | cons a r ih =>
        intro i h1 h2
        rw [PyData.canLayAll0, Bool.and_eq_true] at h1
        cases i with
        | zero => simp at h2; rw [← h2]; exact h1.1
        | succ i => exact ih i h1.2 (by simpa using h2)
    exact this ds i hc hdi
  have e1 := SeqAt.readOf_eq hcd rx'
  have e2 := SeqAt.readOf_eq he hr
  have ed : d = e := e1.symm.trans e2
  subst ed
  exact ⟨x, H, I.kept hk, ru, q x hdx⟩
theorem canLay_fold (f : PyData → PyData → Bool) : ∀ (ds : List PyData) (d : PyData), PyData.canLayAll0 (d :: ds) = true → (ds.foldl (fun a y => if f a y then y else a) d).canLay0 = true
  | [], d, h => by
    rw [PyData.canLayAll0, Bool.and_eq_true] at h
    exact h.1
  | e :: ds, d, h => by
    rw [PyData.canLayAll0, PyData.canLayAll0, Bool.and_eq_true, Bool.and_eq_true] at h
    rw [List.foldl_cons]
    refine canLay_fold f ds _ ?_
    rw [PyData.canLayAll0, Bool.and_eq_true]
    refine ⟨?_, h.2.2⟩
    split
    · exact h.2.1
    · exact h.1
theorem cr_maxD (hc : X.calm = true) (hu : X.A.units + 65 < cLine) : CallR X (.builtin "max") (rBestD X.K PySem.W.maxD) := by
  intro pins s σ H vs us Q I r h
  obtain ⟨a, xs, d, ds, rfl, hs, hd, hal, hl0, hdep, q⟩ := h
  obtain ⟨its, rv, hl, hz⟩ := I.list hs
  rw [Vals.ref1 r]
  obtain ⟨as, ra⟩ := Dp.readsAll I _ _ _ hd rv
  exact PySem.W.max_list_data (I.ok.hd hc) hl.isList (by simpa using ra) hal (by omega) fun i v h' tk bs hi hr hk => best_end I rv hd ra hl0 hi hr (canLay_fold _ ds d hl0) hk q
theorem cr_minD (hc : X.calm = true) (hu : X.A.units + 65 < cLine) : CallR X (.builtin "min") (rBestD X.K PySem.W.minD) := by
  intro pins s σ H vs us Q I r h
  obtain ⟨a, xs, d, ds, rfl, hs, hd, hal, hl0, hdep, q⟩ := h
  obtain ⟨its, rv, hl, hz⟩ := I.list hs
  rw [Vals.ref1 r]
  obtain ⟨as, ra⟩ := Dp.readsAll I _ _ _ hd rv
  exact PySem.W.min_list_data (I.ok.hd hc) hl.isList (by simpa using ra) hal (by omega) fun i v h' tk bs hi hr hk => best_end I rv hd ra hl0 hi hr (canLay_fold (fun a y => PySem.W.dataLt y a) ds d hl0) hk q
end
end DP
/-! set(xs) of a list of whole numbers, sorted then. -/
namespace DP
open PySem PySem.Spec PyProof.Rows L2
/-- a fresh set -/
abbrev newSet (w : World) : Obj := { cls := .type "set", dict := none, data := .set #[] 0 (.fresh 0 0 (!w.params.followText "set-order")) }
theorem set_of_ints {P : Program} {w : World} {A : Around} {E : Value → Shared → Prop} {s : Shared} {l : Addr} {items : Array Value} (ns : List Int) {Q : Value → Shared → Prop} (hh : A.handled = none) (hl : s.heap.IsList l items) (hit : IntsAre items.toList ns) (hb : ns.length + 1 < scanBound)
    (h : ∀ (h' : Heap) (tk c : Nat), SetR w h' s.heap.objs.size (fun j => decide (j ∈ ns)) c → c ≤ ns.length → (∀ b o, s.heap.get? b = some o → h'.get? b = some o) → Q (.ref s.heap.objs.size) { s with heap := h', toks := tk }) :
    wpAny (model P w) A (call (.type "set") [.ref l]) Q E s := by
  have hisz : items.size = ns.length := (Array.length_toList (xs := items)).symm.trans (IntsAre.length hit)
  have C := F.called_set
  obtain ⟨c, tl, hmro⟩ := C.mro
  have hmade := C.made; have hsub := C.sub
  refine wpAny_call (codeAny_of_tree ?_)
  show wpAny _ _ (callAny (.type "set") _) _ _ _
  refine wpAny_pure ⟨Code.quiet_builtin _ (by decide +kernel), codeAny_builtin F.entry_type_call ?_⟩
  rw [Around.under_plain (weight_type_call_type "set" [.ref l] []) rfl]
  have h1 := C.notType; have h2 := C.canCreate
  have hct := F.typeCall_set_1 (.ref l)
  repeat (any_goals (first | assumption | wp_step))
  refine codeAny_mono (code_set_led1 (.ref l) (E := E) (Q₁ := fun obj s₁ => obj = .ref s.heap.objs.size ∧ s₁ = { s with heap := s.heap.push (newSet w) }) ⟨rfl, rfl⟩) fun r s₁ hr => ?_
  cases r with
  | error e => exact hr
  | ok fl =>
  cases fl with
  | ret obj =>
    obtain ⟨rfl, rfl⟩ := hr
    have hS : (s.heap.push (newSet w)).get? s.heap.objs.size = some (newSet w) := Heap.get?_push_size _ rfl
    have hT : Shared.TypeIs { s with heap := s.heap.push (newSet w) } (.ref s.heap.objs.size) "set" := ⟨_, hS, rfl⟩
    have hli := C.init.lookup; have hbi := C.init.bind (.ref s.heap.objs.size)
    repeat (any_goals (first | assumption | wp_step))
    refine codeAny_mono (codeAny_call_builtin (R := wants (fun r s₂ => r = .none ∧ ∃ h' tk c, s₂ = { s with heap := h', toks := tk } ∧ SetR w h' s.heap.objs.size (fun j => decide (j ∈ ns)) c ∧ c ≤ ns.length ∧ ∀ b o, s.heap.get? b = some o → h'.get? b = some o) E) C.init.plain F.entry_set_init (check_set_init_1 hT ?_)) fun r₂ s₂ hr₂ => ?_
    · obtain ⟨⟨ocls, odict, odata, oslots⟩, hol, hcl, nl, hdl⟩ := hl
      simp only at hcl hdl
      subst hcl hdl
      have hol' : (s.heap.push (newSet w)).get? l = some { cls := .type "list", dict := odict, data := .seq items nl, slots := oslots } := Heap.get?_push_of_some _ hol
      have hsls := F.sub_list_set; have hslf := F.sub_list_frozenset
      have hne : (Value.type "list" == Value.type "dict") = false := by decide
      have hl1 : (s.heap.push (newSet w)).IsList l items := ⟨_, hol', rfl, nl, rfl⟩
      unfold Builtin.«set.__init__» noKeywords Builtin.Frozenset.updateFrom
      generalize hPI : pyIter = PI
      wp_walk
      subst hPI
      refine wpAny_pyIter_list hl1 (wpAny_bind (wpAny_runValue ?_))
      have hlS : l < s.heap.objs.size := Heap.lt_size hol
      have hh3 : A.in1.in1.in1.handled = none := by simp [hh]
      have hz : (s.heap.push (newSet w)).objs.size = s.heap.objs.size + 1 := Heap.size_push ..
      have hneI : l ≠ (s.heap.push (newSet w)).objs.size := by rw [hz]; exact Nat.ne_of_lt (Nat.lt_succ_of_lt hlS)
      have hSf : s.heap.objs.size ∉ [(s.heap.push (newSet w)).objs.size, l] := by
        rw [hz]; simp only [List.mem_cons, List.not_mem_nil, or_false, not_or]; exact ⟨Nat.ne_of_lt (Nat.lt_succ_self _), Nat.ne_of_gt hlS⟩
      have hval : ∀ (i : Nat) (v : Value), items[i]? = some v → ∃ k t, ns[i]? = some k ∧ v = .int k t := fun i v hv => by
        have hi : i < ns.length := hisz ▸ (Array.getElem?_eq_some_iff.mp hv).1
        obtain ⟨t, e⟩ := PyProof.Rows.IntsAre.int_at hit i v (by rw [Array.getElem?_toList]; exact hv)
        exact ⟨ns[i], t, List.getElem?_eq_getElem hi, by rw [e, List.getD_eq_getElem?_getD, List.getElem?_eq_getElem hi]; rfl⟩
      refine set_update_ints ((Walks.list hh3 _ l hneI items).toS) s.heap.objs.size hSf ns hisz hb hval (items.size - 0) 0 _ (by omega) (Nat.zero_le _) ⟨⟨_, Heap.get?_push_size _ rfl, rfl, rfl⟩, (hl1.push _)⟩ ?z0 ?zR
      case z0 => exact ⟨0, Nat.le_refl 0, setR_new_at (Heap.get?_push_of_some _ hS)⟩
      case zR =>
        intro s' c' hm hc' hS'
        obtain ⟨h', g2, d', tk', os'⟩ := s'
        have eg : g2 = s.gens := hm.gens
        have ed : d' = s.drawn := hm.drawn
        have eo : os' = s.os := hm.os
        subst eg ed eo
        rw [hisz] at hc'
        refine wpAny_pure (?_ : wpAny _ _ (ret Value.none) _ _ _)
        refine wpAny_pure ⟨rfl, h', tk', c', rfl, hS', hc', fun b o e => ?_⟩
        have hb0 : b < s.heap.objs.size := Heap.lt_size e
        refine hm.heap b o ?_ (Heap.get?_push_of_some _ (Heap.get?_push_of_some _ e))
        simp only [List.mem_cons, List.not_mem_nil, or_false, not_or]
        exact ⟨Nat.ne_of_lt hb0, by rw [hz]; exact Nat.ne_of_lt (Nat.lt_succ_of_lt hb0)⟩
    · cases r₂ with
      | error e => exact hr₂
      | ok fl₂ =>
      cases fl₂ with
      | ret r =>
        obtain ⟨rfl, h', tk, c', rfl, hS', hc', hk'⟩ := hr₂
        repeat (any_goals (first | assumption | wp_step))
        exact h _ _ _ hS' hc' hk'
      | _ => exact hr₂.elim
  | _ => exact hr.elim
section
variable {X : Cx}
/-- set(xs), xs a list of whole numbers -/
def rSetI (K : PySem.W.Frag) (w : World) : List V → Hp → VK → Prop := fun vs H Q => ∃ (l : Addr) (ns : List Int), vs = [V.ref l] ∧ SqL K H l (ns.map V.int) ∧ ns.length ≤ 60 ∧
  ∀ (a : Addr) (c : Nat), c ≤ ns.length → H a = none → Q (.ref a) (upd H a (SetO w a (fun j => decide (j ∈ ns)) c))
theorem cr_setI (hc : X.calm = true) : CallR X (.type "set") (rSetI X.K X.w) := by
  intro pins s σ H vs us Q I r h
  obtain ⟨l, ns, rfl, hs, hlen, q⟩ := h
  obtain ⟨its, rv, pl, hz⟩ := I.list hs
  rw [Vals.ref1 r]
  have hi : IntsAre its.toArray.toList ns := by simpa using rv.ints
  refine set_of_ints ns (I.ok.hd hc) pl.isList hi (by unfold scanBound; omega) fun h' tk c R hcl hk => ?_
  exact ⟨.ref _, upd H s.heap.objs.size (SetO X.w s.heap.objs.size (fun j => decide (j ∈ ns)) c), I.laid (t' := tk) hk (Nat.le_refl _) (setO_new R), rfl, q _ c hcl (I.hok.fresh (Nat.le_refl _))⟩
/-- d[k], d a written dict -/
theorem ix_kd {d : Addr} {es : Array DictEntry} {n : Nat} (D : KDict X.K X.w d es n) : IxR X (fun x y H Q => ∃ (z : Str) (u0 : Value) (v0 : V), x = .ref d ∧ y = .str z ∧ PySem.W.nsIn X.K d z = some (some u0) ∧ RelV v0 u0 ∧ Q v0 H) := by
  intro value slice pins s σ H x y v u Q I rx ry h hs
  obtain ⟨z, u0, v0, ex, ey, e, r, q⟩ := h
  subst ex ey
  cases rx
  obtain ⟨t, rfl⟩ := ry
  have fin : EP X pins σ Q u0 s := ⟨v0, H, I, r, q⟩
  exact subscriptTail_builtinR (x := u0) (kd_type D I) PySem.F.slot_dict_getitem.lookup
    (wpAny_getItem_of (PySem.strKind_is X.prog X.w z t) (PySem.W.mapOf_K (prog := X.prog) I.kIn D.at_ D.lit) (PySem.W.find_K D.at_ e) ⟨rfl, ⟨v0, H, I.tok _, r, q⟩⟩) hs
end
end DP
/-! The rules with the written part named, for comprehensions; a method called with keywords. -/
namespace DP
open PySem PySem.Spec PyProof.Rows L2
section
variable {X : Cx} {K : PySem.W.Frag}
theorem ixT (h : X.K = K := by rfl) : IxR X (rIxT K) := by subst h; exact ix_tup
theorem ixL (h : X.K = K := by rfl) : IxR X (rIxL K) := by subst h; exact ix_list
theorem inS (h : X.K = K := by rfl) : OpR X (compareOp .In) (rIn K false) := by subst h; exact op_in_seq
theorem notInS (h : X.K = K := by rfl) : OpR X (compareOp .NotIn) (rIn K true) := by subst h; exact op_notIn_seq
theorem eqDK (hu : X.A.units + 64 < cLine) (h : X.K = K := by rfl) : OpR X (compareOp .Eq) (rEqD K) := by subst h; exact op_eqD hu
theorem neDK (hu : X.A.units + 64 < cLine) (h : X.K = K := by rfl) : OpR X (compareOp .NotEq) (rNeD K) := by subst h; exact op_neD hu
theorem inDK (hu : X.A.units + 65 < cLine) (h : X.K = K := by rfl) : OpR X (compareOp .In) (rInD K) := by subst h; exact op_inD hu
theorem notInDK (hu : X.A.units + 65 < cLine) (h : X.K = K := by rfl) : OpR X (compareOp .NotIn) (rNotInD K) := by subst h; exact op_notInD hu
def rLenK (K : PySem.W.Frag) : List V → Hp → VK → Prop := fun xs H Q => ∃ p ys, xs = [V.ref p] ∧ (SqL K H p ys ∨ SqT K H p ys) ∧ Q (.int ys.length) H
theorem lenK (h : X.K = K := by rfl) : CallR X (.builtin "len") (rLenK K) := by subst h; exact call_len_seq
def rListK (K : PySem.W.Frag) : List V → Hp → VK → Prop := fun xs H Q => ∃ p ys, xs = [V.ref p] ∧ (SqL K H p ys ∨ SqT K H p ys) ∧ ∀ l, H l = none → Q (.ref l) (upd H l (.lst ys))
theorem listK (h : X.K = K := by rfl) : CallR X (.type "list") (rListK K) := by subst h; exact call_list_of
theorem maxK (hc : X.calm = true) (h : X.K = K := by rfl) : CallR X (.builtin "max") (rMax K) := by subst h; exact cr_max hc
theorem minK (hc : X.calm = true) (h : X.K = K := by rfl) : CallR X (.builtin "min") (rMin K) := by subst h; exact cr_min hc
theorem maxDK (hc : X.calm = true) (hu : X.A.units + 65 < cLine) (h : X.K = K := by rfl) : CallR X (.builtin "max") (rBestD K PySem.W.maxD) := by subst h; exact cr_maxD hc hu
theorem minDK (hc : X.calm = true) (hu : X.A.units + 65 < cLine) (h : X.K = K := by rfl) : CallR X (.builtin "min") (rBestD K PySem.W.minD) := by subst h; exact cr_minD hc hu
theorem sortK (h : X.K = K := by rfl) : CallR X (.builtin "sorted") (rSorted K) := by subst h; exact cr_sorted
theorem sortDK {β : Type} (enc : β → PyData) (hu : X.A.units + 65 < cLine) (h : X.K = K := by rfl) : CallR X (.builtin "sorted") (rSortD K enc) := by subst h; exact cr_sortD enc hu
theorem setIK {w : World} (hc : X.calm = true) (h : X.K = K := by rfl) (hw : X.w = w := by rfl) : CallR X (.type "set") (rSetI K w) := by subst h hw; exact cr_setI hc
theorem sortedSetK {w : World} (hc : X.calm = true) (hw : X.w = w := by rfl) : CallR X (.builtin "sorted") (rSortedSet w) := by subst hw; exact cr_sortedSet hc
theorem slL (h : X.K = K := by rfl) : SlR X (rSlL K) := by subst h; exact sl_list
theorem isiK (h : X.K = K := by rfl) : CallR X (.builtin "isinstance") (rIsi K) := by subst h; exact call_isi
theorem fldK {o : Expr} {ta : TE} {f : Str} {pos : Pos} (he : PE X o ta) (hb : attributeBase o f X.env (eval o X.env) = eval o X.env := by rfl) (h : X.K = K := by rfl) : PE X (.Attribute o f pos) (tFld K ta f) := by subst h; exact pe_fld he hb
theorem tupK {es : List Expr} {k : Nat} {t : TGs} {n : Nat} {pos : Pos} (hc : X.calm = true) (h1 : PGs X es t) (hn : (assignEach es X.env).length = n := by rfl) (hst : (assignEach es X.env).findIdx? (·.1) = none := by rfl) (h : X.K = K := by rfl) :
    PG X (.Tuple es k pos) (gTup K n t) := by subst h; exact pg_tup hc h1 hn hst
end
section
variable {X : Cx} {CX : CXT} {k : Nat} {f C : Addr} {fd : FuncData} {ps ks : List Str} {sp : Sp} {E : XK} {m : Str} {pos apos : Pos} {o : Expr} {kws : List Keyword} {ta : TE} {tk : TA} {g : List Value → List Value → List Value} {gV : List V → List V → List V}
/-- o.m(k = v, ..) -/
def tMethK (C : Addr) (m : Str) (sp : Sp) (gV : List V → List V → List V) (E : XK) (ta : TE) (tk : TA) : TE := fun σ H Q => ta σ H fun x H1 => ∃ a dx fs, x = .ref a ∧ H1 a = some (.ins C dx fs) ∧ fs.lookup m = none ∧ tk σ H1 fun zs H2 => sp (gV [.ref a] zs) H2 Q E
theorem pe_methK0 {pl : Sem Bool} (he : PE X o ta) (c : Cls X.K C) (hm : Meth X.K C m f) (F : FnOk X.prog X.w X.K X.mg X.base CX k f fd ps sp) (hr : Room k X.A) (hb : KBinds X.K fd ps ks g gV) (hx : Passes CX X E) (hkw : PK X kws tk)
    (hall : (backToKw pos (keywordEach kws X.env)).all (·.1.isSome) = true := by rfl) (hks : (backToKw pos (keywordEach kws X.env)).filterMap (·.1) = ks := by rfl)
    (hpl : ((backTo pos (starEach [] X.env)).any (·.1) || (backToKw pos (keywordEach kws X.env)).any (·.1.isNone)) = false := by rfl)
    (ht : eval (.Call (.Attribute o m apos) [] kws pos) X.env = (do
      let ov ← eval o X.env
      standAt apos.atName
      let (f, first) ← holding [ov] (getMethod ov m pl)
      callWith pos f first (backTo pos (starEach [] X.env)) (backToKw pos (keywordEach kws X.env))) := by rfl) :
    PE X (.Call (.Attribute o m apos) [] kws pos) (tMethK C m sp gV E ta tk) := by
  refine ⟨fun pins s σ H Q I h => ?_⟩
  refine PySem.W.methodCall_KW (pl := pl) (thn (he.run pins s σ H _ I h) fun u s1 ⟨x, H1, I1, rx, a, dx, fs, ex, ea, l, q⟩ => ?_) ht
  subst ex
  obtain rfl : u = Value.ref a := rx
  refine getmeth_ok I1 ea c hm l ?_
  refine PySem.W.callWith_KW0 (first := [.ref a]) (h₀ := X.base) I.ok.mod.kin hm.kp hall ?_ hpl
  refine thn (hkw.run pos pins s1 σ H1 _ I1 q) fun ws s2 ⟨zs, H2, I2, rz, q2⟩ => ⟨I2.kIn, ?_⟩
  rw [hks]
  exact run_fnk (us := [.ref a]) (vs := [.ref a]) F hr hb hx I2 (.cons rfl .nil) rz q2
end
/-- one positional value, one keyword -/
def g11 {α : Type} : List α → List α → List α
  | [a], [b] => [a, b]
  | _, _ => []
theorem g11_rel {vs : List V} {us : List Value} {zs : List V} {ws : List Value} (r : Vals vs us) (q : Vals zs ws) : Vals (g11 vs zs) (g11 us ws) := by
  cases r with
  | nil => exact .nil
  | cons a t =>
    cases t with
    | cons _ _ => exact .nil
    | nil =>
      cases q with
      | nil => exact .nil
      | cons b t =>
        cases t with
        | cons _ _ => exact .nil
        | nil => exact .cons a (.cons b .nil)
end DP
/-! == and != by an own class's __eq__ and __ne__, whatever they answer. -/
namespace DP
open PySem PySem.Spec PyProof.Rows L2
theorem rooms64 {A : Around} {k : Nat} (hr : Room k A) : A.units + 64 < cLine := by have := hr.un; omega
/-- what isinstance asks of an own class's instances -/
structure IsiC (K : PySem.W.Frag) (C : Addr) : Prop where
  ha : PySem.W.findIn K (.ref C) "__class__" = some (some (.builtin "object.__class__"))
  hn : PySem.W.specialIn K (.builtin "object.__class__") "__get__" = some (some (.builtin "getset_descriptor.__get__"))
  htk : PySem.W.takesIn K (.builtin "object.__class__") = some true
  hm : PySem.W.mroIn K C (.type "object") = some true
theorem kit_self (K : PySem.W.Frag) (C : Addr) : PySem.W.kitOne K (.ref C) (.ref C) = some true := if_pos (beq_self_eq_true _)
theorem kit_no {K : PySem.W.Frag} {S : Addr} {t : Value} (h0 : (t == .ref S) = false) (h2 : PySem.W.isClsIn K S = true) (h3 : PySem.W.typeIn K (.ref S) = some (.type "type")) {b : Option Bool} (h4 : PySem.W.subIn K t (.ref S) = b) : PySem.W.kitOne K t (.ref S) = b := by
  have e2 : ((PySem.W.clsIn K S).isSome && PySem.W.typeIn K (.ref S) == some (.type "type")) = true := by
    have h2' : (PySem.W.clsIn K S).isSome = true := h2
    rw [h2', h3] <;> rfl
  show (if (t == .ref S) = true then some true else if ((PySem.W.clsIn K S).isSome && PySem.W.typeIn K (.ref S) == some (.type "type")) = true then PySem.W.subIn K t (.ref S) else none) = b
  rw [h0, if_neg Bool.false_ne_true, if_pos e2]
  exact h4
section
variable {X : Cx} {CX : CXT} {C f : Addr} {fd : FuncData} {ps : List Str} {sp : Sp} {E : XK} {k : Nat} {op : CmpOp}
/-- the right side: of the same class, a list, a whole number -/
inductive Right (K : PySem.W.Frag) (C : Addr) (H : Hp) : V → Prop
  | ins {b dy gs} : H b = some (.ins C dy gs) → Right K C H (.ref b)
  | lst {b xs} : SqL K H b xs → PySem.W.notFirst K C (.type "list") = true → Right K C H (.ref b)
  | int {i} : PySem.W.notFirst K C (.type "int") = true → Right K C H (.int i)
  | any {v t} : TyX K H v (.type t) → PySem.W.notFirst K C (.type t) = true → Right K C H v
def rOwn (K : PySem.W.Frag) (C : Addr) (sp : Sp) (E : XK) : V → V → Hp → VK → Prop := fun x y H Q => ∃ a dx fs, x = .ref a ∧ H a = some (.ins C dx fs) ∧ Right K C H y ∧ sp [x, y] H (fun v H' => ∃ b, v = .bl b ∧ Q (.bl b) H') E
theorem own_run (F : FnOk X.prog X.w X.K X.mg X.base CX k f fd ps sp) (hs : PySem.W.findIn X.K (.ref C) (cmpInfo op).2.1 = some (some (.ref f))) (hf : PySem.W.isFn X.K (.ref f) = true) (hb : Binds X.K fd ps []) (hx : Passes CX X E) (hr : Room k X.A) : ∀ (pins : List (Addr × Obj)) (s : Shared) (σ : L2.St) (H : Hp) (x y : V) (v u : Value) (Q : VK), Inv X pins σ H s → RelV x v → RelV y u → rOwn X.K C sp E x y H Q → wpAny (model X.prog X.w) X.A (richCompare op v u) (EP X pins σ Q) X.xe s := by
  intro pins s σ H x y v u Q I rx ry hq
  obtain ⟨a, dx, fs, rfl, ha, hy, q⟩ := hq
  cases rx
  obtain ⟨mA, J, _⟩ := ins_get I.hok ha
  obtain ⟨od, J, _⟩ := J.look
  obtain ⟨m, hF⟩ := I.fr
  obtain ⟨tb, hl, hn⟩ : ∃ tb, PySem.W.Looks (model X.prog X.w) s.heap (typeOf u) tb ∧ PySem.W.notFirst X.K C tb = true := by
    cases hy with
    | ins h =>
      cases ry
      obtain ⟨mB, J', _⟩ := ins_get I.hok h
      obtain ⟨od', J', _⟩ := J'.look
      exact ⟨.ref C, J'.type, by simp [PySem.W.notFirst]⟩
    | lst h hn =>
      cases ry
      obtain ⟨its, rv, pl, hz⟩ := I.list h
      exact ⟨_, fun A Q E s1 k q => (by
        obtain ⟨o, ho, hc, r⟩ := pl.isList
        exact wpAny_typeOf_ref (k _ _ ho) (by rw [hc]; exact q)), hn⟩
    | int hn =>
      obtain ⟨t, rfl⟩ := ry
      exact ⟨_, fun A Q E s1 k q => wpAny_pure q, hn⟩
    | any h hn =>
      obtain ⟨Pk, kx, hp, _⟩ := kit_of I ry h
      exact ⟨_, kx.ty _ _ I.kIn hp, hn⟩
  refine PySem.W.cmp_K (op := op) (tb := tb) hr.units0 hF I.ok.mod.kin J hl hn hs hf ?_
  have r2 : Vals [V.ref a, y] [Value.ref a, u] := .cons rfl (.cons ry .nil)
  have hlen := F.len _ _ _ _ q
  refine wpAny_call (codeAny_mono (F.run X.A X.stack s H ⟨[.ref a, u], []⟩ [.ref a, u] [.ref a, y] _ E hr I.env0 (by
    have := hb s [.ref a, u] I.kIn (by simpa using hlen)
    simpa using this) r2 q) fun r s' hq => ?_)
  cases r with
  | error e => exact hx pins σ H s e s' I hq
  | ok fl =>
    cases fl with
    | ret w =>
      obtain ⟨z, H', I', rz, b, ez, q2⟩ := I.after hq
      subst ez
      cases rz
      exact ⟨.bl b, H', I', rfl, q2⟩
    | next => exact hq.elim
    | brk => exact hq.elim
    | cont => exact hq.elim
theorem op_ownEq (F : FnOk X.prog X.w X.K X.mg X.base CX k f fd ps sp) (hs : PySem.W.findIn X.K (.ref C) "__eq__" = some (some (.ref f))) (hf : PySem.W.isFn X.K (.ref f) = true) (hb : Binds X.K fd ps []) (hx : Passes CX X E) (hr : Room k X.A) : OpR X (compareOp .Eq) (rOwn X.K C sp E) := fun pins s σ H x y v u Q I rx ry hq =>
  own_run (op := .Eq) F hs hf hb hx hr pins s σ H x y v u Q I rx ry hq
theorem op_ownNe (F : FnOk X.prog X.w X.K X.mg X.base CX k f fd ps sp) (hs : PySem.W.findIn X.K (.ref C) "__ne__" = some (some (.ref f))) (hf : PySem.W.isFn X.K (.ref f) = true) (hb : Binds X.K fd ps []) (hx : Passes CX X E) (hr : Room k X.A) : OpR X (compareOp .NotEq) (rOwn X.K C sp E) := fun pins s σ H x y v u Q I rx ry hq =>
  own_run (op := .NotEq) F hs hf hb hx hr pins s σ H x y v u Q I rx ry hq
/-- in a comprehension: K named -/
theorem ownEqK {K : PySem.W.Frag} {P : Program} {w : World} {mg : Str → Option Value} {base : Heap} (F : FnOk P w K mg base CX k f fd ps sp) (hs : PySem.W.findIn K (.ref C) "__eq__" = some (some (.ref f))) (hf : PySem.W.isFn K (.ref f) = true) (hb : Binds K fd ps []) (hx : Passes CX X E) (hr : Room k X.A) (h1 : X.prog = P := by rfl) (h2 : X.w = w := by rfl) (h3 : X.K = K := by rfl) (h4 : X.mg = mg := by rfl) (h5 : X.base = base := by rfl) : OpR X (compareOp .Eq) (rOwn K C sp E) := by
  subst h1 h2 h3 h4 h5
  exact op_ownEq F hs hf hb hx hr
end
end DP
namespace KA
open PySem PySem.Spec PyProof.Rows L2 DP
def top (i : Nat) : Stmt := PySem.Challenge.pw_darkpace_k58_whole_all_hands_led_back.main.body.getD i (.Pass ⟨0, 0, 0, 0⟩)
abbrev slaw_tray : Stmt := top 19
abbrev N_law_tray : List Str := ["script", "fold", "great", "cell", "much"]
abbrev P_law_tray : List Str := ["script"]
theorem sclaw_tray : FnScope N_law_tray P_law_tray (defScope slaw_tray) := ⟨rfl, rfl, rfl, by decide +kernel, rfl, by decide +kernel, by decide +kernel⟩
abbrev slaw_draw : Stmt := top 20
abbrev N_law_draw : List Str := ["tray", "many", "found", "mixed"]
abbrev P_law_draw : List Str := ["tray", "many"]
theorem sclaw_draw : FnScope N_law_draw P_law_draw (defScope slaw_draw) := ⟨rfl, rfl, rfl, by decide +kernel, rfl, by decide +kernel, by decide +kernel⟩
abbrev slaw_alike : Stmt := top 21
abbrev N_law_alike : List Str := ["found", "due", "k"]
abbrev P_law_alike : List Str := ["found", "due"]
theorem sclaw_alike : FnScope N_law_alike P_law_alike (defScope slaw_alike) := ⟨rfl, rfl, rfl, by decide +kernel, rfl, by decide +kernel, by decide +kernel⟩
abbrev slaw_apart : Stmt := top 22
abbrev N_law_apart : List Str := ["size", "one", "other", "under", "above"]
abbrev P_law_apart : List Str := ["size", "one", "other"]
theorem sclaw_apart : FnScope N_law_apart P_law_apart (defScope slaw_apart) := ⟨rfl, rfl, rfl, by decide +kernel, rfl, by decide +kernel, by decide +kernel⟩
abbrev slaw_any_look : Stmt := top 23
abbrev N_law_any_look : List Str := ["tray", "size", "said", "spot", "off"]
abbrev P_law_any_look : List Str := ["tray", "size"]
theorem sclaw_any_look : FnScope N_law_any_look P_law_any_look (defScope slaw_any_look) := ⟨rfl, rfl, rfl, by decide +kernel, rfl, by decide +kernel, by decide +kernel⟩
abbrev slaw_hands : Stmt := top 24
abbrev N_law_hands : List Str := ["size", "rows", "start", "k", "longer", "row", "there"]
abbrev P_law_hands : List Str := ["size"]
theorem sclaw_hands : FnScope N_law_hands P_law_hands (defScope slaw_hands) := ⟨rfl, rfl, rfl, by decide +kernel, rfl, by decide +kernel, by decide +kernel⟩
abbrev slaw_is_as : Stmt := top 25
abbrev N_law_is_as : List Str := ["size", "row", "look", "rest", "there"]
abbrev P_law_is_as : List Str := ["size", "row", "look"]
theorem sclaw_is_as : FnScope N_law_is_as P_law_is_as (defScope slaw_is_as) := ⟨rfl, rfl, rfl, by decide +kernel, rfl, by decide +kernel, by decide +kernel⟩
abbrev slaw_back_row : Stmt := top 26
abbrev N_law_back_row : List Str := ["size", "row", "found", "goal", "spots", "spot"]
abbrev P_law_back_row : List Str := ["size", "row"]
theorem sclaw_back_row : FnScope N_law_back_row P_law_back_row (defScope slaw_back_row) := ⟨rfl, rfl, rfl, by decide +kernel, rfl, by decide +kernel, by decide +kernel⟩
abbrev slaw_heard : Stmt := top 27
abbrev N_law_heard : List Str := ["tray", "size", "known", "turn", "look", "one"]
abbrev P_law_heard : List Str := ["tray", "size"]
theorem sclaw_heard : FnScope N_law_heard P_law_heard (defScope slaw_heard) := ⟨rfl, rfl, rfl, by decide +kernel, rfl, by decide +kernel, by decide +kernel⟩
abbrev slaw_right : Stmt := top 28
abbrev N_law_right : List Str := ["size", "known", "made", "look", "back", "due", "led", "row", "other", "fits", "goal", "some", "at", "side"]
abbrev P_law_right : List Str := ["size", "known"]
theorem sclaw_right : FnScope N_law_right P_law_right (defScope slaw_right) := ⟨rfl, rfl, rfl, by decide +kernel, rfl, by decide +kernel, by decide +kernel⟩
abbrev sside_looks : Stmt := top 10
abbrev N_side_looks : List Str := ["looks", "side", "words", "look"]
abbrev P_side_looks : List Str := ["looks", "side"]
theorem scside_looks : FnScope N_side_looks P_side_looks (defScope sside_looks) := ⟨rfl, rfl, rfl, by decide +kernel, rfl, by decide +kernel, by decide +kernel⟩
abbrev splace_by : Stmt := top 11
abbrev N_place_by : List Str := ["look", "side", "x", "length", "_", "start", "end"]
abbrev P_place_by : List Str := ["look", "side", "x", "length"]
theorem scplace_by : FnScope N_place_by P_place_by (defScope splace_by) := ⟨rfl, rfl, rfl, by decide +kernel, rfl, by decide +kernel, by decide +kernel⟩
abbrev sbest_step : Stmt := top 12
abbrev N_best_step : List Str := ["looks", "side", "x", "length", "steps", "look"]
abbrev P_best_step : List Str := ["looks", "side", "x", "length"]
theorem scbest_step : FnScope N_best_step P_best_step (defScope sbest_step) := ⟨rfl, rfl, rfl, by decide +kernel, rfl, by decide +kernel, by decide +kernel⟩
abbrev stoo_far : Stmt := top 15
abbrev N_too_far : List Str := ["low", "high", "length"]
abbrev P_too_far : List Str := ["low", "high", "length"]
theorem sctoo_far : FnScope N_too_far P_too_far (defScope stoo_far) := ⟨rfl, rfl, rfl, by decide +kernel, rfl, by decide +kernel, by decide +kernel⟩
abbrev sclash : Stmt := top 16
abbrev N_clash : List Str := ["look", "other", "length"]
abbrev P_clash : List Str := ["look", "other", "length"]
theorem scclash : FnScope N_clash P_clash (defScope sclash) := ⟨rfl, rfl, rfl, by decide +kernel, rfl, by decide +kernel, by decide +kernel⟩
abbrev sDark_init : Stmt := inClass (top 17) 0
abbrev N_Dark_init : List Str := ["self", "length"]
abbrev P_Dark_init : List Str := ["self", "length"]
theorem scDark_init : FnScope N_Dark_init P_Dark_init (defScope sDark_init) := ⟨rfl, rfl, rfl, by decide +kernel, rfl, by decide +kernel, by decide +kernel⟩
abbrev sDark_hear : Stmt := inClass (top 17) 4
abbrev N_Dark_hear : List Str := ["self", "word", "x", "y", "look", "other"]
abbrev P_Dark_hear : List Str := ["self", "word", "x", "y"]
theorem scDark_hear : FnScope N_Dark_hear P_Dark_hear (defScope sDark_hear) := ⟨rfl, rfl, rfl, by decide +kernel, rfl, by decide +kernel, by decide +kernel⟩
abbrev sDark_looks : Stmt := inClass (top 17) 6
abbrev N_Dark_looks : List Str := ["self"]
abbrev P_Dark_looks : List Str := ["self"]
theorem scDark_looks : FnScope N_Dark_looks P_Dark_looks (defScope sDark_looks) := ⟨rfl, rfl, rfl, by decide +kernel, rfl, by decide +kernel, by decide +kernel⟩
abbrev sDark_least : Stmt := inClass (top 17) 7
abbrev N_Dark_least : List Str := ["self", "x"]
abbrev P_Dark_least : List Str := ["self", "x"]
theorem scDark_least : FnScope N_Dark_least P_Dark_least (defScope sDark_least) := ⟨rfl, rfl, rfl, by decide +kernel, rfl, by decide +kernel, by decide +kernel⟩
abbrev sDark_greatest : Stmt := inClass (top 17) 8
abbrev N_Dark_greatest : List Str := ["self", "x"]
abbrev P_Dark_greatest : List Str := ["self", "x"]
theorem scDark_greatest : FnScope N_Dark_greatest P_Dark_greatest (defScope sDark_greatest) := ⟨rfl, rfl, rfl, by decide +kernel, rfl, by decide +kernel, by decide +kernel⟩
abbrev sDark_led_back : Stmt := inClass (top 17) 11
abbrev N_Dark_led_back : List Str := ["self", "back", "word", "x", "y"]
abbrev P_Dark_led_back : List Str := ["self"]
theorem scDark_led_back : FnScope N_Dark_led_back P_Dark_led_back (defScope sDark_led_back) := ⟨rfl, rfl, rfl, by decide +kernel, rfl, by decide +kernel, by decide +kernel⟩
abbrev sDarkcheck_word : Stmt := inClass (top 17) 12
abbrev N_Darkcheck_word : List Str := ["self", "word"]
abbrev P_Darkcheck_word : List Str := ["self", "word"]
theorem scDarkcheck_word : FnScope N_Darkcheck_word P_Darkcheck_word (defScope sDarkcheck_word) := ⟨rfl, rfl, rfl, by decide +kernel, rfl, by decide +kernel, by decide +kernel⟩
abbrev sDarkhome : Stmt := inClass (top 17) 13
abbrev N_Darkhome : List Str := ["self", "word", "x", "y", "turns"]
abbrev P_Darkhome : List Str := ["self", "word", "x", "y"]
theorem scDarkhome : FnScope N_Darkhome P_Darkhome (defScope sDarkhome) := ⟨rfl, rfl, rfl, by decide +kernel, rfl, by decide +kernel, by decide +kernel⟩
abbrev sDarkclashing : Stmt := inClass (top 17) 14
abbrev N_Darkclashing : List Str := ["self", "look", "other"]
abbrev P_Darkclashing : List Str := ["self", "look"]
theorem scDarkclashing : FnScope N_Darkclashing P_Darkclashing (defScope sDarkclashing) := ⟨rfl, rfl, rfl, by decide +kernel, rfl, by decide +kernel, by decide +kernel⟩
abbrev sDarkbound : Stmt := inClass (top 17) 15
abbrev N_Darkbound : List Str := ["self", "side", "x", "step"]
abbrev P_Darkbound : List Str := ["self", "side", "x"]
theorem scDarkbound : FnScope N_Darkbound P_Darkbound (defScope sDarkbound) := ⟨rfl, rfl, rfl, by decide +kernel, rfl, by decide +kernel, by decide +kernel⟩
abbrev slaw : Stmt := top 29
abbrev N_law : List Str := ["script", "tray", "k", "size"]
abbrev P_law : List Str := ["script"]
theorem sclaw : FnScope N_law P_law (defScope slaw) := ⟨rfl, rfl, rfl, by decide +kernel, rfl, by decide +kernel, by decide +kernel⟩
structure Ad where
  C : Addr
  a_law_tray : Addr
  d_law_tray : FuncData
  a_law_draw : Addr
  d_law_draw : FuncData
  a_law_alike : Addr
  d_law_alike : FuncData
  a_law_apart : Addr
  d_law_apart : FuncData
  a_law_any_look : Addr
  d_law_any_look : FuncData
  a_law_hands : Addr
  d_law_hands : FuncData
  a_law_is_as : Addr
  d_law_is_as : FuncData
  a_law_back_row : Addr
  d_law_back_row : FuncData
  a_law_heard : Addr
  d_law_heard : FuncData
  a_law_right : Addr
  d_law_right : FuncData
  a_side_looks : Addr
  d_side_looks : FuncData
  a_place_by : Addr
  d_place_by : FuncData
  a_best_step : Addr
  d_best_step : FuncData
  a_too_far : Addr
  d_too_far : FuncData
  a_clash : Addr
  d_clash : FuncData
  a_Dark_init : Addr
  d_Dark_init : FuncData
  a_Dark_hear : Addr
  d_Dark_hear : FuncData
  a_Dark_looks : Addr
  d_Dark_looks : FuncData
  a_Dark_least : Addr
  d_Dark_least : FuncData
  a_Dark_greatest : Addr
  d_Dark_greatest : FuncData
  a_Dark_led_back : Addr
  d_Dark_led_back : FuncData
  a_Darkcheck_word : Addr
  d_Darkcheck_word : FuncData
  a_Darkhome : Addr
  d_Darkhome : FuncData
  a_Darkclashing : Addr
  d_Darkclashing : FuncData
  a_Darkbound : Addr
  d_Darkbound : FuncData
  a_law : Addr
  d_law : FuncData
  v_SLOW : Value
  v_FAST : Value
  a_WORDS : Addr
  a_LW : Addr
  t_slow : Addr
  t_fast : Addr
structure Tx (K : PySem.W.Frag) (w : World) (mg : Str → Option Value) (Z : Ad) : Prop where
  F_law_tray : Fun K "_law_tray" "_law_tray" slaw_tray Z.a_law_tray Z.d_law_tray
  bb_law_tray : Binds K Z.d_law_tray P_law_tray []
  g_law_tray : mg "_law_tray" = some (.ref Z.a_law_tray)
  F_law_draw : Fun K "_law_draw" "_law_draw" slaw_draw Z.a_law_draw Z.d_law_draw
  bb_law_draw : Binds K Z.d_law_draw P_law_draw []
  g_law_draw : mg "_law_draw" = some (.ref Z.a_law_draw)
  F_law_alike : Fun K "_law_alike" "_law_alike" slaw_alike Z.a_law_alike Z.d_law_alike
  bb_law_alike : Binds K Z.d_law_alike P_law_alike []
  g_law_alike : mg "_law_alike" = some (.ref Z.a_law_alike)
  F_law_apart : Fun K "_law_apart" "_law_apart" slaw_apart Z.a_law_apart Z.d_law_apart
  bb_law_apart : Binds K Z.d_law_apart P_law_apart []
  g_law_apart : mg "_law_apart" = some (.ref Z.a_law_apart)
  F_law_any_look : Fun K "_law_any_look" "_law_any_look" slaw_any_look Z.a_law_any_look Z.d_law_any_look
  bb_law_any_look : Binds K Z.d_law_any_look P_law_any_look []
  g_law_any_look : mg "_law_any_look" = some (.ref Z.a_law_any_look)
  F_law_hands : Fun K "_law_hands" "_law_hands" slaw_hands Z.a_law_hands Z.d_law_hands
  bb_law_hands : Binds K Z.d_law_hands P_law_hands []
  g_law_hands : mg "_law_hands" = some (.ref Z.a_law_hands)
  F_law_is_as : Fun K "_law_is_as" "_law_is_as" slaw_is_as Z.a_law_is_as Z.d_law_is_as
  bb_law_is_as : Binds K Z.d_law_is_as P_law_is_as []
  g_law_is_as : mg "_law_is_as" = some (.ref Z.a_law_is_as)
  F_law_back_row : Fun K "_law_back_row" "_law_back_row" slaw_back_row Z.a_law_back_row Z.d_law_back_row
  bb_law_back_row : Binds K Z.d_law_back_row P_law_back_row []
  g_law_back_row : mg "_law_back_row" = some (.ref Z.a_law_back_row)
  F_law_heard : Fun K "_law_heard" "_law_heard" slaw_heard Z.a_law_heard Z.d_law_heard
  bb_law_heard : Binds K Z.d_law_heard P_law_heard []
  g_law_heard : mg "_law_heard" = some (.ref Z.a_law_heard)
  F_law_right : Fun K "_law_right" "_law_right" slaw_right Z.a_law_right Z.d_law_right
  bb_law_right : Binds K Z.d_law_right P_law_right []
  g_law_right : mg "_law_right" = some (.ref Z.a_law_right)
  F_side_looks : Fun K "side_looks" "side_looks" sside_looks Z.a_side_looks Z.d_side_looks
  bb_side_looks : Binds K Z.d_side_looks P_side_looks []
  g_side_looks : mg "side_looks" = some (.ref Z.a_side_looks)
  F_place_by : Fun K "place_by" "place_by" splace_by Z.a_place_by Z.d_place_by
  bb_place_by : Binds K Z.d_place_by P_place_by []
  g_place_by : mg "place_by" = some (.ref Z.a_place_by)
  F_best_step : Fun K "best_step" "best_step" sbest_step Z.a_best_step Z.d_best_step
  bb_best_step : Binds K Z.d_best_step P_best_step []
  g_best_step : mg "best_step" = some (.ref Z.a_best_step)
  F_too_far : Fun K "too_far" "too_far" stoo_far Z.a_too_far Z.d_too_far
  bb_too_far : Binds K Z.d_too_far P_too_far []
  g_too_far : mg "too_far" = some (.ref Z.a_too_far)
  F_clash : Fun K "clash" "clash" sclash Z.a_clash Z.d_clash
  bb_clash : Binds K Z.d_clash P_clash []
  g_clash : mg "clash" = some (.ref Z.a_clash)
  F_Dark_init : Fun K "__init__" "Dark.__init__" sDark_init Z.a_Dark_init Z.d_Dark_init
  bb_Dark_init : Binds K Z.d_Dark_init P_Dark_init []
  F_Dark_hear : Fun K "hear" "Dark.hear" sDark_hear Z.a_Dark_hear Z.d_Dark_hear
  bb_Dark_hear : Binds K Z.d_Dark_hear P_Dark_hear []
  m_Dark_hear : Meth K Z.C "hear" Z.a_Dark_hear
  F_Dark_looks : Fun K "looks" "Dark.looks" sDark_looks Z.a_Dark_looks Z.d_Dark_looks
  bb_Dark_looks : Binds K Z.d_Dark_looks P_Dark_looks []
  m_Dark_looks : Meth K Z.C "looks" Z.a_Dark_looks
  F_Dark_least : Fun K "least" "Dark.least" sDark_least Z.a_Dark_least Z.d_Dark_least
  bb_Dark_least : Binds K Z.d_Dark_least P_Dark_least []
  m_Dark_least : Meth K Z.C "least" Z.a_Dark_least
  F_Dark_greatest : Fun K "greatest" "Dark.greatest" sDark_greatest Z.a_Dark_greatest Z.d_Dark_greatest
  bb_Dark_greatest : Binds K Z.d_Dark_greatest P_Dark_greatest []
  m_Dark_greatest : Meth K Z.C "greatest" Z.a_Dark_greatest
  F_Dark_led_back : Fun K "led_back" "Dark.led_back" sDark_led_back Z.a_Dark_led_back Z.d_Dark_led_back
  bb_Dark_led_back : Binds K Z.d_Dark_led_back P_Dark_led_back []
  m_Dark_led_back : Meth K Z.C "led_back" Z.a_Dark_led_back
  F_Darkcheck_word : Fun K "_check_word" "Dark._check_word" sDarkcheck_word Z.a_Darkcheck_word Z.d_Darkcheck_word
  bb_Darkcheck_word : Binds K Z.d_Darkcheck_word P_Darkcheck_word []
  m_Darkcheck_word : Meth K Z.C "_check_word" Z.a_Darkcheck_word
  F_Darkhome : Fun K "_home" "Dark._home" sDarkhome Z.a_Darkhome Z.d_Darkhome
  bb_Darkhome : Binds K Z.d_Darkhome P_Darkhome []
  m_Darkhome : Meth K Z.C "_home" Z.a_Darkhome
  F_Darkclashing : Fun K "_clashing" "Dark._clashing" sDarkclashing Z.a_Darkclashing Z.d_Darkclashing
  bb_Darkclashing : Binds K Z.d_Darkclashing P_Darkclashing []
  m_Darkclashing : Meth K Z.C "_clashing" Z.a_Darkclashing
  F_Darkbound : Fun K "_bound" "Dark._bound" sDarkbound Z.a_Darkbound Z.d_Darkbound
  bb_Darkbound : Binds K Z.d_Darkbound P_Darkbound []
  m_Darkbound : Meth K Z.C "_bound" Z.a_Darkbound
  F_law : Fun K "law" "law" slaw Z.a_law Z.d_law
  bb_law : Binds K Z.d_law P_law []
  g_law : mg "law" = some (.ref Z.a_law)
  cl : Cls K Z.C
  g_Dark : mg "Dark" = some (.ref Z.C)
  mk_Dark : Mk K Z.C Z.a_Dark_init
  n_length : NoAttr K Z.C "_length"
  n_looks : NoAttr K Z.C "_looks"
  b_max : mg "max" = none
  b_min : mg "min" = none
  b_len : mg "len" = none
  b_range : mg "range" = none
  b_sorted : mg "sorted" = none
  b_isinstance : mg "isinstance" = none
  b_list : mg "list" = none
  b_tuple : mg "tuple" = none
  b_bool : mg "bool" = none
  b_int : mg "int" = none
  b_str : mg "str" = none
  b_super : mg "super" = none
  g_SLOW : mg "SLOW" = some Z.v_SLOW
  r_SLOW : RelV (.str "slow") Z.v_SLOW
  g_FAST : mg "FAST" = some Z.v_FAST
  r_FAST : RelV (.str "fast") Z.v_FAST
  g_WORDS : mg "WORDS" = some (.ref Z.a_WORDS)
  kd_WORDS : ∃ es n, KDict K w Z.a_WORDS es n
  w_slow : PySem.W.nsIn K Z.a_WORDS "slow" = some (some (.ref Z.t_slow))
  w_fast : PySem.W.nsIn K Z.a_WORDS "fast" = some (some (.ref Z.t_fast))
  q_slow : ∀ H, SqT K H Z.t_slow [.str "at", .str "from"]
  q_fast : ∀ H, SqT K H Z.t_fast [.str "at", .str "upto"]
  g_LOOK_WORDS : mg "LOOK_WORDS" = some (.ref Z.a_LW)
  q_LW : ∀ H, SqT K H Z.a_LW [.str "at", .str "from", .str "upto"]
end KA
/-! Looks in plain Lean. -/
namespace KA
open PySem PySem.Spec PyProof.Rows L2 DP
/-- a look: word, x, y -/
abbrev Lk := Str × Int × Int
def encL (l : Lk) : PyData := .tuple [.str l.1, .int l.2.1, .int l.2.2]
def WordOk (x : Str) : Prop := x = "at" ∨ x = "from" ∨ x = "upto"
def SideOk (x : Str) : Prop := x = "slow" ∨ x = "fast"
/-- the words of a side, by truth -/
def onSide (sd x : Str) : Bool := if sd = "slow" then (decide (x = "at") || decide (x = "from")) else (decide (x = "at") || decide (x = "upto"))
/-- where a look alone tells that x is led -/
def plc (sd : Str) (l : Lk) (x L : Int) : Int := if sd = "slow" then l.2.2 + (x - l.2.1) / L * L else l.2.2 - (l.2.1 - x) / L * L
def Sized (n : Nat) (l : Lk) : Prop := l.2.1.natAbs < 2 ^ n ∧ l.2.2.natAbs < 2 ^ n
theorem slow_ne : ¬ (("fast" : Str) = "slow") := by decide +kernel
theorem plc_slow (l : Lk) (x L : Int) : plc "slow" l x L = l.2.2 + (x - l.2.1) / L * L := if_pos rfl
theorem plc_fast (l : Lk) (x L : Int) : plc "fast" l x L = l.2.2 - (l.2.1 - x) / L * L := if_neg slow_ne
def tooFar (a b : Lk) (L : Int) : Bool := onSide "slow" a.1 && onSide "fast" b.1 && decide (b.2.2 < plc "slow" a b.2.1 L)
def clashB (a b : Lk) (L : Int) : Bool := tooFar a b L || tooFar b a L
/-- brought home -/
def home (L : Int) (l : Lk) : Lk := (l.1, l.2.1 - l.2.1 / L * L, l.2.2 - l.2.1 / L * L)
theorem nat_div {a L : Int} (h : 0 < L) : (a / L).natAbs ≤ a.natAbs + 1 := Nat.le_succ_of_le (Int.natAbs_ediv_le_natAbs a L)
theorem sub_lt {a b : Int} {n : Nat} (ha : a.natAbs < 2 ^ n) (hb : b.natAbs < 2 ^ n) : (a - b).natAbs < 2 ^ (n + 1) := by
  rw [Nat.pow_succ]; omega
theorem add_lt {a b : Int} {n : Nat} (ha : a.natAbs < 2 ^ n) (hb : b.natAbs < 2 ^ n) : (a + b).natAbs < 2 ^ (n + 1) := by
  rw [Nat.pow_succ]; omega
theorem div_lt {a L : Int} {n : Nat} (h : 0 < L) (ha : a.natAbs < 2 ^ n) : (a / L).natAbs < 2 ^ (n + 1) := by
  have := nat_div (a := a) h
  have h1 : 1 ≤ 2 ^ n := Nat.one_le_two_pow
  rw [Nat.pow_succ]; omega
theorem lt_up {a : Int} {m n : Nat} (ha : a.natAbs < 2 ^ m) (h : m ≤ n) : a.natAbs < 2 ^ n := Nat.lt_of_lt_of_le ha (Nat.pow_le_pow_right (by decide) h)
section
variable {K : PySem.W.Frag} {H : Hp}
theorem dp_look {v : V} {l : Lk} (h : Dp K H v (encL l)) : ∃ a, v = .ref a ∧ SqT K H a [.str l.1, .int l.2.1, .int l.2.2] := by
  have h' : Dp K H v (.tuple [.str l.1, .int l.2.1, .int l.2.2]) := h
  cases h' with
  | tup s a =>
    cases a with
    | cons a1 a =>
      cases a with
      | cons a2 a =>
        cases a with
        | cons a3 a =>
          cases a; cases a1; cases a2; cases a3
          exact ⟨_, rfl, s⟩
theorem dp_list {v : V} {ds : List PyData} (h : Dp K H v (.list ds)) : ∃ a xs, v = .ref a ∧ SqL K H a xs ∧ DpAll K H xs ds := by
  cases h with
  | lst s a => exact ⟨_, _, rfl, s, a⟩
end
theorem decl_words {x : Str} (h : WordOk x) : inV (.str x) [.str "at", .str "from"] = onSide "slow" x ∧ inV (.str x) [.str "at", .str "upto"] = onSide "fast" x ∧ inV (.str x) [.str "at", .str "from", .str "upto"] = true := by
  rcases h with e | e | e <;> subst e <;> decide +kernel
theorem yes_ite {σ : L2.St} {H : Hp} {A B : Hp → Prop} (h : A H) : tYes σ H (fun b H3 => if b = true then A H3 else B H3) := by
  show (if true = true then A H else B H)
  rw [if_pos rfl]
  exact h
/-- data without lists: tuples, numbers, texts -/
def noL : PyData → Bool
  | .list _ => false
  | .dict _ => false
  | .tuple xs => noLs xs
  | _ => true
where noLs : List PyData → Bool
  | [] => true
  | x :: xs => noL x && noLs xs
/-- tuples stand -/
def Tups (H H' : Hp) : Prop := ∀ b xs, Rd H b (.tup xs) → Rd H' b (.tup xs)
theorem Tups.of_same {H H' : Hp} (S : Same H H') : Tups H H' := fun _ _ h => DP.Same.rd S h
theorem Tups.upd_lst {H : Hp} {D : Addr} {ys : List V} {o : HO} (h : H D = some (.lst ys)) : Tups H (upd H D o) := fun b xs hb => by
  have hn : b ≠ D := by
    rintro rfl
    rcases hb with e | ⟨q, e⟩ <;> rw [h] at e <;> cases e
  rcases hb with e | ⟨q, e⟩
  · exact .inl ((upd_ne hn).trans e)
  · exact .inr ⟨q, (upd_ne hn).trans e⟩
theorem Tups.upd_ins {H : Hp} {D C dx : Addr} {fs : List (Str × V)} {o : HO} (h : H D = some (.ins C dx fs)) : Tups H (upd H D o) := fun b xs hb => by
  have hn : b ≠ D := by
    rintro rfl
    rcases hb with e | ⟨q, e⟩ <;> rw [h] at e <;> cases e
  rcases hb with e | ⟨q, e⟩
  · exact .inl ((upd_ne hn).trans e)
  · exact .inr ⟨q, (upd_ne hn).trans e⟩
theorem Tups.trans {H H1 H2 : Hp} (a : Tups H H1) (b : Tups H1 H2) : Tups H H2 := fun c xs h => b c xs (a c xs h)
section
variable {K : PySem.W.Frag} {H H' : Hp}
mutual
theorem dp_tups (S : Tups H H') : ∀ (d : PyData) (v : V), noL d = true → Dp K H v d → Dp K H' v d
  | .none, _, _, h => by cases h; exact .non
  | .bool _, _, _, h => by cases h; exact .bl _
  | .int _, _, _, h => by cases h; exact .int _
  | .str _, _, _, h => by cases h; exact .str _
  | .list _, _, n, _ => by simp [noL] at n
  | .dict _, _, n, _ => by simp [noL] at n
  | .tuple ds, _, n, h => by
    cases h with
    | tup s a =>
      refine .tup ?_ (dpAll_tups S ds _ (by simpa [noL] using n) a)
      rcases s with s | s
      · exact .inl (S _ _ s)
      · exact .inr s
theorem dpAll_tups (S : Tups H H') : ∀ (ds : List PyData) (vs : List V), noL.noLs ds = true → DpAll K H vs ds → DpAll K H' vs ds
  | [], _, _, h => by cases h; exact .nil
  | d :: ds, _, n, h => by
    rw [noL.noLs, Bool.and_eq_true] at n
    cases h with
    | cons a b => exact .cons (dp_tups S d _ n.1 a) (dpAll_tups S ds _ n.2 b)
end
theorem noLs_map {β : Type} {enc : β → PyData} (h : ∀ b, noL (enc b) = true) : ∀ bs : List β, noL.noLs (bs.map enc) = true
  | [] => rfl
  | b :: bs => by
    show noL.noLs (enc b :: bs.map enc) = true
    rw [noL.noLs, h b, noLs_map h bs]; rfl
theorem noL_encL (l : Lk) : noL (encL l) = true := rfl
/-- one more at the list that a comprehension makes -/
theorem acc_step {D : Addr} {ys : List V} {ds : List PyData} {y : V} {d : PyData} (hD : H D = some (.lst ys)) (hn : noL.noLs ds = true) (hd : noL d = true) (h : DpAll K H ys ds) (hy : Dp K H y d) :
    DpAll K (upd H D (.lst (ys ++ [y]))) (ys ++ [y]) (ds ++ [d]) :=
  dpAll_snoc (dpAll_tups (Tups.upd_lst hD) _ _ hn h) (dp_tups (Tups.upd_lst hD) _ _ hd hy)
end
theorem same_set {H : Hp} {p : Addr} {o : HO} {H1 : Hp} (S : Same H H1) (hn : H p = none) : Same H (upd H1 p o) := fun b u e => by rw [upd_ne (ne_of_none e hn)]; exact S b u e
theorem take_snoc {α : Type} : ∀ {l : List α} {i : Nat} {x : α}, l[i]? = some x → l.take (i + 1) = l.take i ++ [x]
  | [], i, x, h => by simp at h
  | a :: l, 0, x, h => by
    have e : a = x := Option.some.inj h
    subst e
    rfl
  | a :: l, i + 1, x, h => by
    have ih := take_snoc (l := l) (i := i) (x := x) h
    show a :: l.take (i + 1) = a :: l.take i ++ [x]
    rw [ih]; rfl
theorem map_at {α β : Type} {f : α → β} {l : List α} {i : Nat} {y : β} (h : (l.map f)[i]? = some y) : ∃ x, l[i]? = some x ∧ y = f x := by
  rw [List.getElem?_map] at h
  cases e : l[i]? with
  | none => rw [e] at h; cases h
  | some x => rw [e] at h; exact ⟨x, rfl, (Option.some.inj h).symm⟩
end KA
namespace KA
open PySem PySem.Spec PyProof.Rows L2 DP
def spPlace (K : PySem.W.Frag) : Sp := fun vs H Q _ => ∃ (v : V) (l : Lk) (sd : Str) (x L : Int), vs = [v, .str sd, .int x, .int L] ∧ Dp K H v (encL l) ∧ SideOk sd ∧ 0 < L ∧ L.natAbs < 2 ^ 200 ∧ x.natAbs < 2 ^ 400 ∧ Sized 400 l ∧ Q (.int (plc sd l x L)) H
def spFar (K : PySem.W.Frag) (f : Lk → Lk → Int → Bool) : Sp := fun vs H Q _ => ∃ (v u : V) (a b : Lk) (L : Int), vs = [v, u, .int L] ∧ Dp K H v (encL a) ∧ Dp K H u (encL b) ∧ WordOk a.1 ∧ WordOk b.1 ∧ 0 < L ∧ L.natAbs < 2 ^ 200 ∧ Sized 400 a ∧ Sized 400 b ∧ Q (.bl (f a b L)) H
section
variable {P : Program} {w : World} {K : PySem.W.Frag} {mg : Str → Option Value} {base : Heap} {Z : Ad}
theorem ok_place_by (T : Tx K w mg Z) : FnOk P w K mg base CX0 1 Z.a_place_by Z.d_place_by P_place_by (spPlace K) := by
  refine T.F_place_by.ok scplace_by (fun vs H Q E h => ?_) (fun cdv A outer s H vs Q E hr h => ?_)
  · obtain ⟨v, l, sd, x, L, rfl, _⟩ := h
    rfl
  · obtain ⟨v, l, sd, x, L, rfl, hv, hsd, hL, hLb, hx, hl, k⟩ := h
    obtain ⟨a, rfl, ha⟩ := dp_look hv
    refine ⟨_, (pss_cons (ps_asg (pv 0) (tupK (K := K) (by rfl) (pgs_cons (pg_name (i := 4) scplace_by.nd rfl (Or.inl rfl)) (pgs_cons (pg_name (i := 5) scplace_by.nd rfl (Or.inl rfl)) (pgs_cons (pg_name (i := 6) scplace_by.nd rfl (Or.inl rfl)) pgs_nil)))))
      (C8.pss_cut (ps_if (pt_cmpR op_eq (pv 1) (pe_glob rfl T.g_SLOW T.r_SLOW) (nomark _)) (pss_one (ps_ret (pe_op op_add (pv 6) (pe_op op_mulW (pe_op op_fdivW (pe_op op_sub (pv 2) (pv 5)) (pv 3)) (pv 3))))) pss_nil)
      (pss_one (ps_ret (pe_op op_sub (pv 6) (pe_op op_mulW (pe_op op_fdivW (pe_op op_sub (pv 5) (pv 2)) (pv 3)) (pv 3))))))), ?_⟩
    refine ⟨_, rfl, _, _, rfl, ha, rfl, _, _, rfl, _, _, rfl, _, _, rfl, rfl, ?_⟩
    have e1 : (x - l.2.1).natAbs < 2 ^ 401 := sub_lt hx hl.1
    have e2 : (l.2.1 - x).natAbs < 2 ^ 401 := sub_lt hl.1 hx
    rcases hsd with e | e
    · subst e
      rw [plc_slow] at k
      refine ⟨fun _ _ => False, ⟨_, rfl, rfl, _, rfl, iteT ⟨_, rfl, _, rfl, _, rfl, _, _, rfl, rfl, _, rfl, _, _, rfl, rfl, wide_div hL hLb (by decide) (by decide), _, rfl, _, _, rfl, rfl, wide_mul (div_lt hL e1) hLb (by decide) (by decide) (by decide), _, _, rfl, rfl, k⟩⟩, fun _ _ z => z.elim⟩
    · subst e
      rw [plc_fast] at k
      refine ⟨fun σ' H' => σ' = [some (.ref a), some (.str "fast"), some (.int x), some (.int L), some (.str l.1), some (.int l.2.1), some (.int l.2.2)] ∧ H' = H, ⟨_, rfl, rfl, _, rfl, ?_⟩, ?_⟩
      · have e3 : decide (V.str "fast" = V.str "slow") = false := by decide +kernel
        rw [e3]
        exact iteF ⟨rfl, rfl⟩
      · rintro σ1 H1 ⟨rfl, rfl⟩
        exact ⟨_, rfl, _, rfl, _, rfl, _, _, rfl, rfl, _, rfl, _, _, rfl, rfl, wide_div hL hLb (by decide) (by decide), _, rfl, _, _, rfl, rfl, wide_mul (div_lt hL e2) hLb (by decide) (by decide) (by decide), _, _, rfl, rfl, k⟩
theorem ok_too_far (T : Tx K w mg Z) : FnOk P w K mg base CX0 2 Z.a_too_far Z.d_too_far P_too_far (spFar K tooFar) := by
  refine T.F_too_far.ok sctoo_far (fun vs H Q E h => ?_) (fun cdv A outer s H vs Q E hr h => ?_)
  · obtain ⟨v, u, a, b, L, rfl, _⟩ := h
    rfl
  · obtain ⟨v, u, a, b, L, rfl, hv, hu, wa, wb, hL, hLb, sa, sb, k⟩ := h
    obtain ⟨p, rfl, hp⟩ := dp_look hv
    obtain ⟨q, rfl, hq⟩ := dp_look hu
    obtain ⟨es, n, DW⟩ := T.kd_WORDS
    obtain ⟨da1, da2, _⟩ := decl_words wa
    obtain ⟨db1, db2, _⟩ := decl_words wb
    refine ⟨_, (C8.pss_cut (ps_if (PW.pt (pw_or (pt_cmpR (notInS (K := K)) (pe_ix (ixT (K := K)) (pv 0) pe_int (fun _ _ => rfl)) (pe_ix (ix_kd DW) (pe_glob (v := .ref Z.a_WORDS) rfl T.g_WORDS rfl) (pe_glob rfl T.g_SLOW T.r_SLOW) (fun _ _ => rfl)) (by rfl)) (pw_or1 (pt_cmpR (notInS (K := K)) (pe_ix (ixT (K := K)) (pv 1) pe_int (fun _ _ => rfl)) (pe_ix (ix_kd DW) (pe_glob (v := .ref Z.a_WORDS) rfl T.g_WORDS rfl) (pe_glob rfl T.g_FAST T.r_FAST) (fun _ _ => rfl)) (by rfl))))) (pss_one (ps_ret pe_bl)) pss_nil)
      (pss_one (ps_ret (pe_cmpR op_gt (pe_call (ok_place_by T) (hr.mono (by decide)) (by rfl) T.g_place_by T.F_place_by.kp T.bb_place_by .nil pass0 (pa_cons (pv 0) (pa_cons (pe_glob rfl T.g_SLOW T.r_SLOW) (pa_cons (pe_ix (ixT (K := K)) (pv 1) pe_int (fun _ _ => rfl)) (pa_cons (pv 2) pa_nil))))) (pe_ix (ixT (K := K)) (pv 1) pe_int (fun _ _ => rfl)) (nomark _))))), ?_⟩
    unfold tooFar at k
    refine ⟨fun σ' H' => σ' = [some (.ref p), some (.ref q), some (.int L)] ∧ H' = H ∧ onSide "slow" a.1 = true ∧ onSide "fast" b.1 = true, ?_, ?_⟩
    · refine ⟨_, rfl, _, _, _, _, rfl, rfl, hp, rfl, _, _, .ref Z.t_slow, rfl, rfl, T.w_slow, rfl, _, _, rfl, .inr (T.q_slow _), rfl, rfl, _, rfl, ?_⟩
      cases c1 : onSide "slow" a.1 with
      | false =>
        rw [c1] at da1 k
        have : (if true = true then !inV (V.str a.1) [V.str "at", V.str "from"] else inV (V.str a.1) [V.str "at", V.str "from"]) = true := by rw [if_pos rfl, da1]; rfl
        rw [this]
        exact iteT (iteT k)
      | true =>
        rw [c1] at da1
        have : (if true = true then !inV (V.str a.1) [V.str "at", V.str "from"] else inV (V.str a.1) [V.str "at", V.str "from"]) = false := by rw [if_pos rfl, da1]; rfl
        rw [this]
        refine iteF ⟨_, rfl, _, _, _, _, rfl, rfl, hq, rfl, _, _, .ref Z.t_fast, rfl, rfl, T.w_fast, rfl, _, _, rfl, .inr (T.q_fast _), rfl, rfl, _, rfl, ?_⟩
        cases c2 : onSide "fast" b.1 with
        | false =>
          rw [c2] at db2
          rw [c1, c2] at k
          have : (if true = true then !inV (V.str b.1) [V.str "at", V.str "upto"] else inV (V.str b.1) [V.str "at", V.str "upto"]) = true := by rw [if_pos rfl, db2]; rfl
          rw [this]
          exact iteT k
        | true =>
          rw [c2] at db2
          have : (if true = true then !inV (V.str b.1) [V.str "at", V.str "upto"] else inV (V.str b.1) [V.str "at", V.str "upto"]) = false := by rw [if_pos rfl, db2]; rfl
          rw [this]
          exact iteF ⟨rfl, rfl, rfl, rfl⟩
    · rintro σ1 H1 ⟨rfl, rfl, c1, c2⟩
      rw [c1, c2] at k
      refine ⟨_, rfl, _, rfl, _, _, _, _, rfl, rfl, hq, rfl, _, rfl, ?_⟩
      exact ⟨_, a, "slow", b.2.1, L, rfl, hv, .inl rfl, hL, hLb, sb.1, sa, _, rfl, _, _, _, _, rfl, rfl, hq, rfl, _, _, rfl, rfl, k⟩
theorem ok_clash (T : Tx K w mg Z) : FnOk P w K mg base CX0 3 Z.a_clash Z.d_clash P_clash (spFar K clashB) := by
  refine T.F_clash.ok scclash (fun vs H Q E h => ?_) (fun cdv A outer s H vs Q E hr h => ?_)
  · obtain ⟨v, u, a, b, L, rfl, _⟩ := h
    rfl
  · obtain ⟨v, u, a, b, L, rfl, hv, hu, wa, wb, hL, hLb, sa, sb, k⟩ := h
    refine ⟨_, (pss_one (ps_ret (pe_or (pe_call (ok_too_far T) (hr.mono (by decide)) (by rfl) T.g_too_far T.F_too_far.kp T.bb_too_far .nil pass0 (pa_cons (pv 0) (pa_cons (pv 1) (pa_cons (pv 2) pa_nil)))) (pe_one (pe_call (ok_too_far T) (hr.mono (by decide)) (by rfl) T.g_too_far T.F_too_far.kp T.bb_too_far .nil pass0 (pa_cons (pv 1) (pa_cons (pv 0) (pa_cons (pv 2) pa_nil)))))))), ?_⟩
    unfold clashB at k
    refine ⟨_, rfl, _, rfl, _, rfl, v, u, a, b, L, rfl, hv, hu, wa, wb, hL, hLb, sa, sb, _, rfl, ?_⟩
    cases c : tooFar a b L with
    | true => rw [c] at k; exact iteT k
    | false =>
      rw [c] at k
      exact iteF ⟨_, rfl, _, rfl, _, rfl, u, v, b, a, L, rfl, hu, hv, wb, wa, hL, hLb, sb, sa, k⟩
end
end KA
namespace KA
open PySem PySem.Spec PyProof.Rows L2 DP
def sideOf (sd : Str) (ls : List Lk) : List Lk := ls.filter fun l => onSide sd l.1
def spSide (K : PySem.W.Frag) : Sp := fun vs H Q _ => ∃ (v : V) (ls : List Lk) (sd : Str), vs = [v, .str sd] ∧ Dp K H v (.list (ls.map encL)) ∧ SideOk sd ∧ (∀ l ∈ ls, WordOk l.1) ∧ ls.length ≤ 1000 ∧
  ∀ H' p, H p = none → Same H H' → (∃ vs, H' p = some (.lst vs) ∧ DpAll K H' vs ((sideOf sd ls).map encL)) → Q (.ref p) H'
/-- a step: where, by which look -/
def encS (sd : Str) (x L : Int) (l : Lk) : PyData := .tuple [.int (plc sd l x L), encL l]
/-- the best step's place -/
def IsBest (sd : Str) (ls : List Lk) (x L m : Int) : Prop := (∃ l ∈ ls, plc sd l x L = m) ∧ ∀ l ∈ ls, if sd = "slow" then plc sd l x L ≤ m else m ≤ plc sd l x L
def spBest (K : PySem.W.Frag) : Sp := fun vs H Q _ => ∃ (v : V) (ls : List Lk) (sd : Str) (x L : Int), vs = [v, .str sd, .int x, .int L] ∧ Dp K H v (.list (ls.map encL)) ∧ SideOk sd ∧ (∀ l ∈ ls, WordOk l.1 ∧ Sized 400 l) ∧ ls.length ≤ 1000 ∧ 0 < L ∧ L.natAbs < 2 ^ 200 ∧ x.natAbs < 2 ^ 400 ∧
  (ls = [] → Q .non H) ∧ ∀ H' r l, l ∈ ls → Same H H' → IsBest sd ls x L (plc sd l x L) → Dp K H' r (encS sd x L l) → Q r H'
/-! ### the best step -/
theorem alike_step (sd : Str) (x L : Int) (a b : Lk) : PySem.W.alike (encS sd x L a) (encS sd x L b) = true := by simp [encS, encL, PySem.W.alike, PySem.W.alikeAll]
theorem steps_alike (sd : Str) (x L : Int) (ls : List Lk) : PySem.W.AlikeAll (ls.map (encS sd x L)) := by
  refine ⟨fun a ha b hb => ?_, fun a ha => ?_⟩
  · obtain ⟨p, _, rfl⟩ := List.mem_map.mp ha
    obtain ⟨q, _, rfl⟩ := List.mem_map.mp hb
    exact alike_step _ _ _ _ _
  · obtain ⟨p, _, rfl⟩ := List.mem_map.mp ha
    exact fun e => by cases e
theorem lay_look {l : Lk} (h : WordOk l.1) : (encL l).canLay0 = true := by
  obtain ⟨a, b, c⟩ := l
  have h : WordOk a := h
  rcases h with e | e | e <;> subst e <;> simp [encL, PyData.canLay0, PyData.canLayAll0] <;> decide +kernel
theorem steps_lay (sd : Str) (x L : Int) : ∀ ls : List Lk, (∀ l ∈ ls, WordOk l.1) → PyData.canLayAll0 (ls.map (encS sd x L)) = true
  | [], _ => rfl
  | l :: ls, h => by
    have h1 := lay_look (h l List.mem_cons_self)
    have h2 := steps_lay sd x L ls fun q hq => h q (List.mem_cons_of_mem _ hq)
    show PyData.canLayAll0 (encS sd x L l :: ls.map (encS sd x L)) = true
    simp [PyData.canLayAll0, h2, encS, PyData.canLay0, h1]
theorem steps_depth (sd : Str) (x L : Int) : ∀ ls : List Lk, PyData.depthAll (ls.map (encS sd x L)) ≤ 60
  | [] => by simp [PyData.depthAll]
  | l :: ls => by
    have h2 := steps_depth sd x L ls
    show PyData.depthAll (encS sd x L l :: ls.map (encS sd x L)) ≤ 60
    have h3 : (encS sd x L l).depth = 2 := by simp [encS, encL, PyData.depth, PyData.depthAll]
    rw [PyData.depthAll, h3]
    omega
/-- a greater place is a greater step -/
theorem lt_step {sd : Str} {x L : Int} {a b : Lk} (h : plc sd a x L < plc sd b x L) : PySem.W.dataLt (encS sd x L a) (encS sd x L b) = true := by
  unfold encS
  rw [PySem.W.dataLt_tuple, PySem.W.dataLt_cons (by simp [PySem.W.alike])]
  have e : PyData.eqv (.int (plc sd a x L)) (.int (plc sd b x L)) = false := by simp [PyData.eqv]; omega
  rw [e, if_neg Bool.false_ne_true, PySem.W.dataLt_int]
  exact decide_eq_true h
theorem le_step {sd : Str} {x L : Int} {a b : Lk} (h : PySem.W.dataLt (encS sd x L a) (encS sd x L b) = true) : plc sd a x L ≤ plc sd b x L := by
  unfold encS at h
  rw [PySem.W.dataLt_tuple, PySem.W.dataLt_cons (by simp [PySem.W.alike])] at h
  by_cases e : plc sd a x L = plc sd b x L
  · omega
  · have e' : PyData.eqv (.int (plc sd a x L)) (.int (plc sd b x L)) = false := by simp [PyData.eqv]; omega
    rw [e', if_neg Bool.false_ne_true, PySem.W.dataLt_int] at h
    have := of_decide_eq_true h
    omega
theorem max_go (x L : Int) : ∀ (ls : List Lk) (l : Lk), ∃ q, (q = l ∨ q ∈ ls) ∧ (ls.map (encS "slow" x L)).foldl (fun a y => if PySem.W.dataLt a y then y else a) (encS "slow" x L l) = encS "slow" x L q ∧ plc "slow" l x L ≤ plc "slow" q x L ∧ ∀ p ∈ ls, plc "slow" p x L ≤ plc "slow" q x L
  | [], l => ⟨l, .inl rfl, rfl, Int.le_refl _, fun _ h => by cases h⟩
  | y :: ls, l => by
    rw [List.map_cons, List.foldl_cons]
    cases c : PySem.W.dataLt (encS "slow" x L l) (encS "slow" x L y) with
    | true =>
      rw [if_pos rfl]
      obtain ⟨q, hq, e, h1, h2⟩ := max_go x L ls y
      have := le_step c
      refine ⟨q, ?_, e, by omega, fun p hp => ?_⟩
      · rcases hq with e | e
        · subst e; exact .inr List.mem_cons_self
        · exact .inr (List.mem_cons_of_mem _ e)
      · rcases List.mem_cons.mp hp with e | e
        · subst e; exact h1
        · exact h2 p e
    | false =>
      rw [if_neg Bool.false_ne_true]
      obtain ⟨q, hq, e, h1, h2⟩ := max_go x L ls l
      refine ⟨q, ?_, e, h1, fun p hp => ?_⟩
      · rcases hq with e | e
        · exact .inl e
        · exact .inr (List.mem_cons_of_mem _ e)
      · rcases List.mem_cons.mp hp with e | e
        · subst e
          by_cases hlt : plc "slow" l x L < plc "slow" p x L
          · rw [lt_step hlt] at c; cases c
          · omega
        · exact h2 p e
theorem max_step (x L : Int) (l : Lk) (ls : List Lk) : ∃ q, q ∈ l :: ls ∧ PySem.W.maxD (encS "slow" x L l) (ls.map (encS "slow" x L)) = encS "slow" x L q ∧ IsBest "slow" (l :: ls) x L (plc "slow" q x L) := by
  obtain ⟨q, hq, e, h1, h2⟩ := max_go x L ls l
  have hm : q ∈ l :: ls := by
    rcases hq with e | e
    · subst e; exact List.mem_cons_self
    · exact List.mem_cons_of_mem _ e
  refine ⟨q, hm, e, ⟨q, hm, rfl⟩, fun p hp => ?_⟩
  rw [if_pos rfl]
  rcases List.mem_cons.mp hp with e | e
  · subst e; exact h1
  · exact h2 p e
theorem min_go (x L : Int) : ∀ (ls : List Lk) (l : Lk), ∃ q, (q = l ∨ q ∈ ls) ∧ (ls.map (encS "fast" x L)).foldl (fun a y => if PySem.W.dataLt y a then y else a) (encS "fast" x L l) = encS "fast" x L q ∧ plc "fast" q x L ≤ plc "fast" l x L ∧ ∀ p ∈ ls, plc "fast" q x L ≤ plc "fast" p x L
  | [], l => ⟨l, .inl rfl, rfl, Int.le_refl _, fun _ h => by cases h⟩
  | y :: ls, l => by
    rw [List.map_cons, List.foldl_cons]
    cases c : PySem.W.dataLt (encS "fast" x L y) (encS "fast" x L l) with
    | true =>
      rw [if_pos rfl]
      obtain ⟨q, hq, e, h1, h2⟩ := min_go x L ls y
      have := le_step c
      refine ⟨q, ?_, e, by omega, fun p hp => ?_⟩
      · rcases hq with e | e
        · subst e; exact .inr List.mem_cons_self
        · exact .inr (List.mem_cons_of_mem _ e)
      · rcases List.mem_cons.mp hp with e | e
        · subst e; exact h1
        · exact h2 p e
    | false =>
      rw [if_neg Bool.false_ne_true]
      obtain ⟨q, hq, e, h1, h2⟩ := min_go x L ls l
      refine ⟨q, ?_, e, h1, fun p hp => ?_⟩
      · rcases hq with e | e
        · exact .inl e
        · exact .inr (List.mem_cons_of_mem _ e)
      · rcases List.mem_cons.mp hp with e | e
        · subst e
          by_cases hlt : plc "fast" p x L < plc "fast" l x L
          · rw [lt_step hlt] at c; cases c
          · omega
        · exact h2 p e
theorem min_step (x L : Int) (l : Lk) (ls : List Lk) : ∃ q, q ∈ l :: ls ∧ PySem.W.minD (encS "fast" x L l) (ls.map (encS "fast" x L)) = encS "fast" x L q ∧ IsBest "fast" (l :: ls) x L (plc "fast" q x L) := by
  obtain ⟨q, hq, e, h1, h2⟩ := min_go x L ls l
  have hm : q ∈ l :: ls := by
    rcases hq with e | e
    · subst e; exact List.mem_cons_self
    · exact List.mem_cons_of_mem _ e
  refine ⟨q, hm, e, ⟨q, hm, rfl⟩, fun p hp => ?_⟩
  rw [if_neg slow_ne]
  rcases List.mem_cons.mp hp with e | e
  · subst e; exact h1
  · exact h2 p e
section
variable {P : Program} {w : World} {K : PySem.W.Frag} {mg : Str → Option Value} {base : Heap} {Z : Ad}
theorem words_side {sd x : Str} (hs : SideOk sd) (hx : WordOk x) : inV (.str x) (if sd = "slow" then [.str "at", .str "from"] else [.str "at", .str "upto"]) = onSide sd x := by
  obtain ⟨h1, h2, _⟩ := decl_words hx
  rcases hs with e | e
  · subst e; rw [if_pos rfl]; exact h1
  · subst e; rw [if_neg slow_ne]; exact h2
theorem ok_side_looks (T : Tx K w mg Z) : FnOk P w K mg base CX0 1 Z.a_side_looks Z.d_side_looks P_side_looks (spSide K) := by
  refine T.F_side_looks.ok scside_looks (fun vs H Q E h => ?_) (fun cdv A outer s H vs Q E hr h => ?_)
  · obtain ⟨v, ls, sd, rfl, _⟩ := h
    rfl
  · obtain ⟨v, ls, sd, rfl, hv, hsd, hw, hlen, k⟩ := h
    obtain ⟨a, xs, rfl, ha, hd⟩ := dp_list hv
    obtain ⟨es, n, DW⟩ := T.kd_WORDS
    have hxl : xs.length = ls.length := by rw [dpAll_len hd, List.length_map]
    obtain ⟨tw, htw, hqw⟩ : ∃ tw, PySem.W.nsIn K Z.a_WORDS sd = some (some (.ref tw)) ∧ ∀ H, SqT K H tw (if sd = "slow" then [.str "at", .str "from"] else [.str "at", .str "upto"]) := by
      rcases hsd with e | e
      · subst e; exact ⟨_, T.w_slow, fun H => by rw [if_pos rfl]; exact T.q_slow H⟩
      · subst e; exact ⟨_, T.w_fast, fun H => by rw [if_neg slow_ne]; exact T.q_fast H⟩
    refine ⟨_, (pss_cons (ps_set (i := 2) scside_looks.nd rfl (Or.inr rfl) (pe_ix (ix_kd DW) (pe_glob (v := .ref Z.a_WORDS) rfl T.g_WORDS rfl) (pv 1) (fun _ _ => rfl)))
      (pss_one (ps_ret (pe_lc (own := [("look", 3)]) (g := gName 3) (tt := _) rfl scside_looks.nd (pi_list (pv 0)) (blkOk_by (own := [("look", 3)]) (N := N_side_looks) (sc := defScope sside_looks) (by decide +kernel)) (fun _ _ _ _ _ => (pg_name (i := 3) scside_looks.nd rfl (Or.inl rfl))) (fun _ _ _ _ _ => (pts_one (pt_cmpR (inS (K := K)) (pe_ix (ixT (K := K)) (pv 3) pe_int (fun _ _ => rfl)) (pv 2) (by rfl)))) (fun _ _ _ _ _ => (pv 3)))))), ?_⟩
    refine ⟨_, rfl, sd, _, .ref tw, rfl, rfl, htw, rfl, _, rfl, a, rfl, ⟨_, ha⟩, fun D hD => ?_⟩
    refine lc_list (K := K) (a := a) (xs := xs) (fun i H' => Same H H' ∧ ∃ ys, H' D = some (.lst ys) ∧ ys.length ≤ i ∧ DpAll K H' ys ((sideOf sd (ls.take i)).map encL)) ⟨same_upd hD, [], upd_same, Nat.le_refl _, .nil⟩ (fun i H' _ ⟨S, _⟩ => Same.sqL S ha) ?_ ?_
    · rintro i y H' hi ⟨S, ys, hD', hyl, hds⟩
      obtain ⟨d, hdi, hdy⟩ := dpAll_get hd hi
      obtain ⟨l, hl, rfl⟩ := map_at hdi
      have hwl := hw l (List.mem_of_getElem? hl)
      have hdy' := dp_mono S _ _ hdy
      obtain ⟨p, rfl, hp⟩ := dp_look hdy'
      refine ⟨rfl, _, rfl, _, _, _, _, rfl, rfl, hp, rfl, _, rfl, _, _, rfl, .inr (hqw _), rfl, ?_, _, rfl, ?_⟩
      · split <;> rfl
      · have e1 : (if false = true then !inV (V.str l.1) (if sd = "slow" then [V.str "at", V.str "from"] else [V.str "at", V.str "upto"]) else inV (V.str l.1) (if sd = "slow" then [V.str "at", V.str "from"] else [V.str "at", V.str "upto"])) = onSide sd l.1 := by
          rw [if_neg Bool.false_ne_true]; exact words_side hsd hwl
        rw [e1]
        have e2 : sideOf sd (ls.take (i + 1)) = sideOf sd (ls.take i) ++ (if onSide sd l.1 = true then [l] else []) := by
          rw [take_snoc hl]; unfold sideOf; rw [List.filter_append]
          cases c : onSide sd l.1 <;> simp [c]
        cases c : onSide sd l.1 with
        | false =>
          refine iteF ⟨S, ys, hD', by omega, ?_⟩
          rw [e2, c]
          simpa using hds
        | true =>
          refine iteT ⟨_, rfl, ys, hD', ?_, ?_, _, upd_same, by simp; omega, ?_⟩
          · have : ys.length ≤ 1000 := by
              have := (List.getElem?_eq_some_iff.mp hl).1
              omega
            exact small1000 this
          · exact same_set S hD
          · rw [e2, c, if_pos rfl, List.map_append]
            exact acc_step hD' (noLs_map noL_encL _) rfl hds hdy'
    · rintro H' ⟨S, ys, hD', hyl, hds⟩
      rw [List.take_of_length_le (by rw [hxl]; exact Nat.le_refl _)] at hds
      exact k H' D hD S ⟨ys, hD', hds⟩
theorem ok_best_step (T : Tx K w mg Z) : FnOk P w K mg base CX0 2 Z.a_best_step Z.d_best_step P_best_step (spBest K) := by
  refine T.F_best_step.ok scbest_step (fun vs H Q E h => ?_) (fun cdv A outer s H vs Q E hr h => ?_)
  · obtain ⟨v, ls, sd, x, L, rfl, _⟩ := h
    rfl
  · obtain ⟨v, ls, sd, x, L, rfl, hv, hsd, hw, hlen, hL, hLb, hx, k0, k⟩ := h
    obtain ⟨a, xs, rfl, ha, hd⟩ := dp_list hv
    have hxl : xs.length = ls.length := by rw [dpAll_len hd, List.length_map]
    refine ⟨_, (C8.pss_cut (ps_if (pt_not (pt_truth (pv 0) (by intro _; rfl))) (pss_one (ps_ret pe_non)) pss_nil)
      (pss_cons (ps_setLc (i := 4) (own := [("look", 5)]) (g := gName 5) (tt := tYes) rfl scbest_step.nd rfl rfl (sw_true rfl rfl rfl (by decide +kernel)) (pi_list (pv 0)) (blkOk_by (own := [("look", 5)]) (N := N_best_step) (sc := defScope sbest_step) (by decide +kernel)) (fun _ _ _ _ _ => (pg_name (i := 5) scbest_step.nd rfl (Or.inl rfl))) (fun _ _ _ _ _ => pts_nil) (fun _ _ _ _ _ => (pe_tup (pa_cons (pe_call (ok_place_by T) (hr.mono (by decide)) (by rfl) T.g_place_by T.F_place_by.kp T.bb_place_by .nil pass0 (pa_cons (pv 5) (pa_cons (pv 1) (pa_cons (pv 2) (pa_cons (pv 3) pa_nil))))) (pa_cons (pv 5) pa_nil)))))
      (pss_one (ps_ret (pe_ifExp (pt_cmpR op_eq (pv 1) (pe_glob rfl T.g_SLOW T.r_SLOW) (nomark _)) (pe_callB (maxDK (K := K) rfl (rooms hr)) (by rfl) T.b_max (by decide +kernel) (pa_cons (pv 4) pa_nil)) (pe_callB (minDK (K := K) rfl (rooms hr)) (by rfl) T.b_min (by decide +kernel) (pa_cons (pv 4) pa_nil))))))), ?_⟩
    refine ⟨fun σ' H' => σ' = [some (.ref a), some (.str sd), some (.int x), some (.int L), none, none] ∧ H' = H ∧ ls ≠ [], ?_, ?_⟩
    · refine ⟨_, rfl, _, .inl ⟨xs, ha, rfl⟩, ?_⟩
      cases ls with
      | nil =>
        have e : xs = [] := List.eq_nil_of_length_eq_zero hxl
        subst e
        exact iteT (k0 rfl)
      | cons l ls =>
        cases xs with
        | nil => simp at hxl
        | cons y ys => exact iteF ⟨rfl, rfl, by simp⟩
    · rintro σ1 H1 ⟨rfl, rfl, hne⟩
      refine ⟨_, rfl, a, rfl, ⟨_, ha⟩, fun D hD => ?_⟩
      refine lc_list (K := K) (a := a) (xs := xs) (fun i H' => Same H1 H' ∧ ∃ ys, H' D = some (.lst ys) ∧ ys.length ≤ i ∧ DpAll K H' ys ((ls.take i).map (encS sd x L))) ⟨same_upd hD, [], upd_same, Nat.le_refl _, .nil⟩ (fun i H' _ ⟨S, _⟩ => Same.sqL S ha) ?_ ?_
      · rintro i y H' hi ⟨S, ys, hD', hyl, hds⟩
        obtain ⟨d, hdi, hdy⟩ := dpAll_get hd hi
        obtain ⟨l, hl, rfl⟩ := map_at hdi
        have hwl := hw l (List.mem_of_getElem? hl)
        have hdy' := dp_mono S _ _ hdy
        refine ⟨rfl, yes_ite ?_⟩
        refine ⟨_, rfl, _, rfl, _, rfl, _, rfl, y, l, sd, x, L, rfl, hdy', hsd, hL, hLb, hx, hwl.2, _, rfl, (by show 2 ≤ sizeLine; decide), fun p hp => ?_⟩
        have hD2 : (upd H' p (.tup [.int (plc sd l x L), y])) D = some (.lst ys) := (upd_ne (ne_of_none hD' hp)).trans hD'
        have S2 := same_upd (o := HO.tup [.int (plc sd l x L), y]) hp
        refine ⟨ys, hD2, ?_, same_set (S.trans S2) hD, _, upd_same, by simp; omega, ?_⟩
        · have := (List.getElem?_eq_some_iff.mp hl).1
          exact small1000 (by omega)
        · rw [take_snoc hl, List.map_append]
          exact acc_step hD2 (noLs_map (fun _ => rfl) _) rfl (dpAll_mono S2 _ _ hds) (.tup (SqT.of upd_same) (.cons (.int _) (.cons (dp_mono S2 _ _ hdy') .nil)))
      · rintro H' ⟨S, ys, hD', hyl, hds⟩
        rw [List.take_of_length_le (by rw [hxl]; exact Nat.le_refl _)] at hds
        refine ⟨_, rfl, rfl, _, rfl, ?_⟩
        have hd0 : ∃ l ls', ls = l :: ls' := by
          cases ls with
          | nil => exact absurd rfl hne
          | cons l ls' => exact ⟨l, ls', rfl⟩
        obtain ⟨l, ls', rfl⟩ := hd0
        have hal := steps_alike sd x L (l :: ls')
        have hlay := steps_lay sd x L (l :: ls') (fun q hq => (hw q hq).1)
        have hdep := steps_depth sd x L (l :: ls')
        rcases hsd with e | e
        · subst e
          refine iteT ⟨_, rfl, D, ys, _, _, rfl, SqL.of hD', hds, hal, hlay, hdep, fun r hr => ?_⟩
          obtain ⟨q, hq, e, hb⟩ := max_step x L l ls'
          rw [e] at hr
          exact k H' r q hq S hb hr
        · subst e
          have e3 : decide (V.str "fast" = V.str "slow") = false := by decide +kernel
          rw [e3]
          refine iteF ⟨_, rfl, D, ys, _, _, rfl, SqL.of hD', hds, hal, hlay, hdep, fun r hr => ?_⟩
          obtain ⟨q, hq, e, hb⟩ := min_step x L l ls'
          rw [e] at hr
          exact k H' r q hq S hb hr
end
end KA
namespace KA
open PySem PySem.Spec PyProof.Rows L2 DP
/-- a Dark's fields -/
def df (L : Int) (la : Addr) : List (Str × V) := [("_length", .int L), ("_looks", .ref la)]
theorem ne_ll : ¬ (("_looks" : Str) = "_length") := by decide +kernel
theorem ne_ll' : ¬ (("_length" : Str) = "_looks") := by decide +kernel
theorem df_length (L : Int) (la : Addr) : (df L la).lookup ("_length" : Str) = some (.int L) := by simp [df, List.lookup]
theorem df_looks (L : Int) (la : Addr) : (df L la).lookup ("_looks" : Str) = some (.ref la) := by
  have h : (("_looks" : Str) == ("_length" : Str)) = false := by decide +kernel
  simp [df, List.lookup, h]
theorem df_no (L : Int) (la : Addr) {m : Str} (h1 : (m == ("_length" : Str)) = false) (h2 : (m == ("_looks" : Str)) = false) : (df L la).lookup m = none := by simp [df, List.lookup, h1, h2]
theorem df_put1 (v : V) : putF "_length" v [] = [(("_length" : Str), v)] := rfl
theorem df_put2 (L : Int) (la : Addr) : putF "_looks" (.ref la) [("_length", .int L)] = df L la := by
  show (if ("_length" : Str) = "_looks" then _ else _) = _
  rw [if_neg ne_ll']; rfl
theorem df_put3 (L : Int) (la lb : Addr) : putF "_looks" (.ref lb) (df L la) = df L lb := by
  show (if ("_length" : Str) = "_looks" then _ else (("_length" : Str), V.int L) :: putF "_looks" (.ref lb) [("_looks", .ref la)]) = _
  rw [if_neg ne_ll']
  show (("_length" : Str), V.int L) :: (if ("_looks" : Str) = "_looks" then _ else _) = _
  rw [if_pos rfl]; rfl
/-- what is free there was free before -/
structure FreeIn (H H' : Hp) : Prop where
  free : ∀ {b : Addr}, H' b = none → H b = none
structure DarkAt (Z : Ad) (K : PySem.W.Frag) (H : Hp) (d : Addr) (L : Int) (ls : List Lk) : Prop where
  ex : ∃ dx la vs, H d = some (.ins Z.C dx (df L la)) ∧ H la = some (.lst vs) ∧ DpAll K H vs (ls.map encL)
  pos : 0 < L
  big : L.natAbs < 2 ^ 200
  ok : ∀ l ∈ ls, WordOk l.1 ∧ Sized 302 l
  len : ls.length ≤ 60
theorem DarkAt.same {Z : Ad} {K : PySem.W.Frag} {H H' : Hp} {d : Addr} {L : Int} {ls : List Lk} (D : DarkAt Z K H d L ls) (S : Same H H') : DarkAt Z K H' d L ls := by
  obtain ⟨dx, la, vs, h1, h2, h3⟩ := D.ex
  exact ⟨⟨dx, la, vs, S _ _ h1, S _ _ h2, dpAll_mono S _ _ h3⟩, D.pos, D.big, D.ok, D.len⟩
theorem Sized.up {m n : Nat} {l : Lk} (h : Sized m l) (hm : m ≤ n) : Sized n l := ⟨lt_up h.1 hm, lt_up h.2 hm⟩
theorem df_inj {C C' dx dx' : Addr} {L L' : Int} {la la' : Addr} (h : some (HO.ins C dx (df L la)) = some (HO.ins C' dx' (df L' la'))) : la = la' := by
  have h1 : df L la = df L' la' := by injection h with h; injection h
  simp [df] at h1
  exact h1.2
def spInit (Z : Ad) (K : PySem.W.Frag) : Sp := fun vs H Q _ => ∃ (d dx : Addr) (L : Int), vs = [.ref d, .int L] ∧ H d = some (.ins Z.C dx []) ∧ 0 < L ∧ L.natAbs < 2 ^ 200 ∧ ∀ H' : Hp, DarkAt Z K H' d L [] → (∀ la dx, H' d = some (.ins Z.C dx (df L la)) → H la = none) → (∀ b o, H b = some o → b ≠ d → H' b = some o) → Q .non H'
def spLooks (Z : Ad) (K : PySem.W.Frag) : Sp := fun vs H Q _ => ∃ (d : Addr) (L : Int) (ls : List Lk), vs = [.ref d] ∧ DarkAt Z K H d L ls ∧ ∀ (p : Addr) (xs : List V) (H' : Hp), H p = none → Same H H' → H' p = some (.lst xs) → DpAll K H' xs (ls.map encL) → Q (.ref p) H'
def spWord : Sp := fun vs H Q _ => ∃ (d : V) (x : Str), vs = [d, .str x] ∧ WordOk x ∧ Q .non H
def spHome (Z : Ad) (K : PySem.W.Frag) : Sp := fun vs H Q _ => ∃ (d : Addr) (L : Int) (ls : List Lk) (l : Lk), vs = [.ref d, .str l.1, .int l.2.1, .int l.2.2] ∧ DarkAt Z K H d L ls ∧ WordOk l.1 ∧ Sized 300 l ∧ ∀ H' r, Same H H' → Dp K H' r (encL (home L l)) → Q r H'
def spClashing (Z : Ad) (K : PySem.W.Frag) : Sp := fun vs H Q _ => ∃ (d : Addr) (v : V) (L : Int) (ls : List Lk) (l : Lk), vs = [.ref d, v] ∧ DarkAt Z K H d L ls ∧ Dp K H v (encL l) ∧ WordOk l.1 ∧ Sized 302 l ∧
  (ls.find? (fun o => clashB l o L) = none → Q .non H) ∧ ∀ o r, ls.find? (fun o => clashB l o L) = some o → Dp K H r (encL o) → Q r H
/-- what is heard -/
def heard (L : Int) (ls : List Lk) (l : Lk) : List Lk := if home L l ∈ ls then ls else (ls ++ [home L l]).mergeSort (PySem.W.dataLe false encL)
def spHear (Z : Ad) (K : PySem.W.Frag) : Sp := fun vs H Q _ => ∃ (d : Addr) (L : Int) (ls : List Lk) (l : Lk), vs = [.ref d, .str l.1, .int l.2.1, .int l.2.2] ∧ DarkAt Z K H d L ls ∧ WordOk l.1 ∧ Sized 300 l ∧ ls.length < 60 ∧ (∀ o ∈ ls, clashB (home L l) o L = false) ∧
  ∀ H', DarkAt Z K H' d L (heard L ls l) → (∀ la dx, H' d = some (.ins Z.C dx (df L la)) → (∃ dx', H d = some (.ins Z.C dx' (df L la))) ∨ H la = none) → (∀ b o, H b = some o → b ≠ d → H' b = some o) → Q .non H'
def spBound (Z : Ad) (K : PySem.W.Frag) : Sp := fun vs H Q _ => ∃ (d : Addr) (L : Int) (ls : List Lk) (sd : Str) (x : Int), vs = [.ref d, .str sd, .int x] ∧ DarkAt Z K H d L ls ∧ SideOk sd ∧ x.natAbs < 2 ^ 400 ∧
  (sideOf sd ls = [] → ∀ H', Same H H' → Q .non H') ∧ ∀ m H', Same H H' → IsBest sd (sideOf sd ls) x L m → Q (.int m) H'
/-- what a side tells of x: None, or the best place -/
def Tells (sd : Str) (ls : List Lk) (x L : Int) (v : V) : Prop := (sideOf sd ls = [] ∧ v = .non) ∨ ∃ m, v = .int m ∧ IsBest sd (sideOf sd ls) x L m
def spSideOf (Z : Ad) (K : PySem.W.Frag) (sd : Str) : Sp := fun vs H Q _ => ∃ (d : Addr) (L : Int) (ls : List Lk) (x : Int), vs = [.ref d, .int x] ∧ DarkAt Z K H d L ls ∧ x.natAbs < 2 ^ 400 ∧
  ∀ v H', Same H H' → Tells sd ls x L v → Q v H'
theorem same_put {H : Hp} {d C dx : Addr} {fs fs' : List (Str × V)} (h : H d = some (.ins C dx fs)) : FreeIn H (upd H d (.ins C dx fs')) := ⟨fun {b} hb => by
  by_cases e : b = d
  · subst e; rw [upd_same] at hb; cases hb
  · rw [upd_ne e] at hb; exact hb⟩
theorem emod_small {x L : Int} (h : 0 < L) (hb : L.natAbs < 2 ^ 200) : (x - x / L * L).natAbs < 2 ^ 200 := by
  have e : x - x / L * L = x % L := by
    have := Int.mul_ediv_add_emod x L
    rw [Int.mul_comm (x / L) L]; omega
  rw [e]
  have h1 := Int.emod_nonneg x (show L ≠ 0 by omega)
  have h2 := Int.emod_lt_of_pos x h
  have h3 : (x % L).natAbs ≤ L.natAbs := by clear hb; omega
  exact Nat.lt_of_le_of_lt h3 hb
theorem home_sized {L : Int} {l : Lk} (h : 0 < L) (hb : L.natAbs < 2 ^ 200) (hl : Sized 300 l) : Sized 302 (home L l) := by
  have h0 := emod_small (x := l.2.1) h hb
  refine ⟨lt_up h0 (by decide), ?_⟩
  show (l.2.2 - l.2.1 / L * L).natAbs < 2 ^ 302
  have e : l.2.2 - l.2.1 / L * L = l.2.2 + ((l.2.1 - l.2.1 / L * L) - l.2.1) := by omega
  rw [e]
  have h1 : ((l.2.1 - l.2.1 / L * L) - l.2.1).natAbs < 2 ^ 301 := sub_lt (lt_up h0 (by decide)) hl.1
  exact add_lt (lt_up hl.2 (by decide)) h1
section
variable {P : Program} {w : World} {K : PySem.W.Frag} {mg : Str → Option Value} {base : Heap} {Z : Ad}
theorem ok_Dark_init (T : Tx K w mg Z) : FnOk P w K mg base CX0 1 Z.a_Dark_init Z.d_Dark_init P_Dark_init (spInit Z K) := by
  refine T.F_Dark_init.ok scDark_init (fun vs H Q E h => ?_) (fun cdv A outer s H vs Q E hr h => ?_)
  · obtain ⟨d, dx, L, rfl, _⟩ := h
    rfl
  · obtain ⟨d, dx, L, rfl, hd, hL, hLb, k⟩ := h
    refine ⟨_, (C8.pss_cut (ps_if (pt_cmpR op_lt (pv 1) pe_int (nomark _)) (pss_one ps_never) pss_nil)
      (pss_cons (ps_fld (pv 0) (pv 1) rfl)
      (pss_one (ps_fld (pv 0) (pe_lst pa_nil) rfl)))), ?_⟩
    refine ⟨fun σ' H' => σ' = [some (.ref d), some (.int L)] ∧ H' = H, ?_, ?_⟩
    · refine ⟨_, rfl, _, _, rfl, rfl, _, rfl, ?_⟩
      exact ite2 (fun c => (by have c' := of_decide_eq_true c; omega : False)) (fun _ => ⟨rfl, rfl⟩)
    · rintro σ1 H1 ⟨rfl, rfl⟩
      refine ⟨_, rfl, _, rfl, d, Z.C, dx, [], rfl, hd, T.cl, T.n_length, (by show 0 < 1000; decide), ?_⟩
      refine ⟨(by show 0 ≤ sizeLine; decide), fun p hp => ?_⟩
      have h1 : (upd H1 d (.ins Z.C dx (putF "_length" (.int L) []))) d = some (.ins Z.C dx [("_length", .int L)]) := upd_same
      have hdp : d ≠ p := ne_of_none h1 hp
      refine ⟨_, rfl, d, Z.C, dx, [("_length", .int L)], rfl, (upd_ne hdp).trans h1, T.cl, T.n_looks, (by show 1 < 1000; decide), ?_⟩
      refine k _ ⟨⟨dx, p, [], Eq.trans upd_same (congrArg (fun q => some (HO.ins Z.C dx q)) (df_put2 L p)), (upd_ne (Ne.symm hdp)).trans upd_same, .nil⟩, hL, hLb, (fun _ z => absurd z (by simp)), Nat.zero_le _⟩ (fun la' dx' e => ?_) fun b o e hb => ?_
      · rw [upd_same, df_put2] at e
        rw [← df_inj e]
        exact (same_put hd).free hp
      have e1 : (upd H1 d (.ins Z.C dx (putF "_length" (.int L) []))) b = some o := (upd_ne hb).trans e
      exact (upd_ne hb).trans ((upd_ne (ne_of_none e1 hp)).trans e1)
theorem ok_Dark_looks (T : Tx K w mg Z) : FnOk P w K mg base CX0 1 Z.a_Dark_looks Z.d_Dark_looks P_Dark_looks (spLooks Z K) := by
  refine T.F_Dark_looks.ok scDark_looks (fun vs H Q E h => ?_) (fun cdv A outer s H vs Q E hr h => ?_)
  · obtain ⟨d, L, ls, rfl, _⟩ := h
    rfl
  · obtain ⟨d, L, ls, rfl, D, k⟩ := h
    obtain ⟨dx, la, xs, h1, h2, h3⟩ := D.ex
    refine ⟨_, (pss_one (ps_ret (pe_callTy (listK (K := K)) (by rfl) T.b_list (by decide +kernel) (pa_cons (fldK (K := K) (pv 0) rfl) pa_nil)))), ?_⟩
    refine ⟨_, rfl, d, Z.C, dx, _, _, rfl, h1, T.cl, T.n_looks, df_looks _ _, la, xs, rfl, .inl (SqL.of h2), fun p hp => ?_⟩
    exact k p xs _ hp (same_upd hp) upd_same (dpAll_mono (same_upd hp) _ _ h3)
theorem ok_Darkcheck_word (T : Tx K w mg Z) : FnOk P w K mg base CX0 1 Z.a_Darkcheck_word Z.d_Darkcheck_word P_Darkcheck_word (spWord) := by
  refine T.F_Darkcheck_word.ok scDarkcheck_word (fun vs H Q E h => ?_) (fun cdv A outer s H vs Q E hr h => ?_)
  · obtain ⟨d, x, rfl, _⟩ := h
    rfl
  · obtain ⟨d, x, rfl, hx, k⟩ := h
    refine ⟨_, (pss_one (ps_if (pt_cmpR (notInS (K := K)) (pv 1) (pe_glob (v := .ref Z.a_LW) rfl T.g_LOOK_WORDS rfl) (by rfl)) (pss_one ps_never) pss_nil)), ?_⟩
    obtain ⟨_, _, e⟩ := decl_words hx
    refine ⟨_, rfl, _, _, rfl, .inr (T.q_LW _), rfl, rfl, _, rfl, ?_⟩
    have e2 : (if true = true then !inV (V.str x) [V.str "at", V.str "from", V.str "upto"] else inV (V.str x) [V.str "at", V.str "from", V.str "upto"]) = false := by rw [if_pos rfl, e]; rfl
    rw [e2]
    exact iteF k
theorem ok_Darkhome (T : Tx K w mg Z) : FnOk P w K mg base CX0 2 Z.a_Darkhome Z.d_Darkhome P_Darkhome (spHome Z K) := by
  refine T.F_Darkhome.ok scDarkhome (fun vs H Q E h => ?_) (fun cdv A outer s H vs Q E hr h => ?_)
  · obtain ⟨d, L, ls, l, rfl, _⟩ := h
    rfl
  · obtain ⟨d, L, ls, l, rfl, D, hw, hl, k⟩ := h
    obtain ⟨dx, la, xs, h1, h2, h3⟩ := D.ex
    refine ⟨_, (pss_cons (ps_expr (pe_meth (pv 0) T.cl T.m_Darkcheck_word (ok_Darkcheck_word T) (hr.mono (by decide)) T.bb_Darkcheck_word .nil pass0 (pa_cons (pv 1) pa_nil)))
      (pss_cons (ps_set (i := 4) scDarkhome.nd rfl (Or.inl rfl) (pe_op op_fdivW (pv 2) (fldK (K := K) (pv 0) rfl)))
      (pss_one (ps_ret (pe_tup (pa_cons (pv 1) (pa_cons (pe_op op_sub (pv 2) (pe_op op_mulW (pv 4) (fldK (K := K) (pv 0) rfl))) (pa_cons (pe_op op_sub (pv 3) (pe_op op_mulW (pv 4) (fldK (K := K) (pv 0) rfl))) pa_nil)))))))), ?_⟩
    refine ⟨_, rfl, d, dx, _, rfl, h1, df_no _ _ (by decide +kernel) (by decide +kernel), _, rfl, _, _, rfl, hw, ?_⟩
    refine ⟨_, rfl, _, rfl, d, Z.C, dx, _, _, rfl, h1, T.cl, T.n_length, df_length _ _, _, _, rfl, rfl, wide_div D.pos D.big (by decide) (by decide), ?_⟩
    have b1 : (l.2.1 / L).natAbs < 2 ^ 301 := div_lt D.pos hl.1
    refine ⟨_, rfl, _, rfl, _, rfl, _, rfl, d, Z.C, dx, _, _, rfl, h1, T.cl, T.n_length, df_length _ _, _, _, rfl, rfl, wide_mul b1 D.big (by decide) (by decide) (by decide), _, _, rfl, rfl, ?_⟩
    refine ⟨_, rfl, _, rfl, _, rfl, d, Z.C, dx, _, _, rfl, h1, T.cl, T.n_length, df_length _ _, _, _, rfl, rfl, wide_mul b1 D.big (by decide) (by decide) (by decide), _, _, rfl, rfl, (by show 3 ≤ sizeLine; decide), fun p hp => ?_⟩
    exact k _ _ (same_upd hp) (.tup (SqT.of upd_same) (.cons (.str _) (.cons (.int _) (.cons (.int _) .nil))))
theorem ok_Darkclashing (T : Tx K w mg Z) : FnOk P w K mg base CX0 4 Z.a_Darkclashing Z.d_Darkclashing P_Darkclashing (spClashing Z K) := by
  refine T.F_Darkclashing.ok scDarkclashing (fun vs H Q E h => ?_) (fun cdv A outer s H vs Q E hr h => ?_)
  · obtain ⟨d, v, L, ls, l, rfl, _⟩ := h
    rfl
  · obtain ⟨d, v, L, ls, l, rfl, D, hv, hw, hl, k0, k⟩ := h
    obtain ⟨dx, la, xs, h1, h2, h3⟩ := D.ex
    have hxl : xs.length = ls.length := by rw [dpAll_len h3, List.length_map]
    refine ⟨_, (pss_cons (ps_for PassesOwn.never rfl (pi_list (fldK (K := K) (pv 0) rfl)) (pg_name (i := 2) scDarkclashing.nd rfl (Or.inl rfl)) (pss_one (ps_if (pt_val (pe_call (ok_clash T) (hr.mono (by decide)) (by rfl) T.g_clash T.F_clash.kp T.bb_clash .nil pass0 (pa_cons (pv 1) (pa_cons (pv 2) (pa_cons (fldK (K := K) (pv 0) rfl) pa_nil))))) (pss_one (ps_ret (pv 2))) pss_nil)))
      (pss_one (ps_ret pe_non))), ?_⟩
    refine ⟨_, rfl, d, Z.C, dx, _, _, rfl, h1, T.cl, T.n_looks, df_looks _ _, la, rfl, ⟨_, SqL.of h2⟩, ?_⟩
    refine for_list (K := K) (a := la) (xs := xs) (fun i σ' H' => ∃ u, σ' = [some (.ref d), some v, u] ∧ H' = H ∧ (ls.take i).find? (fun o => clashB l o L) = none) ⟨none, rfl, rfl, rfl⟩ (fun i σ' H' _ ⟨_, _, e, _⟩ => by rw [e]; exact SqL.of h2) ?_ ?_
    · rintro i y σ' H' hi ⟨u, rfl, rfl, hno⟩
      obtain ⟨e, hdi, hdy⟩ := dpAll_get h3 hi
      obtain ⟨o, ho, rfl⟩ := map_at hdi
      have hok := D.ok o (List.mem_of_getElem? ho)
      refine ⟨_, rfl, _, rfl, _, rfl, d, Z.C, dx, _, _, rfl, h1, T.cl, T.n_length, df_length _ _, v, y, l, o, L, rfl, hv, hdy, hw, hok.1, D.pos, D.big, hl.up (by decide), hok.2.up (by decide), _, rfl, ?_⟩
      have hsp : ls = ls.take i ++ o :: ls.drop (i + 1) := by
        have h4 := List.getElem?_eq_some_iff.mp ho
        obtain ⟨h5, h6⟩ := h4
        rw [← h6, List.getElem_cons_drop, List.take_append_drop]
      cases c : clashB l o L with
      | true =>
        refine iteT ⟨_, rfl, k o y ?_ hdy⟩
        rw [hsp, List.find?_append, hno, List.find?_cons, c]
        rfl
      | false =>
        refine iteF ⟨_, rfl, rfl, ?_⟩
        rw [take_snoc ho, List.find?_append, hno, List.find?_cons, c]
        rfl
    · rintro σ' H' ⟨u, rfl, rfl, hno⟩
      rw [List.take_of_length_le (by rw [hxl]; exact Nat.le_refl _)] at hno
      exact k0 hno
theorem alike_looks (ls : List Lk) : PySem.W.AllAlike (ls.map encL) := PySem.W.AllAlike.of fun _ _ => by simp [encL, PySem.W.alike, PySem.W.alikeAll]
theorem depth_look (l : Lk) : (encL l).depth = 1 := by simp [encL, PyData.depth, PyData.depthAll]
theorem shaped_look {l : Lk} (h : WordOk l.1) : SeqAt.shaped (encL l) = true := by
  unfold SeqAt.shaped
  rw [lay_look h, depth_look]; rfl
theorem lay_looks : ∀ ls : List Lk, (∀ l ∈ ls, WordOk l.1) → PyData.canLayAll0 (ls.map encL) = true
  | [], _ => rfl
  | l :: ls, h => by
    show PyData.canLayAll0 (encL l :: ls.map encL) = true
    rw [PyData.canLayAll0, lay_look (h l List.mem_cons_self), lay_looks ls fun q hq => h q (List.mem_cons_of_mem _ hq)]; rfl
theorem depth_looks : ∀ ls : List Lk, PyData.depthAll (ls.map encL) ≤ 1
  | [] => by simp [PyData.depthAll]
  | l :: ls => by
    show PyData.depthAll (encL l :: ls.map encL) ≤ 1
    rw [PyData.depthAll, depth_look]
    have := depth_looks ls
    omega
theorem shaped_looks {ls : List Lk} (h : ∀ l ∈ ls, WordOk l.1) : SeqAt.shaped (.list (ls.map encL)) = true := by
  unfold SeqAt.shaped
  rw [PyData.canLay0, lay_looks ls h, PyData.depth]
  have := depth_looks ls
  simp; omega
theorem eqv_look (a b : Lk) : PyData.eqv (encL a) (encL b) = decide (a = b) := by
  obtain ⟨a1, a2, a3⟩ := a
  obtain ⟨b1, b2, b3⟩ := b
  simp [encL, PyData.eqv, PyData.eqvAll]
  by_cases h1 : a1 = b1 <;> by_cases h2 : a2 = b2 <;> by_cases h3 : a3 = b3 <;> simp [h1, h2, h3]
theorem any_look (ls : List Lk) (l : Lk) : ((ls.map encL).any fun z => PyData.eqv z (encL l)) = decide (l ∈ ls) := by
  rw [List.any_map]
  rw [Bool.eq_iff_iff, List.any_eq_true, decide_eq_true_eq]
  constructor
  · rintro ⟨o, ho, e⟩
    have e' : decide (o = l) = true := by rw [← eqv_look]; exact e
    rw [← of_decide_eq_true e']; exact ho
  · intro h
    exact ⟨l, h, by show PyData.eqv (encL l) (encL l) = true; rw [eqv_look]; simp⟩
theorem heard_mem {L : Int} {ls : List Lk} {l o : Lk} : o ∈ heard L ls l ↔ o ∈ ls ∨ o = home L l := by
  unfold heard
  by_cases c : home L l ∈ ls
  · rw [if_pos c]
    exact ⟨.inl, fun h => h.elim id fun e => e ▸ c⟩
  · rw [if_neg c, (List.mergeSort_perm _ _).mem_iff, List.mem_append, List.mem_singleton]
theorem heard_len (L : Int) (ls : List Lk) (l : Lk) : (heard L ls l).length ≤ ls.length + 1 := by
  unfold heard
  split
  · omega
  · rw [(List.mergeSort_perm _ _).length_eq, List.length_append]; simp
theorem ok_Dark_hear (T : Tx K w mg Z) : FnOk P w K mg base CX0 5 Z.a_Dark_hear Z.d_Dark_hear P_Dark_hear (spHear Z K) := by
  refine T.F_Dark_hear.ok scDark_hear (fun vs H Q E h => ?_) (fun cdv A outer s H vs Q E hr h => ?_)
  · obtain ⟨d, L, ls, l, rfl, _⟩ := h
    rfl
  · obtain ⟨d, L, ls, l, rfl, D, hw, hl, hlen, hno, k⟩ := h
    obtain ⟨dx, la, xs, h1, h2, h3⟩ := D.ex
    have hfind : ls.find? (fun o => clashB (home L l) o L) = none := List.find?_eq_none.mpr fun o ho => by rw [hno o ho]; exact Bool.false_ne_true
    have hsz := home_sized D.pos D.big hl
    refine ⟨_, (pss_cons (ps_set (i := 4) scDark_hear.nd rfl (Or.inl rfl) (pe_meth (pv 0) T.cl T.m_Darkhome (ok_Darkhome T) (hr.mono (by decide)) T.bb_Darkhome .nil pass0 (pa_cons (pv 1) (pa_cons (pv 2) (pa_cons (pv 3) pa_nil)))))
      (pss_cons (ps_set (i := 5) scDark_hear.nd rfl (Or.inl rfl) (pe_meth (pv 0) T.cl T.m_Darkclashing (ok_Darkclashing T) (hr.mono (by decide)) T.bb_Darkclashing .nil pass0 (pa_cons (pv 4) pa_nil)))
      (C8.pss_cut (ps_if (pt_cmpR op_notN (pv 5) pe_non (nomark _)) (pss_one ps_never) pss_nil)
      (pss_one (ps_if (pt_cmpR (notInDK (K := K) (rooms hr)) (pv 4) (fldK (K := K) (pv 0) rfl) (by rfl)) (pss_one (ps_fld (pv 0) (pe_callB (sortDK (K := K) encL (rooms hr)) (by rfl) T.b_sorted (by decide +kernel) (pa_cons (pe_op op_cat (fldK (K := K) (pv 0) rfl) (pe_lst (pa_cons (pv 4) pa_nil))) pa_nil)) rfl)) pss_nil))))), ?_⟩
    refine ⟨_, rfl, d, dx, _, rfl, h1, df_no _ _ (by decide +kernel) (by decide +kernel), _, rfl, _, rfl, _, rfl, d, L, ls, l, rfl, D, hw, hl, fun H1 r S hr => ?_⟩
    have D1 := D.same S
    refine ⟨_, rfl, d, dx, _, rfl, S _ _ h1, df_no _ _ (by decide +kernel) (by decide +kernel), _, rfl, d, r, L, ls, home L l, rfl, D1, hr, hw, hsz, fun _ => ?_, fun o r ho => ?_⟩
    · refine ⟨fun σ' H' => σ' = [some (.ref d), some (.str l.1), some (.int l.2.1), some (.int l.2.2), some r, some .non] ∧ H' = H1, ?_, ?_⟩
      · exact ⟨_, rfl, rfl, _, rfl, iteF ⟨rfl, rfl⟩⟩
      · rintro σ2 H2 ⟨rfl, rfl⟩
        have hwords : ∀ o ∈ ls, WordOk o.1 := fun o ho => (D.ok o ho).1
        have hds := dpAll_mono S _ _ h3
        refine ⟨_, rfl, _, rfl, d, Z.C, dx, _, _, rfl, S _ _ h1, T.cl, T.n_looks, df_looks _ _, encL (home L l), ls.map encL, hr, .lst (SqL.of (S _ _ h2)) hds, shaped_look hw, shaped_looks hwords, _, rfl, ?_⟩
        rw [any_look]
        have fin : ∀ H', DarkAt Z K H' d L (heard L ls l) → (∀ la dx, H' d = some (.ins Z.C dx (df L la)) → (∃ dx', H d = some (.ins Z.C dx' (df L la))) ∨ H la = none) → (∀ b o, H2 b = some o → b ≠ d → H' b = some o) → Q .non H' := fun H' DD ff kk => k H' DD ff fun b o e hb => kk b o (S b o e) hb
        have okH : ∀ o ∈ heard L ls l, WordOk o.1 ∧ Sized 302 o := fun o ho => by
          rcases heard_mem.mp ho with h | h
          · exact D.ok o h
          · subst h; exact ⟨hw, hsz⟩
        have lenH : (heard L ls l).length ≤ 60 := Nat.le_trans (heard_len L ls l) hlen
        by_cases c : home L l ∈ ls
        · have e : (!decide (home L l ∈ ls)) = false := by simp [c]
          rw [e]
          refine iteF (fin H2 ?_ (fun la' dx' e => ?_) fun _ _ e _ => e)
          · have eh : heard L ls l = ls := if_pos c
            rw [eh]; exact D1
          · have e2 := e.symm.trans (S _ _ h1)
            rw [df_inj e2]
            exact .inl ⟨dx, h1⟩
        · have e : (!decide (home L l ∈ ls)) = true := by simp [c]
          rw [e]
          refine iteT ⟨_, rfl, d, Z.C, dx, _, _, rfl, S _ _ h1, T.cl, T.n_looks, df_looks _ _, _, rfl, (by show 1 ≤ sizeLine; decide), fun p hp => ?_⟩
          have S2 := same_upd (o := HO.lst [r]) hp
          have h2' := S2 _ _ (S _ _ h2)
          refine ⟨la, p, xs, [r], rfl, rfl, h2', upd_same, ?_, fun p2 hp2 => ?_⟩
          · have : xs.length = ls.length := by rw [dpAll_len h3, List.length_map]
            exact Nat.le_of_lt (small1000 (by simp; omega))
          have S3 := S2.trans (same_upd (o := HO.lst (xs ++ [r])) hp2)
          have hall : DpAll K (upd (upd H2 p (.lst [r])) p2 (.lst (xs ++ [r]))) (xs ++ [r]) ((ls ++ [home L l]).map encL) := by
            rw [List.map_append]
            exact dpAll_snoc (dpAll_mono S3 _ _ hds) (dp_mono S3 _ _ hr)
          refine ⟨p2, xs ++ [r], ls ++ [home L l], rfl, SqL.of upd_same, hall, alike_looks _, PySem.W.Sortable.tuples fun _ => ⟨_, _, rfl⟩, fun b _ => by rw [depth_look]; decide, fun p3 ys H3 hp3 S4 hy hys => ?_⟩
          have S5 := S3.trans S4
          have h1' := S5 _ _ (S _ _ h1)
          have hd3 : d ≠ p3 := fun e => by
            subst e
            rw [(S3 _ _ (S _ _ h1))] at hp3
            cases hp3
          refine ⟨_, rfl, d, Z.C, dx, df L la, rfl, h1', T.cl, T.n_looks, (by show 2 < 1000; decide), ?_⟩
          refine fin _ ⟨⟨dx, p3, ys, Eq.trans upd_same (congrArg (fun q => some (HO.ins Z.C dx q)) (df_put3 L la p3)), (upd_ne (Ne.symm hd3)).trans hy, ?_⟩, D.pos, D.big, okH, lenH⟩ (fun la' dx' e => ?_) fun b o e hb => (upd_ne hb).trans (S5 _ _ e)
          rotate_left
          · rw [upd_same, df_put3] at e
            rw [← df_inj e]
            exact .inr (S.free (S3.free hp3))
          have eh : heard L ls l = (ls ++ [home L l]).mergeSort (PySem.W.dataLe false encL) := if_neg c
          rw [eh]
          exact dpAll_tups (Tups.upd_ins h1') _ _ (noLs_map noL_encL _) hys
    · rw [hfind] at ho; cases ho
theorem ok_Darkbound (T : Tx K w mg Z) : FnOk P w K mg base CX0 3 Z.a_Darkbound Z.d_Darkbound P_Darkbound (spBound Z K) := by
  refine T.F_Darkbound.ok scDarkbound (fun vs H Q E h => ?_) (fun cdv A outer s H vs Q E hr h => ?_)
  · obtain ⟨d, L, ls, sd, x, rfl, _⟩ := h
    rfl
  · obtain ⟨d, L, ls, sd, x, rfl, D, hsd, hx, k0, k⟩ := h
    obtain ⟨dx, la, xs, h1, h2, h3⟩ := D.ex
    refine ⟨_, (pss_cons (ps_set (i := 3) scDarkbound.nd rfl (Or.inl rfl) (pe_call (ok_best_step T) (hr.mono (by decide)) (by rfl) T.g_best_step T.F_best_step.kp T.bb_best_step .nil pass0 (pa_cons (pe_call (ok_side_looks T) (hr.mono (by decide)) (by rfl) T.g_side_looks T.F_side_looks.kp T.bb_side_looks .nil pass0 (pa_cons (fldK (K := K) (pv 0) rfl) (pa_cons (pv 1) pa_nil))) (pa_cons (pv 1) (pa_cons (pv 2) (pa_cons (fldK (K := K) (pv 0) rfl) pa_nil))))))
      (pss_one (ps_ret (pe_ifExp (pt_cmpR op_isN (pv 3) pe_non (nomark _)) pe_non (pe_ix (ixT (K := K)) (pv 3) pe_int (fun _ _ => rfl)))))), ?_⟩
    refine ⟨_, rfl, d, Z.C, dx, _, _, rfl, h1, T.cl, T.n_looks, df_looks _ _, _, rfl, .ref la, ls, sd, rfl, .lst (SqL.of h2) h3, hsd, fun l hl => (D.ok l hl).1, Nat.le_trans D.len (by decide), fun H1 r _ S hr0 => ?_⟩
    have hr : Dp K H1 (.ref r) (.list ((sideOf sd ls).map encL)) := by
      obtain ⟨vs, q1, q2⟩ := hr0
      exact .lst (SqL.of q1) q2
    refine ⟨_, rfl, _, rfl, _, rfl, d, Z.C, dx, _, _, rfl, S _ _ h1, T.cl, T.n_length, df_length _ _, ?_⟩
    refine ⟨.ref r, sideOf sd ls, sd, x, L, rfl, hr, hsd, fun l hl => ⟨(D.ok l (List.mem_filter.mp hl).1).1, (D.ok l (List.mem_filter.mp hl).1).2.up (by decide)⟩, Nat.le_trans (List.length_filter_le _ _) (Nat.le_trans D.len (by decide)), D.pos, D.big, hx, fun e => ?_, fun H2 r2 l hl S2 hb hr2 => ?_⟩
    · exact ⟨_, rfl, rfl, _, rfl, iteT (k0 e _ S)⟩
    · have hr2' : Dp K H2 r2 (.tuple [.int (plc sd l x L), encL l]) := hr2
      cases hr2' with
      | tup s a =>
        cases a with
        | cons a1 a =>
          cases a1
          cases a with
          | cons a2 a =>
          cases a
          refine ⟨_, rfl, rfl, _, rfl, ?_⟩
          refine iteF ⟨_, rfl, _, _, _, _, rfl, rfl, s, rfl, ?_⟩
          exact k _ _ (S.trans S2) hb
theorem ok_Dark_least (T : Tx K w mg Z) : FnOk P w K mg base CX0 4 Z.a_Dark_least Z.d_Dark_least P_Dark_least (spSideOf Z K "slow") := by
  refine T.F_Dark_least.ok scDark_least (fun vs H Q E h => ?_) (fun cdv A outer s H vs Q E hr h => ?_)
  · obtain ⟨d, L, ls, x, rfl, _⟩ := h
    rfl
  · obtain ⟨d, L, ls, x, rfl, D, hx, k⟩ := h
    obtain ⟨dx, la, xs, h1, h2, h3⟩ := D.ex
    refine ⟨_, (pss_one (ps_ret (pe_meth (pv 0) T.cl T.m_Darkbound (ok_Darkbound T) (hr.mono (by decide)) T.bb_Darkbound .nil pass0 (pa_cons (pe_glob rfl T.g_SLOW T.r_SLOW) (pa_cons (pv 1) pa_nil))))), ?_⟩
    exact ⟨_, rfl, d, dx, _, rfl, h1, df_no _ _ (by decide +kernel) (by decide +kernel), _, rfl, d, L, ls, "slow", x, rfl, D, .inl rfl, hx, fun e H1 S => k _ H1 S (.inl ⟨e, rfl⟩), fun m H1 S hb => k _ H1 S (.inr ⟨m, rfl, hb⟩)⟩
theorem ok_Dark_greatest (T : Tx K w mg Z) : FnOk P w K mg base CX0 4 Z.a_Dark_greatest Z.d_Dark_greatest P_Dark_greatest (spSideOf Z K "fast") := by
  refine T.F_Dark_greatest.ok scDark_greatest (fun vs H Q E h => ?_) (fun cdv A outer s H vs Q E hr h => ?_)
  · obtain ⟨d, L, ls, x, rfl, _⟩ := h
    rfl
  · obtain ⟨d, L, ls, x, rfl, D, hx, k⟩ := h
    obtain ⟨dx, la, xs, h1, h2, h3⟩ := D.ex
    refine ⟨_, (pss_one (ps_ret (pe_meth (pv 0) T.cl T.m_Darkbound (ok_Darkbound T) (hr.mono (by decide)) T.bb_Darkbound .nil pass0 (pa_cons (pe_glob rfl T.g_FAST T.r_FAST) (pa_cons (pv 1) pa_nil))))), ?_⟩
    exact ⟨_, rfl, d, dx, _, rfl, h1, df_no _ _ (by decide +kernel) (by decide +kernel), _, rfl, d, L, ls, "fast", x, rfl, D, .inr rfl, hx, fun e H1 S => k _ H1 S (.inl ⟨e, rfl⟩), fun m H1 S hb => k _ H1 S (.inr ⟨m, rfl, hb⟩)⟩
end
end KA
namespace KA
open PySem PySem.Spec PyProof.Rows L2 DP
/-! What the looks of a side tell, in plain Lean (laws that do without the tray's Law6). -/
theorem side_low {x : Str} (h : onSide "slow" x = true) : x = "at" ∨ x = "from" := by
  unfold onSide at h
  rw [if_pos rfl, Bool.or_eq_true, decide_eq_true_eq, decide_eq_true_eq] at h
  exact h
theorem side_high {x : Str} (h : onSide "fast" x = true) : x = "at" ∨ x = "upto" := by
  unfold onSide at h
  rw [if_neg slow_ne, Bool.or_eq_true, decide_eq_true_eq, decide_eq_true_eq] at h
  exact h
theorem plc_home {L : Int} (hL : 0 < L) (sd : Str) (l : Lk) (x : Int) : plc sd (home L l) x L = plc sd l x L := by
  unfold plc home
  split
  · show l.2.2 - l.2.1 / L * L + (x - (l.2.1 - l.2.1 / L * L)) / L * L = l.2.2 + (x - l.2.1) / L * L
    have e : x - (l.2.1 - l.2.1 / L * L) = (x - l.2.1) + l.2.1 / L * L := by omega
    rw [e, Int.add_mul_ediv_right _ _ (by omega), Int.add_mul]; omega
  · show l.2.2 - l.2.1 / L * L - (l.2.1 - l.2.1 / L * L - x) / L * L = l.2.2 - (l.2.1 - x) / L * L
    have e : l.2.1 - l.2.1 / L * L - x = (l.2.1 - x) + (-(l.2.1 / L)) * L := by rw [Int.neg_mul]; omega
    rw [e, Int.add_mul_ediv_right _ _ (by omega), Int.add_mul, Int.neg_mul]; omega
theorem fold_mem {L : Int} : ∀ (ls acc : List Lk) (o : Lk), o ∈ ls.foldl (heard L) acc ↔ o ∈ acc ∨ ∃ l ∈ ls, o = home L l
  | [], acc, o => by simp
  | l :: ls, acc, o => by
    rw [List.foldl_cons, fold_mem ls, heard_mem]
    constructor
    · rintro ((h | h) | ⟨q, hq, e⟩)
      · exact .inl h
      · exact .inr ⟨l, List.mem_cons_self, h⟩
      · exact .inr ⟨q, List.mem_cons_of_mem _ hq, e⟩
    · rintro (h | ⟨q, hq, e⟩)
      · exact .inl (.inl h)
      · rcases List.mem_cons.mp hq with h | h
        · subst h; exact .inl (.inr e)
        · exact .inr ⟨q, h, e⟩
theorem fold_len {L : Int} : ∀ (ls acc : List Lk), (ls.foldl (heard L) acc).length ≤ acc.length + ls.length
  | [], acc => by simp
  | l :: ls, acc => by
    have h1 := fold_len (L := L) ls (heard L acc l)
    have h2 := heard_len L acc l
    rw [List.foldl_cons, List.length_cons]; omega
theorem mem_side {sd : Str} {ls : List Lk} {l : Lk} : l ∈ sideOf sd ls ↔ l ∈ ls ∧ onSide sd l.1 = true := by
  unfold sideOf; rw [List.mem_filter]
/-- the best of the looks is the best of them brought home -/
theorem best_home {L : Int} (hL : 0 < L) {sd : Str} {ls hs : List Lk} {x m : Int} (hh : ∀ o, o ∈ hs ↔ ∃ l ∈ ls, o = home L l) (h : IsBest sd (sideOf sd hs) x L m) : IsBest sd (sideOf sd ls) x L m := by
  obtain ⟨⟨o, ho, e⟩, h2⟩ := h
  obtain ⟨ho1, ho2⟩ := mem_side.mp ho
  obtain ⟨l, hl, rfl⟩ := (hh o).mp ho1
  rw [plc_home hL] at e
  refine ⟨⟨l, mem_side.mpr ⟨hl, ho2⟩, e⟩, fun q hq => ?_⟩
  obtain ⟨hq1, hq2⟩ := mem_side.mp hq
  have := h2 (home L q) (mem_side.mpr ⟨(hh _).mpr ⟨q, hq1, rfl⟩, hq2⟩)
  rw [plc_home hL] at this
  exact this
theorem best_one {sd : Str} {ls : List Lk} {x L m m' : Int} (h : IsBest sd ls x L m) (h' : IsBest sd ls x L m') : m = m' := by
  obtain ⟨⟨a, ha, ea⟩, h2⟩ := h
  obtain ⟨⟨b, hb, eb⟩, h2'⟩ := h'
  have q1 := h2 b hb
  have q2 := h2' a ha
  rw [eb] at q1
  rw [ea] at q2
  split at q1 <;> split at q2 <;> first | omega | (exfalso; simp_all)
theorem side_nil {L : Int} {sd : Str} {ls hs : List Lk} (hh : ∀ o, o ∈ hs ↔ ∃ l ∈ ls, o = home L l) : sideOf sd hs = [] ↔ sideOf sd ls = [] := by
  constructor
  · intro h
    refine List.eq_nil_iff_forall_not_mem.mpr fun l hl => ?_
    obtain ⟨h1, h2⟩ := mem_side.mp hl
    have : home L l ∈ sideOf sd hs := mem_side.mpr ⟨(hh _).mpr ⟨l, h1, rfl⟩, h2⟩
    rw [h] at this; cases this
  · intro h
    refine List.eq_nil_iff_forall_not_mem.mpr fun o ho => ?_
    obtain ⟨h1, h2⟩ := mem_side.mp ho
    obtain ⟨l, hl, rfl⟩ := (hh o).mp h1
    have : l ∈ sideOf sd ls := mem_side.mpr ⟨hl, h2⟩
    rw [h] at this; cases this
theorem plc_shift {L : Int} (hL : 0 < L) (sd : Str) (l : Lk) (x k : Int) : plc sd l (x + k * L) L = plc sd l x L + k * L := by
  unfold plc
  split
  · have e : x + k * L - l.2.1 = (x - l.2.1) + k * L := by omega
    rw [e, Int.add_mul_ediv_right _ _ (by omega), Int.add_mul]; omega
  · have e : l.2.1 - (x + k * L) = (l.2.1 - x) + (-k) * L := by rw [Int.neg_mul]; omega
    rw [e, Int.add_mul_ediv_right _ _ (by omega), Int.add_mul, Int.neg_mul]; omega
theorem far_home {L : Int} (hL : 0 < L) (a b : Lk) : tooFar (home L a) (home L b) L = tooFar a b L := by
  unfold tooFar
  have e1 : (home L b).2.2 = b.2.2 - b.2.1 / L * L := rfl
  have e2 : (home L b).2.1 = b.2.1 + (-(b.2.1 / L)) * L := by show b.2.1 - b.2.1 / L * L = _; rw [Int.neg_mul]; omega
  rw [e1, e2, plc_home hL, plc_shift hL, Int.neg_mul]
  congr 1
  rw [decide_eq_decide]
  constructor <;> intro h <;> omega
theorem clash_home {L : Int} (hL : 0 < L) (a b : Lk) : clashB (home L a) (home L b) L = clashB a b L := by
  unfold clashB
  rw [far_home hL, far_home hL]
/-- the best place, as a number -/
noncomputable def bst (sd : Str) (ls : List Lk) (x L : Int) : Int := by
  classical exact if h : ∃ m, IsBest sd ls x L m then h.choose else 0
theorem bst_of {sd : Str} {ls : List Lk} {x L m : Int} (h : IsBest sd ls x L m) : bst sd ls x L = m := by
  have e : ∃ m, IsBest sd ls x L m := ⟨m, h⟩
  unfold bst
  rw [dif_pos e]
  exact best_one e.choose_spec h
theorem bst_slow {ls : List Lk} (h : ls ≠ []) (x L : Int) : IsBest "slow" ls x L (bst "slow" ls x L) := by
  cases ls with
  | nil => exact absurd rfl h
  | cons l r =>
    obtain ⟨q, _, _, b⟩ := max_step x L l r
    rw [bst_of b]; exact b
theorem bst_fast {ls : List Lk} (h : ls ≠ []) (x L : Int) : IsBest "fast" ls x L (bst "fast" ls x L) := by
  cases ls with
  | nil => exact absurd rfl h
  | cons l r =>
    obtain ⟨q, _, _, b⟩ := min_step x L l r
    rw [bst_of b]; exact b
theorem plc_mono {L : Int} (hL : 0 < L) (sd : Str) (l : Lk) {x y : Int} (h : x ≤ y) : plc sd l x L ≤ plc sd l y L := by
  unfold plc
  split
  · have h1 := Int.mul_le_mul_of_nonneg_right (Int.ediv_le_ediv hL (by omega : x - l.2.1 ≤ y - l.2.1)) (Int.le_of_lt hL)
    omega
  · have h1 := Int.mul_le_mul_of_nonneg_right (Int.ediv_le_ediv hL (by omega : l.2.1 - y ≤ l.2.1 - x)) (Int.le_of_lt hL)
    omega
theorem best_mono {L : Int} (hL : 0 < L) {sd : Str} {ls : List Lk} {x y m m' : Int} (h : IsBest sd ls x L m) (h' : IsBest sd ls y L m') (hxy : x ≤ y) : m ≤ m' := by
  obtain ⟨⟨l, hl, e⟩, h2⟩ := h
  obtain ⟨⟨l', hl', e'⟩, h2'⟩ := h'
  have q1 := h2' l hl
  have q2 := h2 l' hl'
  by_cases c : sd = "slow"
  · rw [if_pos c] at q1
    have := plc_mono hL sd l hxy
    omega
  · rw [if_neg c] at q2
    have := plc_mono hL sd l' hxy
    omega
theorem best_shift {L : Int} (hL : 0 < L) {sd : Str} {ls : List Lk} {x m : Int} (k : Int) (h : IsBest sd ls x L m) : IsBest sd ls (x + k * L) L (m + k * L) := by
  obtain ⟨⟨l, hl, e⟩, h2⟩ := h
  refine ⟨⟨l, hl, by rw [plc_shift hL, e]⟩, fun q hq => ?_⟩
  have := h2 q hq
  rw [plc_shift hL]
  split at this
  · rw [if_pos (by assumption)]; omega
  · rw [if_neg (by assumption)]; omega
theorem far_le {L : Int} {a b : Lk} (h : tooFar a b L = false) (ha : onSide "slow" a.1 = true) (hb : onSide "fast" b.1 = true) : plc "slow" a b.2.1 L ≤ b.2.2 := by
  unfold tooFar at h
  rw [ha, hb, Bool.true_and, Bool.true_and, decide_eq_false_iff_not] at h
  omega
theorem far_no {L : Int} {a b : Lk} (h : onSide "slow" a.1 = true → onSide "fast" b.1 = true → plc "slow" a b.2.1 L ≤ b.2.2) : tooFar a b L = false := by
  unfold tooFar
  cases c1 : onSide "slow" a.1 with
  | false => rfl
  | true =>
    cases c2 : onSide "fast" b.1 with
    | false => rfl
    | true =>
      rw [Bool.true_and, Bool.true_and, decide_eq_false_iff_not]
      have := h c1 c2
      omega
theorem no_far_of {L : Int} {a b : Lk} (h : clashB a b L = false) : tooFar a b L = false ∧ tooFar b a L = false := by
  unfold clashB at h
  rw [Bool.or_eq_false_iff] at h
  exact h
theorem cross {L : Int} (hL : 0 < L) {a b : Lk} (h : plc "slow" a b.2.1 L ≤ b.2.2) (x : Int) : plc "slow" a x L ≤ plc "fast" b x L := by
  rw [plc_fast]
  have hj : (b.2.1 - x) / L * L ≤ b.2.1 - x := by
    have := Int.mul_ediv_add_emod (b.2.1 - x) L
    have h0 := Int.emod_nonneg (b.2.1 - x) (show L ≠ 0 by omega)
    rw [Int.mul_comm] at this
    omega
  generalize (b.2.1 - x) / L = j at hj ⊢
  have h1 := plc_mono hL "slow" a (by omega : x + j * L ≤ b.2.1)
  rw [plc_shift hL] at h1
  omega
theorem low_high {L : Int} (hL : 0 < L) {hs : List Lk} (hnc : ∀ a ∈ hs, ∀ b ∈ hs, clashB a b L = false) {x m m' : Int} (h : IsBest "slow" (sideOf "slow" hs) x L m) (h' : IsBest "fast" (sideOf "fast" hs) x L m') : m ≤ m' := by
  obtain ⟨⟨l, hl, e⟩, _⟩ := h
  obtain ⟨⟨l', hl', e'⟩, _⟩ := h'
  obtain ⟨h1, h2⟩ := mem_side.mp hl
  obtain ⟨h1', h2'⟩ := mem_side.mp hl'
  rw [← e, ← e']
  exact cross hL (far_le (no_far_of (hnc l h1 l' h1')).1 h2 h2') x
end KA
namespace KA
open PySem PySem.Spec PyProof.Rows L2 DP
/-- the length of the list at g -/
def lenAt (H : Hp) (g : Addr) : Nat := match H g with | some (.lst xs) => xs.length | _ => 0
theorem lenAt_of {H : Hp} {g : Addr} {xs : List V} (h : H g = some (.lst xs)) : lenAt H g = xs.length := by unfold lenAt; rw [h]
theorem atI_last {α : Type} {xs : List α} (h : 0 < xs.length) : atI xs (-1) = xs[xs.length - 1]? := by
  unfold atI ixN
  rw [if_neg (by decide), if_pos (by omega)]
  show xs[_]? = _
  congr 1
  omega
theorem same_made {H : Hp} {d dx : Addr} {o : HO} (hdn : H d = none) (hdx : H dx = none) : Same H (upd (upd H dx (.own d)) d o) := fun b o e => by
  rw [upd_ne (ne_of_none e hdn), upd_ne (ne_of_none e hdx)]; exact e
/-- all stands but one object -/
def Out (d : Addr) (H H' : Hp) : Prop := ∀ c o, H c = some o → c ≠ d → H' c = some o
theorem Out.tups {d C dx : Addr} {fs : List (Str × V)} {H H' : Hp} (k : Out d H H') (h : H d = some (.ins C dx fs)) : Tups H H' := fun c zs hc => by
  have hcb : c ≠ d := by
    rintro rfl
    rcases hc with e | ⟨q, e⟩ <;> rw [h] at e <;> cases e
  rcases hc with e | ⟨q, e⟩
  · exact .inl (k _ _ e hcb)
  · exact .inr ⟨q, k _ _ e hcb⟩
theorem Out.dark {Z : Ad} {K : PySem.W.Frag} {H H' : Hp} {d e C dx : Addr} {fs : List (Str × V)} {L : Int} {ls : List Lk} (k : Out d H H') (D : DarkAt Z K H e L ls) (h : H d = some (.ins C dx fs)) (hne : e ≠ d) : DarkAt Z K H' e L ls := by
  obtain ⟨dx2, la, vs, h1, h2, h3⟩ := D.ex
  exact ⟨⟨dx2, la, vs, k _ _ h1 hne, k _ _ h2 (fun q => by rw [q, h] at h2; cases h2), dpAll_tups (k.tups h) _ _ (noLs_map noL_encL ls) h3⟩, D.pos, D.big, D.ok, D.len⟩
theorem Out.sqL {K : PySem.W.Frag} {H H' : Hp} {d C dx p : Addr} {fs : List (Str × V)} {xs : List V} (k : Out d H H') (h : H d = some (.ins C dx fs)) (q : SqL K H p xs) : SqL K H' p xs := by
  rcases q with q | q
  · have hp : p ≠ d := by
      rintro rfl
      rcases q with e | ⟨z, e⟩ <;> rw [h] at e <;> cases e
    rcases q with e | ⟨z, e⟩
    · exact .inl (.inl (k _ _ e hp))
    · exact .inl (.inr ⟨z, k _ _ e hp⟩)
  · exact .inr q
end KA
namespace KA
open PySem PySem.Spec PyProof.Rows L2 DP RZ
/-- a comprehension over zip of two lists of one length -/
theorem lc_zip {K : PySem.W.Frag} {a b : Addr} {xs ys : List V} {g : TG} {tt : TT} {te : TE} {vs : List Nat} {σ : L2.St} {H1 : Hp} {D : Addr} {Qd : Hp → Prop} (hl : xs.length = ys.length) (Pv : Nat → Hp → Prop) (h0 : Pv 0 (upd H1 D (.lst []))) (hq : ∀ i H, Pv i H → SqL K H a xs ∧ SqL K H b ys)
    (hs : ∀ i x y T H, xs[i]? = some x → ys[i]? = some y → Pv i H → H T = none → g (.ref T) (wipe σ vs) (upd H T (.tup [x, y])) fun σ2 H2 => wipe σ2 vs = wipe σ vs ∧ tt σ2 H2 fun b H3 =>
      if b = true then te σ2 H3 fun y H4 => ∃ acc, H4 D = some (.lst acc) ∧ acc.length < sizeLine ∧ Pv (i + 1) (upd H4 D (.lst (acc ++ [y]))) else Pv (i + 1) H3) (hd : ∀ H, Pv xs.length H → Qd H) :
    ∃ W : Nat → Nat → Hp → Prop, (∃ m, W 0 m (upd H1 D (.lst []))) ∧ ∀ i m H, W i m H →
      ((Itz K a b).stop i H ∧ Qd H) ∨ ((Itz K a b).go i H ∧ ∃ Nx : Hp → Prop, (∀ H', Nx H' → ∃ m', m' < m ∧ W (i + 1) m' H') ∧ ∀ x H', (Itz K a b).yld i H x H' → g x (wipe σ vs) H' fun σ2 H2 => wipe σ2 vs = wipe σ vs ∧ tt σ2 H2 fun b H3 =>
        if b = true then te σ2 H3 fun y H4 => ∃ acc, H4 D = some (.lst acc) ∧ acc.length < sizeLine ∧ Nx (upd H4 D (.lst (acc ++ [y]))) else Nx H3) := by
  refine ⟨fun i m H => m = xs.length - i ∧ i ≤ xs.length ∧ Pv i H, ⟨xs.length, rfl, Nat.zero_le _, h0⟩, ?_⟩
  rintro i m H ⟨rfl, hi, p⟩
  obtain ⟨qx, qy⟩ := hq i H p
  by_cases hlt : i < xs.length
  · have hx : xs[i]? = some xs[i] := List.getElem?_eq_getElem hlt
    have hlt2 : i < ys.length := by omega
    have hy : ys[i]? = some ys[i] := List.getElem?_eq_getElem hlt2
    refine .inr ⟨⟨xs, ys, _, _, qx, qy, hx, hy⟩, Pv (i + 1), fun H' p' => ⟨xs.length - (i + 1), by omega, rfl, hlt, p'⟩, fun v H' y => ?_⟩
    obtain ⟨T, x', y', rfl, hT, rfl, f1, f2⟩ := y
    exact hs i x' y' T H (f1 xs qx) (f2 ys qy) p hT
  · have e : i = xs.length := by omega
    subst e
    exact .inl ⟨⟨xs, ys, qx, qy, Or.inl (Nat.le_refl _)⟩, hd H p⟩
end KA
namespace KA
open PySem PySem.Spec PyProof.Rows L2 DP
/-! ### hands under which nobody overtakes, and looks that they fit -/
structure Hand (L : Int) (f : Int → Int) : Prop where
  mono : ∀ x y, x ≤ y → f x ≤ f y
  turn : ∀ x k, f (x + k * L) = f x + k * L
def Fits (f : Int → Int) (l : Lk) : Prop := (onSide "slow" l.1 = true → l.2.2 ≤ f l.2.1) ∧ (onSide "fast" l.1 = true → f l.2.1 ≤ l.2.2)
theorem fit_low {L : Int} (hL : 0 < L) {f : Int → Int} (F : Hand L f) {l : Lk} (h : Fits f l) (hs : onSide "slow" l.1 = true) (x : Int) : plc "slow" l x L ≤ f x := by
  have h1 := h.1 hs
  have h2 := Int.mul_ediv_add_emod (x - l.2.1) L
  have h3 := Int.emod_nonneg (x - l.2.1) (show L ≠ 0 by omega)
  rw [Int.mul_comm] at h2
  have h4 := F.mono (l.2.1 + (x - l.2.1) / L * L) x (by omega)
  rw [F.turn] at h4
  rw [plc_slow]; omega
theorem fit_high {L : Int} (hL : 0 < L) {f : Int → Int} (F : Hand L f) {l : Lk} (h : Fits f l) (hs : onSide "fast" l.1 = true) (x : Int) : f x ≤ plc "fast" l x L := by
  have h1 := h.2 hs
  have h2 := Int.mul_ediv_add_emod (l.2.1 - x) L
  have h3 := Int.emod_nonneg (l.2.1 - x) (show L ≠ 0 by omega)
  rw [Int.mul_comm] at h2
  have h4 := F.mono x (l.2.1 + (-((l.2.1 - x) / L)) * L) (by rw [Int.neg_mul]; omega)
  rw [F.turn, Int.neg_mul] at h4
  rw [plc_fast]; omega
theorem fit_far {L : Int} (hL : 0 < L) {f : Int → Int} (F : Hand L f) {a b : Lk} (ha : Fits f a) (hb : Fits f b) : tooFar a b L = false :=
  far_no fun h1 h2 => Int.le_trans (fit_low hL F ha h1 b.2.1) (hb.2 h2)
theorem fit_clash {L : Int} (hL : 0 < L) {f : Int → Int} (F : Hand L f) {a b : Lk} (ha : Fits f a) (hb : Fits f b) : clashB a b L = false := by
  unfold clashB
  rw [fit_far hL F ha hb, fit_far hL F hb ha]; rfl
theorem fit_home {L : Int} {f : Int → Int} (F : Hand L f) {l : Lk} (h : Fits f l) : Fits f (home L l) := by
  have e : f (home L l).2.1 = f l.2.1 - l.2.1 / L * L := by
    show f (l.2.1 - l.2.1 / L * L) = _
    have := F.turn l.2.1 (-(l.2.1 / L))
    rw [Int.neg_mul] at this
    rw [Int.sub_eq_add_neg, this]; omega
  refine ⟨fun hs => ?_, fun hs => ?_⟩
  · have := h.1 hs
    rw [e]
    show l.2.2 - l.2.1 / L * L ≤ _
    omega
  · have := h.2 hs
    rw [e]
    show _ ≤ l.2.2 - l.2.1 / L * L
    omega
/-- some places, and where they are led: rising, within a turn -/
structure Rises (L : Int) (prs : List (Int × Int)) : Prop where
  ne : prs ≠ []
  ord : prs.Pairwise fun a b => a.1 < b.1 ∧ a.2 ≤ b.2
  on : ∀ s ∈ prs, 0 ≤ s.1 ∧ s.1 < L
  turn : ∃ b : Int, b.natAbs < 2 ^ 104 ∧ ∀ s ∈ prs, b ≤ s.2 ∧ s.2 ≤ b + L
theorem pw_at {α : Type} {R : α → α → Prop} {l : List α} (h : l.Pairwise R) {a b : α} (ha : a ∈ l) (hb : b ∈ l) : a = b ∨ R a b ∨ R b a := by
  obtain ⟨i, hi, rfl⟩ := List.getElem_of_mem ha
  obtain ⟨j, hj, rfl⟩ := List.getElem_of_mem hb
  rw [List.pairwise_iff_getElem] at h
  rcases Nat.lt_trichotomy i j with e | e | e
  · exact .inr (.inl (h i j hi hj e))
  · subst e; exact .inl rfl
  · exact .inr (.inr (h j i hj hi e))
def atL (s : Int × Int) : Lk := ("at", s.1, s.2)
theorem Rises.lead {L : Int} (hL : 0 < L) {prs : List (Int × Int)} (R : Rises L prs) : ∃ f, Hand L f ∧ ∀ s ∈ prs, f s.1 = s.2 := by
  have hne : prs.map atL ≠ [] := fun e => R.ne (List.map_eq_nil_iff.mp e)
  refine ⟨fun x => bst "slow" (prs.map atL) x L, ⟨fun x y h => best_mono hL (bst_slow hne x L) (bst_slow hne y L) h, fun x k => bst_of (best_shift hL k (bst_slow hne x L))⟩, fun s hs => bst_of ⟨⟨atL s, List.mem_map.mpr ⟨s, hs, rfl⟩, ?_⟩, fun l hl => ?_⟩⟩
  · rw [plc_slow]
    show s.2 + (s.1 - s.1) / L * L = s.2
    rw [Int.sub_self, Int.zero_ediv, Int.zero_mul, Int.add_zero]
  · obtain ⟨q, hq, rfl⟩ := List.mem_map.mp hl
    rw [if_pos rfl, plc_slow]
    show q.2 + (s.1 - q.1) / L * L ≤ s.2
    have h1 := R.on s hs
    have h2 := R.on q hq
    obtain ⟨b, _, hb⟩ := R.turn
    have h3 := hb s hs
    have h4 := hb q hq
    rcases pw_at R.ord hq hs with e | e | e
    · rw [e, Int.sub_self, Int.zero_ediv, Int.zero_mul]; omega
    · rw [Int.ediv_eq_zero_of_lt (by omega) (by omega), Int.zero_mul]; omega
    · have e2 : (s.1 - q.1) / L = -1 := by
        have e1 : s.1 - q.1 = (s.1 - q.1 + L) + (-1) * L := by omega
        rw [e1, Int.add_mul_ediv_right _ _ (by omega), Int.ediv_eq_zero_of_lt (by omega) (by omega)]
        rfl
      rw [e2]; omega
/-- a look that is said of such places -/
def Said (L : Int) (prs : List (Int × Int)) (l : Lk) : Prop := WordOk l.1 ∧ ∃ s ∈ prs, l.2.1 = s.1 ∧ (l.1 = "at" → l.2.2 = s.2) ∧ (l.1 = "from" → l.2.2 ≤ s.2 ∧ s.2 ≤ l.2.2 + L) ∧ (l.1 = "upto" → s.2 ≤ l.2.2 ∧ l.2.2 ≤ s.2 + L)
theorem Said.fits {L : Int} {prs : List (Int × Int)} {f : Int → Int} (hf : ∀ s ∈ prs, f s.1 = s.2) {l : Lk} (h : Said L prs l) : Fits f l := by
  obtain ⟨_, s, hs, e, h1, h2, h3⟩ := h
  rw [Fits, e, hf s hs]
  refine ⟨fun c => ?_, fun c => ?_⟩
  · rcases side_low c with e | e
    · exact Int.le_of_eq (h1 e)
    · exact (h2 e).1
  · rcases side_high c with e | e
    · exact Int.le_of_eq (h1 e).symm
    · exact (h3 e).1
theorem Said.sized {L : Int} (hL : 0 < L) (hLb : L.natAbs < 2 ^ 100) {prs : List (Int × Int)} (R : Rises L prs) {l : Lk} (h : Said L prs l) : Sized 110 l := by
  obtain ⟨w, s, hs, e, h1, h2, h3⟩ := h
  have h4 := R.on s hs
  obtain ⟨b, hb, hb2⟩ := R.turn
  have h5 := hb2 s hs
  refine ⟨?_, ?_⟩
  · rw [e]; exact lt_up (Nat.lt_of_le_of_lt (by omega : s.1.natAbs ≤ L.natAbs) hLb) (by decide)
  · have e1 : (2 : Nat) ^ 110 = 2 ^ 104 * 64 := by decide
    have e2 : (2 : Nat) ^ 100 ≤ 2 ^ 104 := by decide
    rw [e1]
    generalize (2 : Nat) ^ 104 = B at hb e2 ⊢
    generalize (2 : Nat) ^ 100 = C at hLb e2
    rcases w with w | w | w
    · rw [h1 w]; omega
    · have := h2 w; omega
    · have := h3 w; omega
/-- heard some turns on -/
theorem home_turned {L : Int} (hL : 0 < L) (w : Str) (x y k : Int) : home L (w, x + k * L, y + k * L) = home L (w, x, y) := by
  have e : (x + k * L) / L = x / L + k := by rw [Int.add_mul_ediv_right _ _ (by omega)]
  show (w, x + k * L - (x + k * L) / L * L, y + k * L - (x + k * L) / L * L) = (w, x - x / L * L, y - x / L * L)
  rw [e, Int.add_mul]
  congr 1
  congr 1 <;> omega
theorem heard_turned {L : Int} (hL : 0 < L) (ls : List Lk) (w : Str) (x y k : Int) : heard L ls (w, x + k * L, y + k * L) = heard L ls (w, x, y) := by
  unfold heard
  rw [home_turned hL]
/-- all heard -/
def heardAll (L : Int) (ls : List Lk) : List Lk := ls.foldl (heard L) []
theorem heardAll_mem {L : Int} {ls : List Lk} (o : Lk) : o ∈ heardAll L ls ↔ ∃ l ∈ ls, o = home L l := by
  unfold heardAll
  rw [fold_mem]; simp
end KA
namespace KA
open PySem PySem.Spec PyProof.Rows L2 DP
theorem neg1 {gs : List Int} {y : Int} : atI ((gs ++ [y]).map V.int) (-1) = some (.int y) := by
  rw [atI_last (by simp), List.length_map, List.length_append, List.length_singleton, Nat.add_sub_cancel, List.getElem?_map, List.getElem?_append_right (Nat.le_refl _), Nat.sub_self]; rfl
theorem snoc_of {α : Type} : ∀ {l : List α}, l ≠ [] → ∃ a b, l = a ++ [b] := fun {l} h => ⟨l.dropLast, l.getLast h, (List.dropLast_concat_getLast h).symm⟩
theorem w_af : ¬ (("at" : Str) = "from") := by decide +kernel
theorem w_au : ¬ (("at" : Str) = "upto") := by decide +kernel
theorem w_fa : ¬ (("from" : Str) = "at") := by decide +kernel
theorem w_fu : ¬ (("from" : Str) = "upto") := by decide +kernel
theorem w_ua : ¬ (("upto" : Str) = "at") := by decide +kernel
theorem w_uf : ¬ (("upto" : Str) = "from") := by decide +kernel
/-! ### tables: hands of few places, as lists of where they lead each place -/
noncomputable def rowL (r : List Int) (x : Int) : Int := r.getD (x % (r.length : Int)).toNat 0 + x / (r.length : Int) * (r.length : Int)
structure IsRow (w : Nat) (r : List Int) : Prop where
  len : r.length = w
  up : r.Pairwise (· ≤ ·)
  near : ∀ z ∈ r, z ≤ r.getD 0 0 + w
theorem getD_at {r : List Int} {i : Nat} (h : i < r.length) : r.getD i 0 = r[i] := by rw [List.getD_eq_getElem?_getD, List.getElem?_eq_getElem h]; rfl
theorem IsRow.hand {w : Nat} (hw : 0 < w) {r : List Int} (R : IsRow w r) : Hand (w : Int) (rowL r) := by
  have hl : (r.length : Int) = (w : Int) := by rw [R.len]
  have hw' : (0 : Int) < (w : Int) := by omega
  have hm : ∀ i j (hi : i < r.length) (hj : j < r.length), i ≤ j → r[i] ≤ r[j] := fun i j hi hj h => by
    rcases Nat.lt_or_eq_of_le h with c | c
    · exact List.pairwise_iff_getElem.mp R.up i j hi hj c
    · subst c; exact Int.le_refl _
  have h0 : ∀ i (hi : i < r.length), r[0]'(by omega) ≤ r[i] ∧ r[i] ≤ r[0]'(by omega) + w := fun i hi => by
    refine ⟨hm 0 i (by omega) hi (by omega), ?_⟩
    have := R.near _ (List.getElem_mem hi)
    rwa [getD_at (by omega)] at this
  refine ⟨fun x y hxy => ?_, fun x k => ?_⟩
  · unfold rowL
    rw [hl]
    have a1 := Int.emod_nonneg x (Int.ne_of_gt hw')
    have a2 := Int.emod_lt_of_pos x hw'
    have b1 := Int.emod_nonneg y (Int.ne_of_gt hw')
    have b2 := Int.emod_lt_of_pos y hw'
    have a3 := Int.mul_ediv_add_emod x w
    have b3 := Int.mul_ediv_add_emod y w
    have hxi : (x % (w : Int)).toNat < r.length := by rw [R.len]; omega
    have hyi : (y % (w : Int)).toNat < r.length := by rw [R.len]; omega
    rw [getD_at hxi, getD_at hyi, Int.mul_comm (x / w), Int.mul_comm (y / w)]
    have hq : x / (w : Int) ≤ y / (w : Int) := Int.ediv_le_ediv hw' hxy
    rcases Int.lt_or_eq_of_le hq with c | c
    · have h1 := (h0 _ hxi).2
      have h2 := (h0 _ hyi).1
      have h3 : (w : Int) * (x / w) + w ≤ w * (y / w) := by
        have : (w : Int) * (x / w + 1) ≤ w * (y / w) := Int.mul_le_mul_of_nonneg_left (by omega) (by omega)
        rw [Int.mul_add, Int.mul_one] at this
        exact this
      omega
    · rw [c] at a3 ⊢
      have := hm _ _ hxi hyi (by omega)
      omega
  · unfold rowL
    rw [hl, Int.add_mul_emod_self_right, Int.add_mul_ediv_right _ _ (Int.ne_of_gt hw'), Int.add_mul]
    omega
/-- a hand's table -/
def tabOf (w : Nat) (f : Int → Int) : List Int := (List.range w).map fun (i : Nat) => f (i : Int)
theorem tabOf_at {w : Nat} {f : Int → Int} {i : Nat} (h : i < w) : (tabOf w f).getD i 0 = f i := by
  unfold tabOf
  rw [getD_at (by simpa using h)]
  simp
theorem tabOf_row {w : Nat} (hw : 0 < w) {f : Int → Int} (F : Hand (w : Int) f) : IsRow w (tabOf w f) := by
  refine ⟨by simp [tabOf], ?_, fun z hz => ?_⟩
  · unfold tabOf
    rw [List.pairwise_iff_getElem]
    intro i j hi hj h
    simp only [List.getElem_map, List.getElem_range]
    exact F.mono _ _ (by omega)
  · obtain ⟨i, hi, rfl⟩ := List.mem_map.mp hz
    have hi := List.mem_range.mp hi
    rw [tabOf_at hw]
    have h1 := F.mono (i : Int) ((0 : Nat) + 1 * (w : Int)) (by omega)
    rw [F.turn] at h1
    omega
theorem tabOf_led {w : Nat} (hw : 0 < w) {f : Int → Int} (F : Hand (w : Int) f) (x : Int) : rowL (tabOf w f) x = f x := by
  have hw' : (0 : Int) < (w : Int) := by omega
  unfold rowL
  rw [(tabOf_row hw F).len]
  have a1 := Int.emod_nonneg x (Int.ne_of_gt hw')
  have a2 := Int.emod_lt_of_pos x hw'
  rw [tabOf_at (by omega), ← F.turn]
  congr 1
  have a3 := Int.mul_ediv_add_emod x w
  rw [Int.mul_comm] at a3
  omega
/-! ### all tables that begin within bounds -/
def rng (a b : Int) : List Int := (List.range (b + 1 - a).toNat).map fun (i : Nat) => a + (i : Int)
theorem rng_mem {a b z : Int} : z ∈ rng a b ↔ a ≤ z ∧ z ≤ b := by
  unfold rng
  rw [List.mem_map]
  constructor
  · rintro ⟨i, hi, rfl⟩
    have := List.mem_range.mp hi
    omega
  · rintro ⟨h1, h2⟩
    exact ⟨(z - a).toNat, List.mem_range.mpr (by omega), by omega⟩
def more (w : Int) (r : List Int) : List (List Int) := (rng (r.getLast?.getD 0) (r.getD 0 0 + w)).map fun z => r ++ [z]
def grow (w : Int) (rs : List (List Int)) : List (List Int) := rs.flatMap (more w)
def tabs (w a b : Int) : Nat → List (List Int)
  | 0 => (rng a b).map fun z => [z]
  | n + 1 => grow w (tabs w a b n)
/-- the beginning of a table -/
structure Begun (w a b : Int) (n : Nat) (r : List Int) : Prop where
  len : r.length = n + 1
  up : r.Pairwise (· ≤ ·)
  near : ∀ z ∈ r, z ≤ r.getD 0 0 + w
  lo : a ≤ r.getD 0 0
  hi : r.getD 0 0 ≤ b
theorem getD_snoc {r : List Int} {z : Int} (h : 0 < r.length) : (r ++ [z]).getD 0 0 = r.getD 0 0 := by
  rw [List.getD_eq_getElem?_getD, List.getD_eq_getElem?_getD, List.getElem?_append_left h]
theorem last_mem {r : List Int} (h : 0 < r.length) : ∃ l, r.getLast? = some l ∧ l ∈ r := by
  have hne : r ≠ [] := fun e => by rw [e] at h; simp at h
  exact ⟨r.getLast hne, List.getLast?_eq_getLast hne, List.getLast_mem hne⟩
theorem le_last {r : List Int} (up : r.Pairwise (· ≤ ·)) {l : Int} (hl : r.getLast? = some l) : ∀ z ∈ r, z ≤ l := fun z hz => by
  obtain ⟨s, rfl⟩ := List.getLast?_eq_some_iff.mp hl
  rcases List.mem_append.mp hz with h | h
  · exact (List.pairwise_append.mp up).2.2 z h l (List.mem_singleton.mpr rfl)
  · rw [List.mem_singleton.mp h]; exact Int.le_refl _
theorem tabs_mem {w a b : Int} (hw : 0 ≤ w) : ∀ (n : Nat) (r : List Int), r ∈ tabs w a b n ↔ Begun w a b n r
  | 0, r => by
    unfold tabs
    rw [List.mem_map]
    constructor
    · rintro ⟨z, hz, rfl⟩
      have := rng_mem.mp hz
      exact ⟨rfl, List.pairwise_singleton _ _, fun y hy => by rw [List.mem_singleton.mp hy]; show z ≤ z + w; omega, this.1, this.2⟩
    · rintro ⟨h1, h2, h3, h4, h5⟩
      obtain ⟨z, rfl⟩ := List.length_eq_one_iff.mp h1
      exact ⟨z, rng_mem.mpr ⟨h4, h5⟩, rfl⟩
  | n + 1, r => by
    unfold tabs grow
    rw [List.mem_flatMap]
    constructor
    · rintro ⟨q, hq, hr⟩
      have B := (tabs_mem hw n q).mp hq
      unfold more at hr
      obtain ⟨z, hz, rfl⟩ := List.mem_map.mp hr
      have hz := rng_mem.mp hz
      have hl := B.len
      obtain ⟨l, e, hlm⟩ := last_mem (r := q) (by omega)
      rw [e] at hz
      have e0 := getD_snoc (z := z) (r := q) (by omega)
      refine ⟨by simp [hl], ?_, fun y hy => ?_, by rw [e0]; exact B.lo, by rw [e0]; exact B.hi⟩
      · rw [List.pairwise_append]
        refine ⟨B.up, List.pairwise_singleton _ _, fun y hy c hc => ?_⟩
        rw [List.mem_singleton.mp hc]
        have := le_last B.up e y hy
        have : l ≤ z := hz.1
        omega
      · rw [e0]
        rcases List.mem_append.mp hy with h | h
        · exact B.near y h
        · rw [List.mem_singleton.mp h]; exact hz.2
    · intro B
      have hl := B.len
      obtain ⟨q, z, rfl⟩ := snoc_of (l := r) (fun e => by rw [e] at hl; simp at hl)
      have hql : q.length = n + 1 := by simpa using hl
      have e0 := getD_snoc (z := z) (r := q) (by omega)
      have hup := List.pairwise_append.mp B.up
      obtain ⟨l, e, hlm⟩ := last_mem (r := q) (by omega)
      refine ⟨q, (tabs_mem hw n q).mpr ⟨hql, hup.1, fun y hy => ?_, by rw [← e0]; exact B.lo, by rw [← e0]; exact B.hi⟩, ?_⟩
      · have := B.near y (List.mem_append_left _ hy)
        rwa [e0] at this
      · unfold more
        refine List.mem_map.mpr ⟨z, rng_mem.mpr ⟨?_, ?_⟩, rfl⟩
        · rw [e]; exact hup.2.2 l hlm z (List.mem_singleton.mpr rfl)
        · have := B.near z (List.mem_append_right _ (List.mem_singleton.mpr rfl))
          rwa [e0] at this
theorem more_len {w a b : Int} (hw : 0 ≤ w) {n : Nat} {r : List Int} (B : Begun w a b n r) : (more w r).length ≤ w.toNat + 1 := by
  have hl := B.len
  obtain ⟨l, e, hlm⟩ := last_mem (r := r) (by omega)
  have h0 : r.getD 0 0 ≤ l := le_last B.up e _ (by rw [getD_at (by omega)]; exact List.getElem_mem _)
  unfold more rng
  rw [e, List.length_map, List.length_map, List.length_range]
  show (r.getD 0 0 + w + 1 - l).toNat ≤ _
  omega
theorem flat_len {α β : Type} {f : α → List β} {c : Nat} : ∀ (l : List α), (∀ x ∈ l, (f x).length ≤ c) → (l.flatMap f).length ≤ l.length * c
  | [], _ => by simp
  | x :: l, h => by
    rw [List.flatMap_cons, List.length_append, List.length_cons, Nat.add_mul, Nat.one_mul]
    have := flat_len l fun y hy => h y (List.mem_cons_of_mem _ hy)
    have := h x List.mem_cons_self
    omega
theorem tabs_len {w a b : Int} (hw : 0 ≤ w) : ∀ n, (tabs w a b n).length ≤ (b + 1 - a).toNat * (w.toNat + 1) ^ n
  | 0 => by simp [tabs, rng]
  | n + 1 => by
    unfold tabs grow
    have h1 := flat_len (tabs w a b n) fun r hr => more_len hw ((tabs_mem hw n r).mp hr)
    refine Nat.le_trans h1 ?_
    rw [Nat.pow_succ, ← Nat.mul_assoc]
    exact Nat.mul_le_mul_right _ (tabs_len hw n)
theorem grow_snoc {w : Int} {rs : List (List Int)} {r : List Int} : grow w (rs ++ [r]) = grow w rs ++ more w r := by unfold grow; rw [List.flatMap_append]; simp
/-! ### tables and looks -/
/-- a table is as a look says -/
noncomputable def isSo (r : List Int) (l : Lk) : Bool := if l.1 = "from" then decide (l.2.2 ≤ rowL r l.2.1) else if l.1 = "upto" then decide (rowL r l.2.1 ≤ l.2.2) else decide (rowL r l.2.1 = l.2.2)
theorem isSo_fits {r : List Int} {l : Lk} (h : WordOk l.1) : isSo r l = true ↔ Fits (rowL r) l := by
  obtain ⟨u, x, y⟩ := l
  unfold isSo Fits
  rcases h with e | e | e <;> (have e' : u = _ := e) <;> subst e'
  · rw [if_neg w_af, if_neg w_au, decide_eq_true_iff]
    exact ⟨fun h => ⟨fun _ => Int.le_of_eq h.symm, fun _ => Int.le_of_eq h⟩, fun h => Int.le_antisymm (h.2 (show onSide "fast" "at" = true by decide +kernel)) (h.1 (show onSide "slow" "at" = true by decide +kernel))⟩
  · rw [if_pos rfl, decide_eq_true_iff]
    exact ⟨fun h => ⟨fun _ => h, fun c => absurd (show onSide "fast" "from" = true from c) (by decide +kernel)⟩, fun h => h.1 (show onSide "slow" "from" = true by decide +kernel)⟩
  · rw [if_neg w_uf, if_pos rfl, decide_eq_true_iff]
    exact ⟨fun h => ⟨fun c => absurd (show onSide "slow" "upto" = true from c) (by decide +kernel), fun _ => h⟩, fun h => h.2 (show onSide "fast" "upto" = true by decide +kernel)⟩
/-! ### the hands that fit all looks -/
def Close (L : Int) (l : Lk) : Prop := -(2 * L) ≤ l.2.2 - l.2.1 ∧ l.2.2 - l.2.1 ≤ 2 * L
theorem div_near {L : Int} (hL : 0 < L) (a : Int) : a - L < a / L * L ∧ a / L * L ≤ a := by
  have h1 := Int.mul_ediv_add_emod a L
  have h2 := Int.emod_nonneg a (show L ≠ 0 by omega)
  have h3 := Int.emod_lt_of_pos a hL
  rw [Int.mul_comm] at h1
  omega
theorem low_near {L : Int} (hL : 0 < L) (l : Lk) (x : Int) : l.2.2 - l.2.1 - L < plc "slow" l x L - x ∧ plc "slow" l x L - x ≤ l.2.2 - l.2.1 := by
  have := div_near hL (x - l.2.1)
  rw [plc_slow]; omega
theorem high_near {L : Int} (hL : 0 < L) (l : Lk) (x : Int) : l.2.2 - l.2.1 ≤ plc "fast" l x L - x ∧ plc "fast" l x L - x < l.2.2 - l.2.1 + L := by
  have := div_near hL (l.2.1 - x)
  rw [plc_fast]; omega
theorem on_at : onSide "slow" "at" = true ∧ onSide "fast" "at" = true := by decide +kernel
theorem hand_fits {L : Int} (hL : 0 < L) {ks : List Lk} (nc : ∀ a ∈ ks, ∀ b ∈ ks, clashB a b L = false) (hne : sideOf "slow" ks ≠ []) : Hand L (fun x => bst "slow" (sideOf "slow" ks) x L) ∧ ∀ l ∈ ks, Fits (fun x => bst "slow" (sideOf "slow" ks) x L) l := by
  refine ⟨⟨fun x y h => best_mono hL (bst_slow hne x L) (bst_slow hne y L) h, fun x k => bst_of (best_shift hL k (bst_slow hne x L))⟩, fun l hl => ⟨fun s => ?_, fun s => ?_⟩⟩
  · have h1 := (bst_slow hne l.2.1 L).2 l (mem_side.mpr ⟨hl, s⟩)
    rw [if_pos rfl, plc_slow, Int.sub_self, Int.zero_ediv, Int.zero_mul] at h1
    show l.2.2 ≤ bst "slow" (sideOf "slow" ks) l.2.1 L
    omega
  · obtain ⟨⟨a, ha, e⟩, _⟩ := bst_slow hne l.2.1 L
    have h1 := far_le (no_far_of (nc a (mem_side.mp ha).1 l hl)).1 (mem_side.mp ha).2 s
    show bst "slow" (sideOf "slow" ks) l.2.1 L ≤ l.2.2
    omega
noncomputable def fitsOf (L : Int) (w : Nat) (ls : List Lk) : List (List Int) := (tabs L (-(4 * L)) (4 * L) (w - 1)).filter fun r => ls.all fun l => isSo r l
theorem fitsOf_mem {L : Int} {w : Nat} {ls : List Lk} {r : List Int} : r ∈ fitsOf L w ls ↔ r ∈ tabs L (-(4 * L)) (4 * L) (w - 1) ∧ ∀ l ∈ ls, isSo r l = true := by
  unfold fitsOf
  rw [List.mem_filter, List.all_eq_true]
theorem tab_row {L : Int} {w : Nat} (hw : 0 < w) (ew : L = (w : Int)) {r : List Int} (h : r ∈ tabs L (-(4 * L)) (4 * L) (w - 1)) : IsRow w r := by
  have B := (tabs_mem (by omega) (w - 1) r).mp h
  exact ⟨by rw [B.len]; omega, B.up, fun z hz => by have := B.near z hz; rw [ew] at this; exact this⟩
theorem fits_fit {L : Int} {w : Nat} (hw : 0 < w) (ew : L = (w : Int)) {ls : List Lk} (wk : ∀ l ∈ ls, WordOk l.1) {r : List Int} (h : r ∈ fitsOf L w ls) : Hand L (rowL r) ∧ ∀ l ∈ ls, Fits (rowL r) l := by
  obtain ⟨h1, h2⟩ := fitsOf_mem.mp h
  refine ⟨?_, fun l hl => (isSo_fits (wk l hl)).mp (h2 l hl)⟩
  rw [ew]; exact (tab_row hw ew h1).hand hw
/-- where looks let it, some hand leads a place so -/
theorem at_hand {L : Int} (hL : 0 < L) {w : Nat} (ew : L = (w : Int)) {ls : List Lk} (wk : ∀ l ∈ ls, WordOk l.1) (nc : ∀ a ∈ ls, ∀ b ∈ ls, clashB a b L = false) (cl : ∀ l ∈ ls, Close L l) {x y : Int} (h1 : ∀ o ∈ ls, onSide "slow" o.1 = true → plc "slow" o x L ≤ y) (h2 : ∀ o ∈ ls, onSide "fast" o.1 = true → y ≤ plc "fast" o x L) (b1 : -(3 * L) ≤ y - x) (b2 : y - x ≤ 3 * L) : ∃ r ∈ fitsOf L w ls, rowL r x = y := by
  obtain ⟨ks, ek⟩ : ∃ ks, ks = ls ++ [(("at", x, y) : Lk)] := ⟨_, rfl⟩
  have hmem : ∀ a ∈ ks, a ∈ ls ∨ a = (("at", x, y) : Lk) := fun a ha => by
    rw [ek] at ha
    rcases List.mem_append.mp ha with h | h
    · exact .inl h
    · exact .inr (List.mem_singleton.mp h)
  have hat : (("at", x, y) : Lk) ∈ ks := by rw [ek]; simp
  have f1 : ∀ o ∈ ls, tooFar o ("at", x, y) L = false := fun o ho => far_no fun s _ => h1 o ho s
  have f2 : ∀ o ∈ ls, tooFar ("at", x, y) o L = false := fun o ho => far_no fun _ s => by
    have := h2 o ho s
    rw [plc_fast] at this
    rw [plc_slow]
    show y + (o.2.1 - x) / L * L ≤ o.2.2
    omega
  have f3 : tooFar ("at", x, y) ("at", x, y) L = false := far_no fun _ _ => by
    rw [plc_slow]
    show y + (x - x) / L * L ≤ y
    rw [Int.sub_self, Int.zero_ediv, Int.zero_mul]; omega
  have nc' : ∀ a ∈ ks, ∀ b ∈ ks, clashB a b L = false := fun a ha b hb => by
    rcases hmem a ha with h | h <;> rcases hmem b hb with h' | h'
    · exact nc a h b h'
    · subst h'; unfold clashB; rw [f1 a h, f2 a h]; rfl
    · subst h; unfold clashB; rw [f2 b h', f1 b h']; rfl
    · subst h h'; unfold clashB; rw [f3]; rfl
  have hne : sideOf "slow" ks ≠ [] := fun z => by
    have : (("at", x, y) : Lk) ∈ sideOf "slow" ks := mem_side.mpr ⟨hat, on_at.1⟩
    rw [z] at this; cases this
  obtain ⟨F, ff⟩ := hand_fits hL nc' hne
  obtain ⟨f, ef⟩ : ∃ f, f = fun x => bst "slow" (sideOf "slow" ks) x L := ⟨_, rfl⟩
  have b0 := bst_slow hne 0 L
  rw [← ef] at F ff
  have hw : 0 < w := by omega
  have Fw : Hand (w : Int) f := by rw [← ew]; exact F
  have e0 : f 0 = bst "slow" (sideOf "slow" ks) 0 L := by rw [ef]
  have n0 : -(4 * L) ≤ f 0 ∧ f 0 ≤ 4 * L := by
    obtain ⟨⟨a, ha, e⟩, _⟩ := b0
    rw [e0, ← e]
    have h3 := low_near hL a 0
    rcases hmem a (mem_side.mp ha).1 with h | h
    · have := cl a h
      unfold Close at this
      omega
    · subst h
      have h3' : y - x - L < plc "slow" ("at", x, y) 0 L - 0 ∧ plc "slow" ("at", x, y) 0 L - 0 ≤ y - x := h3
      omega
  have R := tabOf_row hw Fw
  have el : rowL (tabOf w f) = f := funext fun z => tabOf_led hw Fw z
  refine ⟨tabOf w f, fitsOf_mem.mpr ⟨(tabs_mem (by omega) (w - 1) _).mpr ⟨by rw [R.len]; omega, R.up, fun z hz => by have := R.near z hz; rw [ew]; exact this, ?_, ?_⟩, fun l hl => ?_⟩, ?_⟩
  · rw [tabOf_at hw]; exact n0.1
  · rw [tabOf_at hw]; exact n0.2
  · rw [isSo_fits (wk l hl), el]
    exact ff l (by rw [ek]; exact List.mem_append_left _ hl)
  · rw [el]
    have := ff _ hat
    exact Int.le_antisymm (this.2 on_at.2) (this.1 on_at.1)
theorem low_of {L : Int} {ls : List Lk} {x m : Int} (b : IsBest "slow" (sideOf "slow" ls) x L m) : ∀ o ∈ ls, onSide "slow" o.1 = true → plc "slow" o x L ≤ m := fun o ho s => by
  have := b.2 o (mem_side.mpr ⟨ho, s⟩)
  rwa [if_pos rfl] at this
theorem high_of {L : Int} {ls : List Lk} {x m : Int} (b : IsBest "fast" (sideOf "fast" ls) x L m) : ∀ o ∈ ls, onSide "fast" o.1 = true → m ≤ plc "fast" o x L := fun o ho s => by
  have := b.2 o (mem_side.mpr ⟨ho, s⟩)
  rwa [if_neg slow_ne] at this
theorem none_side {sd : Str} {ls : List Lk} (h : sideOf sd ls = []) : ∀ o ∈ ls, ¬ onSide sd o.1 = true := fun o ho s => by
  have : o ∈ sideOf sd ls := mem_side.mpr ⟨ho, s⟩
  rw [h] at this; cases this
theorem near_low {L : Int} (hL : 0 < L) {ls : List Lk} (cl : ∀ l ∈ ls, Close L l) {x m : Int} (b : IsBest "slow" (sideOf "slow" ls) x L m) : -(3 * L) ≤ m - x ∧ m - x ≤ 3 * L := by
  obtain ⟨⟨a, ha, e⟩, _⟩ := b
  have h3 := low_near hL a x
  have := cl a (mem_side.mp ha).1
  unfold Close at this
  omega
theorem near_high {L : Int} (hL : 0 < L) {ls : List Lk} (cl : ∀ l ∈ ls, Close L l) {x m : Int} (b : IsBest "fast" (sideOf "fast" ls) x L m) : -(3 * L) ≤ m - x ∧ m - x ≤ 3 * L := by
  obtain ⟨⟨a, ha, e⟩, _⟩ := b
  have h3 := high_near hL a x
  have := cl a (mem_side.mp ha).1
  unfold Close at this
  omega
theorem low_under {L : Int} (hL : 0 < L) {ls : List Lk} (nc : ∀ a ∈ ls, ∀ b ∈ ls, clashB a b L = false) {x m : Int} (b : IsBest "slow" (sideOf "slow" ls) x L m) : ∀ o ∈ ls, onSide "fast" o.1 = true → m ≤ plc "fast" o x L := fun o ho s => by
  obtain ⟨⟨a, ha, e⟩, _⟩ := b
  have := cross hL (far_le (no_far_of (nc a (mem_side.mp ha).1 o ho)).1 (mem_side.mp ha).2 s) x
  omega
theorem high_over {L : Int} (hL : 0 < L) {ls : List Lk} (nc : ∀ a ∈ ls, ∀ b ∈ ls, clashB a b L = false) {x m : Int} (b : IsBest "fast" (sideOf "fast" ls) x L m) : ∀ o ∈ ls, onSide "slow" o.1 = true → plc "slow" o x L ≤ m := fun o ho s => by
  obtain ⟨⟨a, ha, e⟩, _⟩ := b
  have := cross hL (far_le (no_far_of (nc o ho a (mem_side.mp ha).1)).1 s (mem_side.mp ha).2) x
  omega
section
variable {L : Int} {w : Nat} {ls : List Lk}
structure Known (L : Int) (w : Nat) (ls : List Lk) : Prop where
  pos : 0 < L
  ew : L = (w : Int)
  wk : ∀ l ∈ ls, WordOk l.1
  nc : ∀ a ∈ ls, ∀ b ∈ ls, clashB a b L = false
  cl : ∀ l ∈ ls, Close L l
theorem Known.hand (N : Known L w ls) {x y : Int} (h1 : ∀ o ∈ ls, onSide "slow" o.1 = true → plc "slow" o x L ≤ y) (h2 : ∀ o ∈ ls, onSide "fast" o.1 = true → y ≤ plc "fast" o x L) (b1 : -(3 * L) ≤ y - x) (b2 : y - x ≤ 3 * L) : ∃ r ∈ fitsOf L w ls, rowL r x = y :=
  at_hand N.pos N.ew N.wk N.nc N.cl h1 h2 b1 b2
theorem Known.some (N : Known L w ls) : ∃ r, r ∈ fitsOf L w ls := by
  by_cases c : sideOf "slow" ls = []
  · by_cases d : sideOf "fast" ls = []
    · obtain ⟨r, h, _⟩ := N.hand (x := 0) (y := 0) (fun o ho s => absurd s (none_side c o ho)) (fun o ho s => absurd s (none_side d o ho)) (by have := N.pos; omega) (by have := N.pos; omega)
      exact ⟨r, h⟩
    · have b := bst_fast d 0 L
      have n := near_high N.pos N.cl b
      obtain ⟨r, h, _⟩ := N.hand (high_over N.pos N.nc b) (high_of b) n.1 n.2
      exact ⟨r, h⟩
  · have b := bst_slow c 0 L
    have n := near_low N.pos N.cl b
    obtain ⟨r, h, _⟩ := N.hand (low_of b) (low_under N.pos N.nc b) n.1 n.2
    exact ⟨r, h⟩
theorem Known.fit (N : Known L w ls) {r : List Int} (h : r ∈ fitsOf L w ls) : Hand L (rowL r) ∧ ∀ l ∈ ls, Fits (rowL r) l := fits_fit (by have := N.pos; have := N.ew; omega) N.ew N.wk h
theorem Known.least (N : Known L w ls) {x m : Int} (b : IsBest "slow" (sideOf "slow" ls) x L m) : (∃ r ∈ fitsOf L w ls, rowL r x = m) ∧ ∀ r ∈ fitsOf L w ls, m ≤ rowL r x := by
  have n := near_low N.pos N.cl b
  refine ⟨N.hand (low_of b) (low_under N.pos N.nc b) n.1 n.2, fun r hr => ?_⟩
  obtain ⟨⟨a, ha, e⟩, _⟩ := b
  obtain ⟨F, ff⟩ := N.fit hr
  rw [← e]
  exact fit_low N.pos F (ff a (mem_side.mp ha).1) (mem_side.mp ha).2 x
theorem Known.greatest (N : Known L w ls) {x m : Int} (b : IsBest "fast" (sideOf "fast" ls) x L m) : (∃ r ∈ fitsOf L w ls, rowL r x = m) ∧ ∀ r ∈ fitsOf L w ls, rowL r x ≤ m := by
  have n := near_high N.pos N.cl b
  refine ⟨N.hand (high_over N.pos N.nc b) (high_of b) n.1 n.2, fun r hr => ?_⟩
  obtain ⟨⟨a, ha, e⟩, _⟩ := b
  obtain ⟨F, ff⟩ := N.fit hr
  rw [← e]
  exact fit_high N.pos F (ff a (mem_side.mp ha).1) (mem_side.mp ha).2 x
/-- may: some such hand is as it -/
theorem Known.may (N : Known L w ls) {l : Lk} (hl : WordOk l.1) (hc : Close L l) : ((fitsOf L w ls).any fun r => isSo r l) = !ls.any fun q => clashB l q L := by
  rw [Bool.eq_iff_iff, List.any_eq_true, Bool.not_eq_true', List.any_eq_false]
  constructor
  · rintro ⟨r, hr, hs⟩ q hq
    obtain ⟨F, ff⟩ := N.fit hr
    rw [fit_clash N.pos F ((isSo_fits hl).mp hs) (ff q hq)]
    exact Bool.false_ne_true
  · intro h
    have hself : clashB l l L = false := by
      have f : tooFar l l L = false := far_no fun _ _ => by rw [plc_slow, Int.sub_self, Int.zero_ediv, Int.zero_mul]; omega
      unfold clashB; rw [f]; rfl
    have comm : ∀ a b : Lk, clashB a b L = clashB b a L := fun a b => by unfold clashB; rw [Bool.or_comm]
    have N' : Known L w (ls ++ [l]) := ⟨N.pos, N.ew, fun a ha => by
      rcases List.mem_append.mp ha with h | h
      · exact N.wk a h
      · rw [List.mem_singleton.mp h]; exact hl, fun a ha b hb => by
      rcases List.mem_append.mp ha with h1 | h1 <;> rcases List.mem_append.mp hb with h2 | h2
      · exact N.nc a h1 b h2
      · rw [List.mem_singleton.mp h2, comm]; simpa using h a h1
      · rw [List.mem_singleton.mp h1]; simpa using h b h2
      · rw [List.mem_singleton.mp h1, List.mem_singleton.mp h2]; exact hself, fun a ha => by
      rcases List.mem_append.mp ha with h | h
      · exact N.cl a h
      · rw [List.mem_singleton.mp h]; exact hc⟩
    obtain ⟨r, hr⟩ := N'.some
    obtain ⟨h1, h2⟩ := fitsOf_mem.mp hr
    exact ⟨r, fitsOf_mem.mpr ⟨h1, fun l hl => h2 l (List.mem_append_left _ hl)⟩, h2 l (by simp)⟩
/-- where nothing tells that it is not short of y, some hand is short of it -/
theorem Known.short (N : Known L w ls) {x y : Int} (hc : -(2 * L) ≤ y - x) (hc2 : y - x ≤ 2 * L) (h : ∀ m, IsBest "slow" (sideOf "slow" ls) x L m → m < y) : ∃ r ∈ fitsOf L w ls, rowL r x < y := by
  have hp := N.pos
  by_cases c : sideOf "slow" ls = []
  · by_cases d : sideOf "fast" ls = []
    · obtain ⟨r, hr, e⟩ := N.hand (x := x) (y := y - 1) (fun o ho s => absurd s (none_side c o ho)) (fun o ho s => absurd s (none_side d o ho)) (by omega) (by omega)
      exact ⟨r, hr, by omega⟩
    · have b := bst_fast d x L
      have n := near_high N.pos N.cl b
      obtain ⟨M, eM⟩ : ∃ M, M = bst "fast" (sideOf "fast" ls) x L := ⟨_, rfl⟩
      rw [← eM] at b n
      by_cases q : M ≤ y - 1
      · obtain ⟨r, hr, e⟩ := N.hand (x := x) (y := M) (fun o ho s => absurd s (none_side c o ho)) (high_of b) n.1 n.2
        exact ⟨r, hr, by omega⟩
      · obtain ⟨r, hr, e⟩ := N.hand (x := x) (y := y - 1) (fun o ho s => absurd s (none_side c o ho)) (fun o ho s => by have := high_of b o ho s; omega) (by omega) (by omega)
        exact ⟨r, hr, by omega⟩
  · have b := bst_slow c x L
    obtain ⟨⟨r, hr, e⟩, _⟩ := N.least b
    exact ⟨r, hr, by rw [e]; exact h _ b⟩
theorem Known.beyond (N : Known L w ls) {x y : Int} (hc : -(2 * L) ≤ y - x) (hc2 : y - x ≤ 2 * L) (h : ∀ m, IsBest "fast" (sideOf "fast" ls) x L m → y < m) : ∃ r ∈ fitsOf L w ls, y < rowL r x := by
  have hp := N.pos
  by_cases c : sideOf "fast" ls = []
  · by_cases d : sideOf "slow" ls = []
    · obtain ⟨r, hr, e⟩ := N.hand (x := x) (y := y + 1) (fun o ho s => absurd s (none_side d o ho)) (fun o ho s => absurd s (none_side c o ho)) (by omega) (by omega)
      exact ⟨r, hr, by omega⟩
    · have b := bst_slow d x L
      have n := near_low N.pos N.cl b
      obtain ⟨M, eM⟩ : ∃ M, M = bst "slow" (sideOf "slow" ls) x L := ⟨_, rfl⟩
      rw [← eM] at b n
      by_cases q : y + 1 ≤ M
      · obtain ⟨r, hr, e⟩ := N.hand (x := x) (y := M) (low_of b) (fun o ho s => absurd s (none_side c o ho)) n.1 n.2
        exact ⟨r, hr, by omega⟩
      · obtain ⟨r, hr, e⟩ := N.hand (x := x) (y := y + 1) (fun o ho s => by have := low_of b o ho s; omega) (fun o ho s => absurd s (none_side c o ho)) (by omega) (by omega)
        exact ⟨r, hr, by omega⟩
  · have b := bst_fast c x L
    obtain ⟨⟨r, hr, e⟩, _⟩ := N.greatest b
    exact ⟨r, hr, by rw [e]; exact h _ b⟩
end
end KA
namespace KA
open PySem PySem.Spec PyProof.Rows L2 DP
/-! ### looks led back -/
def upL (l : Lk) : Lk := ("upto", l.2.2, l.2.1)
def frL (l : Lk) : Lk := ("from", l.2.2 + 1, l.2.1 + 1)
def bkA (l : Lk) : List Lk := if l.1 = "upto" then [] else [upL l]
def bkB (l : Lk) : List Lk := if l.1 = "from" then [] else [frL l]
def bk1 (l : Lk) : List Lk := bkA l ++ bkB l
def bk (ls : List Lk) : List Lk := ls.flatMap bk1
theorem mem_bk {ls : List Lk} {q : Lk} : q ∈ bk ls ↔ ∃ l ∈ ls, (l.1 ≠ "upto" ∧ q = upL l) ∨ (l.1 ≠ "from" ∧ q = frL l) := by
  unfold bk
  rw [List.mem_flatMap]
  refine exists_congr fun l => and_congr_right fun _ => ?_
  unfold bk1 bkA bkB
  rw [List.mem_append]
  by_cases c1 : l.1 = "upto" <;> by_cases c2 : l.1 = "from" <;> simp [c1, c2]
theorem bk_word {ls : List Lk} {q : Lk} (h : q ∈ bk ls) : WordOk q.1 := by
  obtain ⟨l, _, ⟨_, rfl⟩ | ⟨_, rfl⟩⟩ := mem_bk.mp h
  · exact .inr (.inr rfl)
  · exact .inr (.inl rfl)
theorem bk_sized {ls : List Lk} {q : Lk} {n : Nat} (h : q ∈ bk ls) (hs : ∀ l ∈ ls, Sized n l) : Sized (n + 1) q := by
  obtain ⟨l, hl, ⟨_, rfl⟩ | ⟨_, rfl⟩⟩ := mem_bk.mp h
  · exact ⟨lt_up (hs l hl).2 (Nat.le_succ n), lt_up (hs l hl).1 (Nat.le_succ n)⟩
  · have one : ∀ a : Int, a.natAbs < 2 ^ n → (a + 1).natAbs < 2 ^ (n + 1) := fun a ha => by
      have h1 : 1 ≤ 2 ^ n := Nat.one_le_two_pow
      rw [Nat.pow_succ]; omega
    exact ⟨one _ (hs l hl).2, one _ (hs l hl).1⟩
theorem not_upto {x : Str} (h : WordOk x) (n : x ≠ "upto") : onSide "slow" x = true := by
  rcases h with rfl | rfl | rfl
  · decide +kernel
  · decide +kernel
  · exact absurd rfl n
theorem not_from {x : Str} (h : WordOk x) (n : x ≠ "from") : onSide "fast" x = true := by
  rcases h with rfl | rfl | rfl
  · decide +kernel
  · exact absurd rfl n
  · decide +kernel
theorem slow_from {x : Str} (h : onSide "slow" x = true) : x ≠ "upto" := by
  rintro rfl
  exact absurd h (by decide +kernel)
theorem fast_upto {x : Str} (h : onSide "fast" x = true) : x ≠ "from" := by
  rintro rfl
  exact absurd h (by decide +kernel)
theorem bk_slow {ls : List Lk} {q : Lk} (h : q ∈ bk ls) (s : onSide "slow" q.1 = true) : ∃ l ∈ ls, l.1 ≠ "from" ∧ q = frL l := by
  obtain ⟨l, hl, ⟨_, rfl⟩ | ⟨n, rfl⟩⟩ := mem_bk.mp h
  · exact absurd rfl (slow_from s)
  · exact ⟨l, hl, n, rfl⟩
theorem bk_fast {ls : List Lk} {q : Lk} (h : q ∈ bk ls) (s : onSide "fast" q.1 = true) : ∃ l ∈ ls, l.1 ≠ "upto" ∧ q = upL l := by
  obtain ⟨l, hl, ⟨n, rfl⟩ | ⟨_, rfl⟩⟩ := mem_bk.mp h
  · exact ⟨l, hl, n, rfl⟩
  · exact absurd rfl (fast_upto s)
theorem div_le {a L : Int} (hL : 0 < L) : a / L * L ≤ a := by
  have h1 := Int.mul_ediv_add_emod a L
  have h2 := Int.emod_nonneg a (show L ≠ 0 by omega)
  rw [Int.mul_comm] at h1
  omega
theorem le_div {a k L : Int} (hL : 0 < L) (h : k * L ≤ a) : k * L ≤ a / L * L := Int.mul_le_mul_of_nonneg_right ((Int.le_ediv_iff_mul_le hL).mpr h) (Int.le_of_lt hL)
theorem bk_far {L : Int} (hL : 0 < L) {ls : List Lk} (hw : ∀ l ∈ ls, WordOk l.1) (nc : ∀ a ∈ ls, ∀ b ∈ ls, clashB a b L = false) {p q : Lk} (hp : p ∈ bk ls) (hq : q ∈ bk ls) : tooFar p q L = false := by
  cases c : tooFar p q L with
  | false => rfl
  | true =>
    exfalso
    unfold tooFar at c
    rw [Bool.and_eq_true, Bool.and_eq_true, decide_eq_true_eq] at c
    obtain ⟨⟨c1, c2⟩, c3⟩ := c
    obtain ⟨b, hb, nb, rfl⟩ := bk_slow hp c1
    obtain ⟨a, ha, na, rfl⟩ := bk_fast hq c2
    rw [plc_slow] at c3
    have c3' : a.2.1 < b.2.1 + 1 + (a.2.2 - (b.2.2 + 1)) / L * L := c3
    have h1 := div_le (a := a.2.2 - (b.2.2 + 1)) hL
    generalize (a.2.2 - (b.2.2 + 1)) / L = k at c3' h1
    have h2 : (-k) * L ≤ b.2.1 - a.2.1 := by rw [Int.neg_mul]; omega
    have h3 := le_div hL h2
    rw [Int.neg_mul] at h3
    have h4 := nc a ha b hb
    unfold clashB tooFar at h4
    rw [not_upto (hw a ha) na, not_from (hw b hb) nb, Bool.true_and, Bool.true_and, plc_slow, Bool.or_eq_false_iff, decide_eq_false_iff_not] at h4
    exact h4.1 (by omega)
theorem bk_nc {L : Int} (hL : 0 < L) {ls : List Lk} (hw : ∀ l ∈ ls, WordOk l.1) (nc : ∀ a ∈ ls, ∀ b ∈ ls, clashB a b L = false) : ∀ p ∈ bk ls, ∀ q ∈ bk ls, clashB p q L = false := fun p hp q hq => by
  unfold clashB
  rw [bk_far hL hw nc hp hq, bk_far hL hw nc hq hp]; rfl
/-- where the least lands, the greatest of the hand led back comes from -/
theorem bk_in_fast {ls : List Lk} {x L m : Int} (h : IsBest "slow" (sideOf "slow" ls) x L m) : ∃ l ∈ ls, plc "slow" l x L = m ∧ upL l ∈ sideOf "fast" (bk ls) := by
  obtain ⟨⟨l, hl, em⟩, hb⟩ := h
  obtain ⟨hl1, hl2⟩ := mem_side.mp hl
  exact ⟨l, hl1, em, mem_side.mpr ⟨mem_bk.mpr ⟨l, hl1, .inl ⟨slow_from hl2, rfl⟩⟩, show onSide "fast" "upto" = true by decide +kernel⟩⟩
theorem bk_in_slow {ls : List Lk} {x L m : Int} (h : IsBest "fast" (sideOf "fast" ls) x L m) : ∃ l ∈ ls, plc "fast" l x L = m ∧ frL l ∈ sideOf "slow" (bk ls) := by
  obtain ⟨⟨l, hl, em⟩, hb⟩ := h
  obtain ⟨hl1, hl2⟩ := mem_side.mp hl
  exact ⟨l, hl1, em, mem_side.mpr ⟨mem_bk.mpr ⟨l, hl1, .inr ⟨fast_upto hl2, rfl⟩⟩, show onSide "slow" "from" = true by decide +kernel⟩⟩
theorem back_least1 {L : Int} (hL : 0 < L) {ls : List Lk} {x m : Int} (h : IsBest "slow" (sideOf "slow" ls) x L m) {u : V} (tu : Tells "fast" (bk ls) m L u) : ∃ a, u = .int a ∧ a ≤ x := by
  obtain ⟨l, _, em, hin⟩ := bk_in_fast h
  rcases tu with ⟨e, _⟩ | ⟨a, rfl, ba⟩
  · rw [e] at hin; cases hin
  refine ⟨a, rfl, ?_⟩
  have h1 := ba.2 _ hin
  rw [if_neg slow_ne, plc_fast] at h1
  have h1' : a ≤ l.2.1 - (l.2.2 - m) / L * L := h1
  rw [plc_slow] at em
  have e2 : l.2.2 - m = (-((x - l.2.1) / L)) * L := by rw [Int.neg_mul]; omega
  rw [e2, Int.mul_ediv_cancel _ (by omega : L ≠ 0), Int.neg_mul] at h1'
  have := div_le (a := x - l.2.1) hL
  omega
theorem back_least2 {L : Int} (hL : 0 < L) {ls : List Lk} (hw : ∀ l ∈ ls, WordOk l.1) {x m : Int} (h : IsBest "slow" (sideOf "slow" ls) x L m) {v : V} (tv : Tells "fast" (bk ls) (m + 1) L v) : ∃ b, v = .int b ∧ x < b := by
  obtain ⟨l, _, em, hin⟩ := bk_in_fast h
  rcases tv with ⟨e, _⟩ | ⟨b, rfl, bb⟩
  · rw [e] at hin; cases hin
  refine ⟨b, rfl, ?_⟩
  obtain ⟨⟨q, hq, eq⟩, _⟩ := bb
  obtain ⟨hq1, hq2⟩ := mem_side.mp hq
  obtain ⟨l', hl', n', rfl⟩ := bk_fast hq1 hq2
  rw [plc_fast] at eq
  have eq' : l'.2.1 - (l'.2.2 - (m + 1)) / L * L = b := eq
  have h1 := div_le (a := l'.2.2 - (m + 1)) hL
  generalize (l'.2.2 - (m + 1)) / L = k at eq' h1
  rcases Int.lt_or_le x b with z | z
  · exact z
  · exfalso
    have h2 := h.2 l' (mem_side.mpr ⟨hl', not_upto (hw l' hl') n'⟩)
    rw [if_pos rfl, plc_slow] at h2
    have h3 : (-k) * L ≤ x - l'.2.1 := by rw [Int.neg_mul]; omega
    have h4 := le_div hL h3
    rw [Int.neg_mul] at h4
    omega
theorem back_greatest1 {L : Int} (hL : 0 < L) {ls : List Lk} (hw : ∀ l ∈ ls, WordOk l.1) {x m : Int} (h : IsBest "fast" (sideOf "fast" ls) x L m) {u : V} (tu : Tells "slow" (bk ls) m L u) : ∃ a, u = .int a ∧ a ≤ x := by
  obtain ⟨l, _, em, hin⟩ := bk_in_slow h
  rcases tu with ⟨e, _⟩ | ⟨a, rfl, ba⟩
  · rw [e] at hin; cases hin
  refine ⟨a, rfl, ?_⟩
  obtain ⟨⟨q, hq, eq⟩, _⟩ := ba
  obtain ⟨hq1, hq2⟩ := mem_side.mp hq
  obtain ⟨l', hl', n', rfl⟩ := bk_slow hq1 hq2
  rw [plc_slow] at eq
  have eq' : l'.2.1 + 1 + (m - (l'.2.2 + 1)) / L * L = a := eq
  have h1 := div_le (a := m - (l'.2.2 + 1)) hL
  generalize (m - (l'.2.2 + 1)) / L = k at eq' h1
  rcases Int.lt_or_le x a with z | z
  · exfalso
    have h2 := h.2 l' (mem_side.mpr ⟨hl', not_from (hw l' hl') n'⟩)
    rw [if_neg slow_ne, plc_fast] at h2
    have h3 : (-k) * L ≤ l'.2.1 - x := by rw [Int.neg_mul]; omega
    have h4 := le_div hL h3
    rw [Int.neg_mul] at h4
    omega
  · exact z
theorem back_greatest2 {L : Int} (hL : 0 < L) {ls : List Lk} {x m : Int} (h : IsBest "fast" (sideOf "fast" ls) x L m) {v : V} (tv : Tells "slow" (bk ls) (m + 1) L v) : ∃ b, v = .int b ∧ x < b := by
  obtain ⟨l, _, em, hin⟩ := bk_in_slow h
  rcases tv with ⟨e, _⟩ | ⟨b, rfl, bb⟩
  · rw [e] at hin; cases hin
  refine ⟨b, rfl, ?_⟩
  have h1 := bb.2 _ hin
  rw [if_pos rfl, plc_slow] at h1
  have h1' : l.2.1 + 1 + (m + 1 - (l.2.2 + 1)) / L * L ≤ b := h1
  rw [plc_fast] at em
  have e2 : m + 1 - (l.2.2 + 1) = (-((l.2.1 - x) / L)) * L := by rw [Int.neg_mul]; omega
  rw [e2, Int.mul_ediv_cancel _ (by omega : L ≠ 0), Int.neg_mul] at h1'
  have := div_le (a := l.2.1 - x) hL
  omega
def spBack (Z : Ad) (K : PySem.W.Frag) : Sp := fun vs H Q _ => ∃ (d : Addr) (L : Int) (hs : List Lk), vs = [.ref d] ∧ DarkAt Z K H d L hs ∧ (∀ l ∈ hs, Sized 290 l) ∧ (∀ a ∈ hs, ∀ b ∈ hs, clashB a b L = false) ∧ (bk hs).length ≤ 58 ∧
  ∀ (H' : Hp) (b : Addr), H b = none → Same H H' → DarkAt Z K H' b L ((bk hs).foldl (heard L) []) → (∀ la dx, H' b = some (.ins Z.C dx (df L la)) → H la = none) → Q (.ref b) H'
theorem bk_take {ls : List Lk} {i : Nat} {l : Lk} (h : ls[i]? = some l) : bk (ls.take (i + 1)) = bk (ls.take i) ++ bk1 l := by
  rw [take_snoc h]; unfold bk; rw [List.flatMap_append]; simp
theorem bk_pre {ls : List Lk} (i : Nat) : ∃ r, bk ls = bk (ls.take i) ++ r := ⟨bk (ls.drop i), by unfold bk; rw [← List.flatMap_append, List.take_append_drop]⟩
section
variable {P : Program} {w : World} {K : PySem.W.Frag} {mg : Str → Option Value} {base : Heap} {Z : Ad}
theorem ok_Dark_led_back (T : Tx K w mg Z) : FnOk P w K mg base CX0 6 Z.a_Dark_led_back Z.d_Dark_led_back P_Dark_led_back (spBack Z K) := by
  refine T.F_Dark_led_back.ok scDark_led_back (fun vs H Q E h => ?_) (fun cdv A outer s H vs Q E hr h => ?_)
  · obtain ⟨d, L, hs, rfl, _⟩ := h
    rfl
  · obtain ⟨d, L, hs, rfl, D, hsz, hnc, hlen, k⟩ := h
    obtain ⟨dx, la, xs, h1, h2, h3⟩ := id D.ex
    have hL := D.pos
    have hwd : ∀ l ∈ hs, WordOk l.1 := fun l hl => (D.ok l hl).1
    have nc := bk_nc hL hwd hnc
    refine ⟨_, (pss_cons (ps_set (i := 1) scDark_led_back.nd rfl (Or.inl rfl) (pe_make T.mk_Dark (ok_Dark_init T) (hr.mono (by decide)) (by rfl) T.g_Dark T.bb_Dark_init .nil pass0 (pa_cons (fldK (K := K) (pv 0) rfl) pa_nil)))
      (pss_cons (ps_for PassesOwn.never rfl (pi_list (pe_meth0 (pv 0) T.cl T.m_Dark_looks (ok_Dark_looks T) (hr.mono (by decide)) T.bb_Dark_looks .nil pass0)) (tupK (K := K) (by rfl) (pgs_cons (pg_name (i := 2) scDark_led_back.nd rfl (Or.inl rfl)) (pgs_cons (pg_name (i := 3) scDark_led_back.nd rfl (Or.inl rfl)) (pgs_cons (pg_name (i := 4) scDark_led_back.nd rfl (Or.inl rfl)) pgs_nil)))) (C8.pss_cut (ps_if (pt_cmpR op_ne (pv 2) pe_str (nomark _)) (pss_one (ps_expr (pe_meth (pv 1) T.cl T.m_Dark_hear (ok_Dark_hear T) (hr.mono (by decide)) T.bb_Dark_hear .nil pass0 (pa_cons pe_str (pa_cons (pv 4) (pa_cons (pv 3) pa_nil)))))) pss_nil)
      (pss_one (ps_if (pt_cmpR op_ne (pv 2) pe_str (nomark _)) (pss_one (ps_expr (pe_meth (pv 1) T.cl T.m_Dark_hear (ok_Dark_hear T) (hr.mono (by decide)) T.bb_Dark_hear .nil pass0 (pa_cons pe_str (pa_cons (pe_op op_add (pv 4) pe_int) (pa_cons (pe_op op_add (pv 3) pe_int) pa_nil)))))) pss_nil))))
      (pss_one (ps_ret (pv 1))))), ?_⟩
    refine ⟨_, rfl, d, Z.C, dx, _, _, rfl, h1, T.cl, T.n_length, df_length _ _, fun b dxb hbn hbx hne => ?_⟩
    have S0 : Same H (upd (upd H dxb (.own b)) b (.ins Z.C dxb [])) := fun c o e => by
      rw [upd_ne (ne_of_none e hbn), upd_ne (ne_of_none e hbx)]; exact e
    refine ⟨b, dxb, L, rfl, upd_same, hL, D.big, fun H1 D1 f1 k1 => ⟨rfl, ?_⟩⟩
    have S1 : Same H H1 := fun c o e => k1 c o (S0 c o e) (ne_of_none e hbn)
    refine ⟨_, rfl, d, dx, _, rfl, S1 _ _ h1, df_no _ _ (by decide +kernel) (by decide +kernel), d, L, hs, rfl, D.same S1, fun p ys H2 hp S2 hp1 hp2 => ?_⟩
    have hpb : p ≠ b := by
      rintro rfl
      obtain ⟨dx1, la1, vs1, g1, _⟩ := D1.ex
      rw [hp] at g1; cases g1
    have hyl : ys.length = hs.length := by rw [dpAll_len hp2, List.length_map]
    have F2 : ∀ la dx, H2 b = some (.ins Z.C dx (df L la)) → H la = none := fun la2 dx2 e => by
      obtain ⟨dx1, la1, vs1, g1, _⟩ := D1.ex
      have e2 := S2 _ _ g1
      rw [e] at e2
      rw [df_inj e2]
      exact S0.free (f1 la1 dx1 g1)
    obtain ⟨dx1, la1, vs1, g1, _⟩ := id (D1.same S2).ex
    have tups : ∀ {H'}, (∀ c o, H2 c = some o → c ≠ b → H' c = some o) → Tups H2 H' := fun kb c zs hc => by
      have hcb : c ≠ b := by
        rintro rfl
        rcases hc with e | ⟨q, e⟩ <;> rw [g1] at e <;> cases e
      rcases hc with e | ⟨q, e⟩
      · exact .inl (kb _ _ e hcb)
      · exact .inr ⟨q, kb _ _ e hcb⟩
    -- one more is heard
    have one : ∀ {H' : Hp} {pr : List Lk} {q : Lk}, (∀ o ∈ pr, o ∈ bk hs) → q ∈ bk hs → pr.length < 58 → (∀ c o, H2 c = some o → c ≠ b → H' c = some o) → (∀ la dx, H' b = some (.ins Z.C dx (df L la)) → H la = none) →
        (pr.foldl (heard L) []).length < 60 ∧ (∀ o ∈ pr.foldl (heard L) [], clashB (home L q) o L = false) ∧
        ∀ H'', DarkAt Z K H'' b L (heard L (pr.foldl (heard L) []) q) → (∀ la dx, H'' b = some (.ins Z.C dx (df L la)) → (∃ dx', H' b = some (.ins Z.C dx' (df L la))) ∨ H' la = none) → (∀ c o, H' c = some o → c ≠ b → H'' c = some o) →
          (∀ c o, H2 c = some o → c ≠ b → H'' c = some o) ∧ DarkAt Z K H'' b L ((pr ++ [q]).foldl (heard L) []) ∧ ∀ la dx, H'' b = some (.ins Z.C dx (df L la)) → H la = none := by
      intro H' pr q hpr hq hl kb F
      have hfl := fold_len (L := L) pr []
      have S : Same H H' := fun c o e => kb c o ((S1.trans S2) _ _ e) (ne_of_none e hbn)
      refine ⟨by simp at hfl; omega, fun o ho => ?_, fun H'' D'' f'' k'' => ⟨fun c o e hc => k'' c o (kb c o e hc) hc, ?_, fun la dx e => ?_⟩⟩
      · obtain h | ⟨r, hr, e⟩ := (fold_mem _ _ _).mp ho
        · cases h
        · rw [e, clash_home hL]
          exact nc q hq r (hpr r hr)
      · rw [List.foldl_append]; exact D''
      · rcases f'' la dx e with ⟨dx', h⟩ | h
        · exact F la dx' h
        · exact S.free h
    refine ⟨p, rfl, ⟨_, SqL.of hp1⟩, ?_⟩
    refine for_list (K := K) (a := p) (xs := ys) (fun i σ' H' => ∃ u2 u3 u4, σ' = [some (.ref d), some (.ref b), u2, u3, u4] ∧ (∀ c o, H2 c = some o → c ≠ b → H' c = some o) ∧ DarkAt Z K H' b L ((bk (hs.take i)).foldl (heard L) []) ∧ ∀ la dx, H' b = some (.ins Z.C dx (df L la)) → H la = none) ⟨none, none, none, rfl, fun _ _ e _ => e, D1.same S2, F2⟩ (fun i σ' H' _ ⟨_, _, _, _, kb, _⟩ => SqL.of (kb _ _ hp1 hpb)) ?_ ?_
    · rintro i y σ' H' hi ⟨u2, u3, u4, rfl, kb, DD, F⟩
      obtain ⟨e, hdi, hdy⟩ := dpAll_get hp2 hi
      obtain ⟨l, hl, rfl⟩ := map_at hdi
      have hlm := List.mem_of_getElem? hl
      obtain ⟨pp, rfl, hpp⟩ := dp_look (dp_tups (tups kb) _ _ rfl hdy)
      obtain ⟨r, er⟩ := bk_pre (ls := hs) (i + 1)
      have tk := bk_take hl
      rw [tk] at er
      have inA : ∀ o ∈ bk (hs.take i) ++ bkA l, o ∈ bk hs := fun o ho => by
        rw [er]
        unfold bk1
        simp only [List.mem_append] at ho ⊢
        rcases ho with h | h
        · exact .inl (.inl h)
        · exact .inl (.inr (.inl h))
      have lenA : (bk (hs.take i)).length + (bkA l).length + (bkB l).length ≤ 58 := by
        rw [er] at hlen
        unfold bk1 at hlen
        simp only [List.length_append] at hlen
        omega
      refine ⟨_, _, rfl, hpp, rfl, _, _, rfl, _, _, rfl, _, _, rfl, rfl, ?_⟩
      refine ⟨fun σ' H' => σ' = [some (.ref d), some (.ref b), some (.str l.1), some (.int l.2.1), some (.int l.2.2)] ∧ (∀ c o, H2 c = some o → c ≠ b → H' c = some o) ∧ DarkAt Z K H' b L ((bk (hs.take i) ++ bkA l).foldl (heard L) []) ∧ ∀ la dx, H' b = some (.ins Z.C dx (df L la)) → H la = none, ?_, ?_⟩
      · refine ⟨_, rfl, rfl, _, rfl, ?_⟩
        by_cases c : l.1 = "upto"
        · have e1 : bkA l = [] := if_pos c
          rw [e1, List.append_nil]
          have e2 : (!decide (V.str l.1 = V.str "upto")) = false := by rw [c]; simp
          rw [e2]
          exact iteF ⟨rfl, kb, DD, F⟩
        · have e1 : bkA l = [upL l] := if_neg c
          rw [e1]
          rw [e1] at inA lenA
          have e2 : (!decide (V.str l.1 = V.str "upto")) = true := by
            rw [Bool.not_eq_true', decide_eq_false_iff_not]
            exact fun e => c (V.str.inj e)
          rw [e2]
          obtain ⟨dxq, laq, vsq, gq, _⟩ := id DD.ex
          refine iteT ⟨_, rfl, b, dxq, _, rfl, gq, df_no _ _ (by decide +kernel) (by decide +kernel), _, rfl, _, rfl, ?_⟩
          have hq : upL l ∈ bk hs := inA _ (by simp)
          obtain ⟨o1, o2, o3⟩ := one (q := upL l) (fun o ho => inA o (List.mem_append_left _ ho)) hq (by simp at lenA; omega) kb F
          refine ⟨b, L, _, upL l, rfl, DD, bk_word hq, (bk_sized hq hsz).up (by decide), o1, o2, fun H'' D'' f'' k'' => ?_⟩
          obtain ⟨x1, x2, x3⟩ := o3 H'' D'' f'' k''
          exact ⟨rfl, x1, x2, x3⟩
      · rintro σ' H3 ⟨rfl, kb3, D3, F3⟩
        refine ⟨_, rfl, rfl, _, rfl, ?_⟩
        by_cases c : l.1 = "from"
        · have e1 : bkB l = [] := if_pos c
          have e2 : (!decide (V.str l.1 = V.str "from")) = false := by rw [c]; simp
          rw [e2]
          refine iteF ⟨_, _, _, rfl, kb3, ?_, F3⟩
          rw [tk]
          unfold bk1
          rw [e1, List.append_nil]; exact D3
        · have e1 : bkB l = [frL l] := if_neg c
          rw [e1] at lenA
          have e2 : (!decide (V.str l.1 = V.str "from")) = true := by
            rw [Bool.not_eq_true', decide_eq_false_iff_not]
            exact fun e => c (V.str.inj e)
          rw [e2]
          obtain ⟨dxq, laq, vsq, gq, _⟩ := id D3.ex
          refine iteT ⟨_, rfl, b, dxq, _, rfl, gq, df_no _ _ (by decide +kernel) (by decide +kernel), _, rfl, _, _, rfl, rfl, _, rfl, _, _, rfl, rfl, ?_⟩
          have hq : frL l ∈ bk hs := mem_bk.mpr ⟨l, hlm, .inr ⟨c, rfl⟩⟩
          obtain ⟨o1, o2, o3⟩ := one (q := frL l) inA hq (by simp at lenA ⊢; omega) kb3 F3
          refine ⟨b, L, _, frL l, rfl, D3, bk_word hq, (bk_sized hq hsz).up (by decide), o1, o2, fun H'' D'' f'' k'' => ?_⟩
          obtain ⟨x1, x2, x3⟩ := o3 H'' D'' f'' k''
          refine ⟨_, _, _, rfl, x1, ?_, x3⟩
          rw [tk]
          unfold bk1
          rw [e1, ← List.append_assoc]; exact x2
    · rintro σ' H' ⟨u2, u3, u4, rfl, kb, DD, F⟩
      rw [List.take_of_length_le (by rw [hyl]; exact Nat.le_refl _)] at DD
      exact ⟨_, rfl, k H' b hbn (fun c o e => kb c o ((S1.trans S2) _ _ e) (ne_of_none e hbn)) DD F⟩
end
end KA
namespace KA
open PySem PySem.Spec PyProof.Rows L2 DP
/-- what stood stands, but at t and g -/
def Keep (t g : Addr) (H H' : Hp) : Prop := ∀ b o, H b = some o → b ≠ t → b ≠ g → H' b = some o
theorem Keep.refl (t g : Addr) (H : Hp) : Keep t g H H := fun _ _ h _ _ => h
theorem Keep.trans {t g : Addr} {H H1 H2 : Hp} (a : Keep t g H H1) (b : Keep t g H1 H2) : Keep t g H H2 := fun c o h x y => b c o (a c o h x y) x y
/-- the tray: at t, its great numbers at g; no more than n draws so far went by the fold -/
structure Tray (H : Hp) (t g : Addr) (n : Nat) : Prop where
  ex : ∃ (gs : List Int) (l f c : Int), H t = some (.lst [.ref g, .int l, .int f, .int c]) ∧ H g = some (.lst (gs.map V.int)) ∧ gs.length ≤ 63 ∧ (∀ x ∈ gs, 0 ≤ x) ∧ 0 ≤ l ∧ 0 ≤ f ∧ f < 2 ^ 61 ∧ 0 ≤ c ∧ c ≤ (n : Int)
  ne : t ≠ g
theorem Tray.same {H H' : Hp} {t g : Addr} {n : Nat} (T : Tray H t g n) (S : Same H H') : Tray H' t g n := by
  obtain ⟨⟨gs, l, f, c, h1, h2, r⟩, hne⟩ := T
  exact ⟨⟨gs, l, f, c, S _ _ h1, S _ _ h2, r⟩, hne⟩
theorem Keep.of_same {t g : Addr} {H H' : Hp} (S : Same H H') : Keep t g H H' := fun b o e _ _ => S b o e
def spDraw : Sp := fun vs H Q _ => ∃ (t g : Addr) (n : Nat) (m : Int), vs = [.ref t, .int m] ∧ Tray H t g n ∧ 0 < m ∧ m.natAbs < 2 ^ 1000 ∧ n < 2 ^ 60 ∧
  ∀ (H' : Hp) (r : Int), 0 ≤ r → r < m → Tray H' t g (n + 1) → Keep t g H H' → Q (.int r) H'
/-- the length of the list at g -/
theorem shaped_ints (ns : List Int) : SeqAt.shaped (.list (ns.map .int)) = true := by
  have h1 : ∀ ns : List Int, PyData.canLayAll0 (ns.map .int) = true := by
    intro ns
    induction ns with
    | nil => rfl
    | cons a r ih => simp [PyData.canLayAll0, PyData.canLay0, ih]
  have h2 : ∀ ns : List Int, PyData.depthAll (ns.map .int) = 0 := PySem.W.depth_ints
  unfold SeqAt.shaped
  simp [PyData.canLay0, PyData.depth, h1, h2]
theorem pow_lt {i : Int} {a n : Nat} (h : i.natAbs < 2 ^ a) (h0 : n ≠ 0) : (i ^ n).natAbs < 2 ^ (a * n) := by
  rw [Int.natAbs_pow, Nat.pow_mul]
  exact Nat.pow_lt_pow_left h h0
theorem seqIx0 {n : Nat} (h : 0 < n) : seqIndex? 0 n = some 0 := by
  unfold seqIndex?
  simp
  omega
theorem while_post {c : TT} {tb : TS} {D : Ends} {σ : L2.St} {H : Hp} (Pv : L2.St → Hp → Prop) (μ : L2.St → Hp → Nat) (Po : L2.St → Hp → Prop) (h0 : Pv σ H)
    (hs : ∀ σ H, Pv σ H → c σ H fun b H1 => if b = true then tb { D with nx := fun σ' H' => Pv σ' H' ∧ μ σ' H' < μ σ H, ct := fun σ' H' => Pv σ' H' ∧ μ σ' H' < μ σ H, bk := D.nx } σ H1 else Po σ H1)
    (hd : ∀ σ H, Po σ H → D.nx σ H) (mono : ∀ σ H Q Q', (∀ b H1, Q b H1 → Q' b H1) → c σ H Q → c σ H Q') : tWhile c tb D σ H :=
  while_by Pv μ h0 (fun σ1 H1 p => mono σ1 H1 _ _ (fun b H2 q => by
    cases b with
    | true => exact q
    | false => exact hd _ _ q) (hs σ1 H1 p)) mono
section
variable {P : Program} {w : World} {K : PySem.W.Frag} {mg : Str → Option Value} {base : Heap} {Z : Ad}
theorem ok_law_draw (T : Tx K w mg Z) : FnOk P w K mg base CX0 1 Z.a_law_draw Z.d_law_draw P_law_draw (spDraw) := by
  refine T.F_law_draw.ok sclaw_draw (fun vs H Q E h => ?_) (fun cdv A outer s H vs Q E hr h => ?_)
  · obtain ⟨t, g, n, m, rfl, _⟩ := h
    rfl
  · obtain ⟨t, g, n, m, rfl, ⟨ht, hne⟩, hm, hmb, hn, k⟩ := h
    refine ⟨_, (C8.pss_cut (ps_while PassesOwn.never (PW.pt (pw_and (pt_cmpR op_lt (pe_ix (ixL (K := K)) (pv 0) pe_int (fun _ _ => rfl)) pe_int (nomark _)) (pw_and1 (pt_cmpR (neDK (K := K) hr.units) (pe_ix (ixL (K := K)) (pv 0) pe_int (fun _ _ => rfl)) (pe_lst pa_nil) (nomark _))))) (pss_one (ps_asg (pe_bm PySem.F.plainAttrs_list PySem.F.slot_list_pop PySem.F.type_list_pop mt_popAt (pe_ix (ixL (K := K)) (pv 0) pe_int (fun _ _ => rfl)) (pa_cons pe_int pa_nil)) (pg_sub (pv 0) pe_int set_list))))
      (C8.pss_cut (ps_if (pt_cmpR op_ge (pe_ix (ixL (K := K)) (pv 0) pe_int (fun _ _ => rfl)) pe_int (nomark _)) (pss_cons (ps_set (i := 2) sclaw_draw.nd rfl (Or.inl rfl) (pe_op op_mod (pe_ix (ixL (K := K)) (pv 0) pe_int (fun _ _ => rfl)) (pv 1)))
      (pss_cons (ps_asg (pe_op op_fdivW (pe_ix (ixL (K := K)) (pv 0) pe_int (fun _ _ => rfl)) (pv 1)) (pg_sub (pv 0) pe_int set_list))
      (pss_one (ps_ret (pv 2))))) pss_nil)
      (pss_cons (ps_asg (pe_op op_add (pe_ix (ixL (K := K)) (pv 0) pe_int (fun _ _ => rfl)) pe_int) (pg_sub (pv 0) pe_int set_list))
      (pss_cons (ps_set (i := 3) sclaw_draw.nd rfl (Or.inl rfl) (pe_op op_mod (pe_op op_add (pe_op op_mulW (pe_op op_add (pe_ix (ixL (K := K)) (pv 0) pe_int (fun _ _ => rfl)) pe_int) (pe_op op_pow (pe_op op_add (pe_ix (ixL (K := K)) (pv 0) pe_int (fun _ _ => rfl)) pe_int) pe_int)) (pe_op op_mulW pe_int (pe_ix (ixL (K := K)) (pv 0) pe_int (fun _ _ => rfl)))) (pe_op op_sub (pe_op op_pow pe_int pe_int) pe_int)))
      (pss_one (ps_ret (pe_op op_mod (pe_op op_fdivW (pe_op op_mod (pe_op op_pow (pv 3) pe_int) (pe_op op_add (pe_op op_pow pe_int pe_int) pe_int)) pe_int) (pv 1)))))))), ?_⟩
    -- while tray[1] < 2 and tray[0] != []
    refine ⟨fun σ' H' => σ' = [some (.ref t), some (.int m), none, none] ∧ Tray H' t g n ∧ Keep t g H H', ?_, ?_⟩
    · refine while_post (fun σ' H' => σ' = [some (.ref t), some (.int m), none, none] ∧ Tray H' t g n ∧ Keep t g H H') (fun _ H' => lenAt H' g) (fun σ' H' => σ' = [some (.ref t), some (.int m), none, none] ∧ Tray H' t g n ∧ Keep t g H H') ⟨rfl, ⟨ht, hne⟩, Keep.refl _ _ _⟩ ?_ (fun _ _ q => q) ?_
      · rintro σ1 H1 ⟨rfl, ⟨⟨gs, l, f, c, h1, h2, hl, hge, hl0, hf0, hf1, hc0, hc1⟩, _⟩, kp⟩
        refine ⟨_, rfl, _, _, _, _, rfl, rfl, SqL.of h1, rfl, _, _, rfl, rfl, _, rfl, ?_⟩
        refine ite2 (fun hlt => ?_) (fun hnl => ?_)
        · refine ⟨_, rfl, _, _, _, _, rfl, rfl, SqL.of h1, rfl, (by show 0 ≤ sizeLine; decide), fun p hp => ?_⟩
          have g2 : (upd H1 p (.lst [])) g = some (.lst (gs.map V.int)) := (upd_ne (ne_of_none h2 hp)).trans h2
          have g1 : (upd H1 p (.lst [])) t = some (.lst [.ref g, .int l, .int f, .int c]) := (upd_ne (ne_of_none h1 hp)).trans h1
          have kp1 : Keep t g H (upd H1 p (.lst [])) := fun b o e n1 n2 => (upd_ne (ne_of_none (kp b o e n1 n2) hp)).trans (kp b o e n1 n2)
          refine ⟨_, _, .lst (SqL.of g2) (dpAll_ints gs), .lst (SqL.of upd_same) .nil, shaped_ints gs, rfl, _, rfl, ?_⟩
          cases gs with
          | nil => exact iteF ⟨rfl, ⟨⟨[], l, f, c, g1, g2, hl, hge, hl0, hf0, hf1, hc0, hc1⟩, hne⟩, kp1⟩
          | cons y ys =>
            refine iteT ?_
            -- tray[1] = tray[0].pop(0)
            refine ⟨_, rfl, _, _, _, _, rfl, rfl, SqL.of g1, rfl, .inl ⟨rfl, _, SqL.of g2⟩, _, _, _, 0, _, rfl, rfl, g2, by decide, by decide, seqIx0 (by simp), rfl, ?_⟩
            refine ⟨_, rfl, _, _, _, 1, rfl, rfl, (upd_ne hne).trans g1, rfl, ?_⟩
            refine ⟨⟨rfl, ⟨⟨ys, y, f, c, upd_same, (upd_ne (Ne.symm hne)).trans upd_same, ?_, ?_, ?_, hf0, hf1, hc0, hc1⟩, hne⟩, ?_⟩, ?_⟩
            · simp at hl; omega
            · exact fun x hx => hge x (List.mem_cons_of_mem _ hx)
            · exact hge y List.mem_cons_self
            · exact fun b o e n1 n2 => (upd_ne n1).trans ((upd_ne n2).trans (kp1 b o e n1 n2))
            · rw [lenAt_of ((upd_ne (Ne.symm hne)).trans upd_same), lenAt_of h2]
              simp
        · exact iteF ⟨rfl, ⟨⟨gs, l, f, c, h1, h2, hl, hge, hl0, hf0, hf1, hc0, hc1⟩, hne⟩, kp⟩
      · intro σ1 H1 Q1 Q2 hQ hc
        obtain ⟨v, hv, p, xs, i, x, e1, e2, hs, ha, i1, j1, e3, e4, k1, ek, hif⟩ := hc
        refine ⟨v, hv, p, xs, i, x, e1, e2, hs, ha, i1, j1, e3, e4, k1, ek, ?_⟩
        cases k1 with
        | false => exact hQ _ _ hif
        | true =>
          obtain ⟨v, hv, p, xs, i, x, e1, e2, hs, ha, hz, hp⟩ := hif
          refine ⟨v, hv, p, xs, i, x, e1, e2, hs, ha, hz, fun p' np => ?_⟩
          obtain ⟨d, e, d1, d2, s1, s2, b, eb, q⟩ := hp p' np
          exact ⟨d, e, d1, d2, s1, s2, b, eb, hQ _ _ q⟩
    · rintro σ1 H1 ⟨rfl, ⟨⟨gs, l, f, c, h1, h2, hl, hge, hl0, hf0, hf1, hc0, hc1⟩, _⟩, kp⟩
      refine ⟨fun σ' H' => σ' = [some (.ref t), some (.int m), none, none] ∧ H' = H1, ?_, ?_⟩
      · refine ⟨_, rfl, _, _, _, _, rfl, rfl, SqL.of h1, rfl, _, _, rfl, rfl, _, rfl, ?_⟩
        refine ite2 (fun hge2 => ?_) (fun _ => ⟨rfl, rfl⟩)
        refine ⟨_, rfl, _, _, _, _, rfl, rfl, SqL.of h1, rfl, _, rfl, _, _, rfl, rfl, hm, ?_⟩
        refine ⟨_, rfl, _, _, _, _, rfl, rfl, SqL.of h1, rfl, _, rfl, _, _, rfl, rfl, wide_div hm hmb (by decide) (by decide), _, rfl, _, _, _, 1, rfl, rfl, h1, rfl, _, rfl, ?_⟩
        refine k _ _ (Int.emod_nonneg _ (by omega)) (Int.emod_lt_of_pos _ hm) ⟨⟨gs, l / m, f, c, upd_same, (upd_ne (Ne.symm hne)).trans h2, hl, hge, Int.ediv_nonneg hl0 (by omega), hf0, hf1, hc0, by push_cast; omega⟩, hne⟩ fun b o e n1 n2 => (upd_ne n1).trans (kp b o e n1 n2)
      · rintro σ2 H2 ⟨rfl, rfl⟩
        refine ⟨_, rfl, _, _, _, _, rfl, rfl, SqL.of h1, rfl, _, _, rfl, rfl, _, rfl, _, _, _, 3, rfl, rfl, h1, rfl, ?_⟩
        have g1 : (upd H2 t (.lst (List.set [.ref g, .int l, .int f, .int c] 3 (.int (c + 1))))) t = some (.lst [.ref g, .int l, .int f, .int (c + 1)]) := upd_same
        have bf : (f + 5).natAbs < 2 ^ 63 := by omega
        have bc : (c + 1 + 2).natAbs < 2 ^ 61 := by omega
        have b3 : ((c + 1 + 2) ^ (3 : Int).toNat).natAbs < 2 ^ (61 * 3) := pow_lt bc (by decide)
        refine ⟨_, rfl, _, _, _, _, rfl, rfl, SqL.of g1, rfl, _, _, rfl, rfl, _, rfl, _, _, _, _, rfl, rfl, SqL.of g1, rfl, _, _, rfl, rfl, _, _, rfl, rfl, ⟨by decide, by decide, Nat.lt_trans bc (by decide)⟩, _, _, rfl, rfl, wide_mul bf b3 (by decide) (by decide) (by decide), ?_⟩
        refine ⟨_, rfl, _, _, _, _, rfl, rfl, SqL.of g1, rfl, _, _, rfl, rfl, wide_mul (a := 30) (b := 61) (by decide) (by omega) (by decide) (by decide) (by decide), _, _, rfl, rfl, ?_⟩
        refine ⟨_, _, rfl, rfl, ⟨by decide, by decide, by decide⟩, _, _, rfl, rfl, _, _, rfl, rfl, (by show (0 : Int) < _; decide), ?_⟩
        have hx0 := Int.emod_nonneg ((f + 5) * (c + 1 + 2) ^ (3 : Int).toNat + 1000003 * (c + 1)) (show (2 : Int) ^ (61 : Int).toNat - 1 ≠ 0 by decide)
        have hx1 := Int.emod_lt_of_pos ((f + 5) * (c + 1 + 2) ^ (3 : Int).toNat + 1000003 * (c + 1)) (show (0 : Int) < (2 : Int) ^ (61 : Int).toNat - 1 by decide)
        have e61 : (2 : Int) ^ (61 : Int).toNat - 1 = 2305843009213693951 := by decide
        rw [e61] at hx0 hx1
        refine ⟨_, rfl, _, _, rfl, rfl, ⟨by decide, by decide, ?_⟩, _, _, rfl, rfl, ⟨by decide, by decide, by decide⟩, _, _, rfl, rfl, _, _, rfl, rfl, (by show (0 : Int) < _; decide), _, _, rfl, rfl, wide_div (b := 10) (by decide) (by decide) (by decide) (by decide), _, rfl, _, _, rfl, rfl, hm, ?_⟩
        · show (((f + 5) * (c + 1 + 2) ^ (3 : Int).toNat + 1000003 * (c + 1)) % ((2 : Int) ^ (61 : Int).toNat - 1)).natAbs < 2 ^ 64
          rw [e61]
          omega
        · refine k _ _ (Int.emod_nonneg _ (by omega)) (Int.emod_lt_of_pos _ hm) ⟨⟨gs, l, f, c + 1, g1, (upd_ne (Ne.symm hne)).trans h2, hl, hge, hl0, hf0, hf1, by omega, by push_cast; omega⟩, hne⟩ fun b o e n1 n2 => (upd_ne n1).trans (kp b o e n1 n2)
end
end KA
namespace KA
open PySem PySem.Spec PyProof.Rows L2 DP
def spTray (K : PySem.W.Frag) : Sp := fun vs H Q _ => ∃ (a : Addr) (ns : List Int), vs = [.ref a] ∧ SqL K H a (ns.map V.int) ∧ ns.length ≤ 63 ∧ ∀ (H' : Hp) (t g : Addr), Tray H' t g 0 → Same H H' → H t = none → H g = none → Q (.ref t) H'
def spGreat : Sp := fun vs H Q _ => ∃ (t g : Addr) (n : Nat), vs = [.ref t] ∧ Tray H t g n ∧ n < 2 ^ 50 ∧ ∀ (H' : Hp) (r : Int), 0 ≤ r → r < 10 ^ 59 → Tray H' t g (n + 4) → Keep t g H H' → Q (.int r) H'
def spLength : Sp := fun vs H Q _ => ∃ (t g : Addr) (n : Nat), vs = [.ref t] ∧ Tray H t g n ∧ n < 2 ^ 49 ∧ ∀ (H' : Hp) (r : Int), 0 < r → r ≤ 10 ^ 30 → Tray H' t g (n + 10) → Keep t g H H' → Q (.int r) H'
theorem Tray.up {H : Hp} {t g : Addr} {m n : Nat} (T : Tray H t g m) (h : m ≤ n) : Tray H t g n := by
  obtain ⟨⟨gs, l, f, c, h1, h2, hl, hge, hl0, hf0, hf1, hc0, hc1⟩, hne⟩ := T
  exact ⟨⟨gs, l, f, c, h1, h2, hl, hge, hl0, hf0, hf1, hc0, by omega⟩, hne⟩
theorem pow_ten : (10 : Int) ^ (14 : Int).toNat = 10 ^ 14 ∧ (10 : Int) ^ (15 : Int).toNat = 10 ^ 15 ∧ (10 : Int) ^ (29 : Int).toNat = 10 ^ 29 ∧ (10 : Int) ^ (31 : Int).toNat = 10 ^ 31 ∧ (10 : Int) ^ (57 : Int).toNat = 10 ^ 57 := ⟨rfl, rfl, rfl, rfl, rfl⟩
section
variable {P : Program} {w : World} {K : PySem.W.Frag} {mg : Str → Option Value} {base : Heap} {Z : Ad}
theorem ok_law_tray (T : Tx K w mg Z) : FnOk P w K mg base CX0 1 Z.a_law_tray Z.d_law_tray P_law_tray (spTray K) := by
  refine T.F_law_tray.ok sclaw_tray (fun vs H Q E h => ?_) (fun cdv A outer s H vs Q E hr h => ?_)
  · obtain ⟨a, ns, rfl, _⟩ := h
    rfl
  · obtain ⟨a, ns, rfl, hS, hlen, k⟩ := h
    refine ⟨_, (pss_cons (ps_set (i := 1) sclaw_tray.nd rfl (Or.inl rfl) pe_int)
      (pss_cons (ps_set (i := 2) sclaw_tray.nd rfl (Or.inl rfl) (pe_lst pa_nil))
      (pss_cons (ps_for PassesOwn.never rfl (pi_list (pv 0)) (pg_name (i := 3) sclaw_tray.nd rfl (Or.inl rfl)) (pss_cons (ps_set (i := 1) sclaw_tray.nd rfl (Or.inl rfl) (pe_op op_mod (pe_op op_add (pe_op op_mulW (pv 1) pe_int) (pv 3)) (pe_op op_sub (pe_op op_pow pe_int pe_int) pe_int)))
      (pss_cons (ps_set (i := 4) sclaw_tray.nd rfl (Or.inl rfl) (pe_callB (call_max2 rfl) (by rfl) T.b_max (by decide +kernel) (pa_cons (pv 3) (pa_cons (pe_op op_sub pe_int (pv 3)) pa_nil))))
      (pss_one (ps_if (pt_cmpR op_ge (pv 4) (pe_op op_pow pe_int pe_int) (nomark _)) (pss_one (ps_expr (pe_bm PySem.F.plainAttrs_list PySem.F.slot_list_append PySem.F.type_list_append mt_append (pv 2) (pa_cons (pe_op op_sub (pv 4) (pe_op op_pow pe_int pe_int)) pa_nil)))) pss_nil)))))
      (pss_one (ps_ret (pe_lst (pa_cons (pv 2) (pa_cons pe_int (pa_cons (pv 1) (pa_cons pe_int pa_nil)))))))))), ?_⟩
    refine ⟨(by show 0 ≤ sizeLine; decide), fun G hG => ?_⟩
    refine ⟨_, rfl, a, rfl, ⟨_, Same.sqL (same_upd hG) hS⟩, ?_⟩
    refine for_list (K := K) (a := a) (xs := ns.map V.int) (fun i σ' H' => ∃ (gs : List Int) (f : Int) (u v : Option V), σ' = [some (.ref a), some (.int f), some (.ref G), u, v] ∧ Same H H' ∧ H' G = some (.lst (gs.map V.int)) ∧ gs.length ≤ i ∧ (∀ x ∈ gs, 0 ≤ x) ∧ 0 ≤ f ∧ f < 2 ^ 61)
      ⟨[], 314159265358979, none, none, rfl, same_upd hG, upd_same, Nat.le_refl _, (fun _ z => absurd z (by simp)), by decide, by decide⟩ (fun i σ' H' _ ⟨_, _, _, _, _, S, _⟩ => Same.sqL S hS) ?_ ?_
    · rintro i y σ' H' hi ⟨gs, f, u, v, rfl, S, hg, hgl, hge, hf0, hf1⟩
      obtain ⟨z, hz, rfl⟩ := map_at hi
      have hi63 : i < 63 := by
        have := (List.getElem?_eq_some_iff.mp hz).1
        omega
      have bf : f.natAbs < 2 ^ 61 := by omega
      refine ⟨_, rfl, _, _, rfl, rfl, wide_mul (b := 30) bf (by decide) (by decide) (by decide) (by decide), _, rfl, _, _, rfl, rfl, ?_⟩
      refine ⟨_, _, rfl, rfl, ⟨by decide, by decide, by decide⟩, _, _, rfl, rfl, _, _, rfl, rfl, (by show (0 : Int) < _; decide), ?_⟩
      have hx0 := Int.emod_nonneg (f * 1000003 + z) (show (2 : Int) ^ (61 : Int).toNat - 1 ≠ 0 by decide)
      have hx1 := Int.emod_lt_of_pos (f * 1000003 + z) (show (0 : Int) < (2 : Int) ^ (61 : Int).toNat - 1 by decide)
      have e61 : (2 : Int) ^ (61 : Int).toNat - 1 = 2305843009213693951 := by decide
      refine ⟨_, rfl, _, rfl, _, _, rfl, rfl, _, _, rfl, _, rfl, _, _, rfl, rfl, ⟨by decide, by decide, by decide⟩, _, _, rfl, rfl, _, rfl, ?_⟩
      refine ite2 (fun c => ?_) (fun _ => ?_)
      · refine ⟨_, rfl, .inl ⟨rfl, _, SqL.of hg⟩, _, rfl, _, _, rfl, rfl, ⟨by decide, by decide, by decide⟩, _, _, rfl, rfl, G, _, _, rfl, rfl, hg, ?_, ?_⟩
        · exact small1000 (by simp; omega)
        · have c' := of_decide_eq_true c
          refine ⟨gs ++ [(if 0 - z > z then 0 - z else z) - 10 ^ (18 : Int).toNat], _, _, _, rfl, same_set S hG, ?_, ?_, ?_, hx0, by rw [e61] at hx1; rw [e61]; omega⟩
          · rw [List.map_append]; exact upd_same
          · simp; omega
          · intro x hx
            rcases List.mem_append.mp hx with h | h
            · exact hge x h
            · rw [List.mem_singleton] at h
              subst h
              omega
      · exact ⟨gs, _, _, _, rfl, S, hg, by omega, hge, hx0, by rw [e61] at hx1; rw [e61]; omega⟩
    · rintro σ' H' ⟨gs, f, u, v, rfl, S, hg, hgl, hge, hf0, hf1⟩
      refine ⟨_, rfl, _, rfl, (by show 4 ≤ sizeLine; decide), fun t ht => ?_⟩
      have hgt : G ≠ t := ne_of_none hg ht
      refine k _ t G ⟨⟨gs, 0, f, 0, upd_same, (upd_ne hgt).trans hg, ?_, hge, Int.le_refl _, hf0, hf1, Int.le_refl _, Int.le_refl _⟩, Ne.symm hgt⟩ (same_set S (S.free ht)) (S.free ht) hG
      rw [List.length_map] at hgl
      omega
end
end KA
namespace KA
open PySem PySem.Spec PyProof.Rows L2 DP
abbrev Pr := Int × Int
def encP (p : Pr) : PyData := .tuple [.int p.1, .int p.2]
theorem noL_encP (p : Pr) : noL (encP p) = true := rfl
/-- where each step leads x -/
def leads (L : Int) (steps : List Pr) (x : Int) : List Int := steps.map fun s => s.2 + (x - s.1) / L * L
def IsMaxL (l : List Int) (m : Int) : Prop := m ∈ l ∧ ∀ y ∈ l, y ≤ m
def StepsOk (L : Int) (steps : List Pr) : Prop := steps ≠ [] ∧ steps.length ≤ 20 ∧ ∀ s ∈ steps, 0 ≤ s.1 ∧ s.1 < L ∧ s.2.natAbs < 2 ^ 250
/-- a list of data at p, tracked -/
def LAt (K : PySem.W.Frag) (H : Hp) (p : Addr) (ds : List PyData) : Prop := ∃ vs, H p = some (.lst vs) ∧ DpAll K H vs ds
theorem LAt.dp {K : PySem.W.Frag} {H : Hp} {p : Addr} {ds : List PyData} (h : LAt K H p ds) : Dp K H (.ref p) (.list ds) := by
  obtain ⟨vs, h1, h2⟩ := h
  exact .lst (SqL.of h1) h2
theorem LAt.same {K : PySem.W.Frag} {H H' : Hp} {p : Addr} {ds : List PyData} (h : LAt K H p ds) (S : Same H H') : LAt K H' p ds := by
  obtain ⟨vs, h1, h2⟩ := h
  exact ⟨vs, S _ _ h1, dpAll_mono S _ _ h2⟩
theorem Keep.tups {H H' : Hp} {t g : Addr} {n : Nat} (T : Tray H t g n) (k : Keep t g H H') : Tups H H' := fun b xs hb => by
  obtain ⟨⟨gs, l, f, c, h1, h2, r⟩, hne⟩ := T
  rcases hb with e | ⟨q, e⟩
  · refine .inl (k b _ e ?_ ?_) <;> rintro rfl
    · rw [h1] at e; cases e
    · rw [h2] at e; cases e
  · refine .inr ⟨q, k b _ e ?_ ?_⟩ <;> rintro rfl
    · rw [h1] at e; cases e
    · rw [h2] at e; cases e
theorem LAt.keep {K : PySem.W.Frag} {H H' : Hp} {t g p : Addr} {n : Nat} {ds : List PyData} (h : LAt K H p ds) (T : Tray H t g n) (k : Keep t g H H') (h1 : p ≠ t) (h2 : p ≠ g) (hn : noL.noLs ds = true) : LAt K H' p ds := by
  obtain ⟨vs, a, b⟩ := h
  exact ⟨vs, k _ _ a h1 h2, dpAll_tups (Keep.tups T k) _ _ hn b⟩
theorem Tray.at_ne {H : Hp} {t g p : Addr} {n : Nat} (T : Tray H t g n) (hp : H p = none) : p ≠ t ∧ p ≠ g := by
  obtain ⟨⟨gs, l, f, c, h1, h2, r⟩, hne⟩ := T
  exact ⟨Ne.symm (ne_of_none h1 hp), Ne.symm (ne_of_none h2 hp)⟩
theorem Keep.free {H H' : Hp} {t g p : Addr} {n : Nat} (T : Tray H t g n) (k : Keep t g H H') (hp : H' p = none) (T' : ∃ m, Tray H' t g m) : H p = none := by
  obtain ⟨m, T'⟩ := T'
  obtain ⟨h1, h2⟩ := T'.at_ne hp
  cases e : H p with
  | none => rfl
  | some o =>
    rw [k p o e h1 h2] at hp
    cases hp
def spLead (K : PySem.W.Frag) : Sp := fun vs H Q _ => ∃ (v : V) (L x : Int) (steps : List Pr), vs = [.int L, v, .int x] ∧ Dp K H v (.list (steps.map encP)) ∧ 0 < L ∧ L.natAbs < 2 ^ 200 ∧ x.natAbs < 2 ^ 300 ∧ StepsOk L steps ∧ ∀ m H', Same H H' → IsMaxL (leads L steps x) m → Q (.int m) H'
def spSecret (K : PySem.W.Frag) : Sp := fun vs H Q _ => ∃ (t g : Addr) (n : Nat) (L : Int), vs = [.ref t, .int L] ∧ Tray H t g n ∧ n < 2 ^ 45 ∧ 0 < L ∧ L ≤ 10 ^ 30 ∧
  ∀ (H' : Hp) (p : Addr) (steps : List Pr), H p = none → Tray H' t g (n + 30) → Keep t g H H' → LAt K H' p (steps.map encP) → StepsOk L steps → Q (.ref p) H'
theorem dp_pair {K : PySem.W.Frag} {H : Hp} {v : V} {p : Pr} (h : Dp K H v (encP p)) : ∃ a, v = .ref a ∧ SqT K H a [.int p.1, .int p.2] := by
  have h' : Dp K H v (.tuple [.int p.1, .int p.2]) := h
  cases h' with
  | tup s a =>
    cases a with
    | cons a1 a =>
      cases a with
      | cons a2 a =>
        cases a; cases a1; cases a2
        exact ⟨_, rfl, s⟩
section
variable {P : Program} {w : World} {K : PySem.W.Frag} {mg : Str → Option Value} {base : Heap} {Z : Ad}
end
end KA
namespace KA
open PySem PySem.Spec PyProof.Rows L2 DP
theorem small_nat {L : Int} {a : Int} {n : Nat} (h0 : 0 ≤ a) (h1 : a ≤ L) (hL : L.natAbs < 2 ^ n) : a.natAbs < 2 ^ n := Nat.lt_of_le_of_lt (by omega : a.natAbs ≤ L.natAbs) hL
theorem bigL {L : Int} (h0 : 0 < L) (h : L ≤ 10 ^ 30) : L.natAbs < 2 ^ 100 := by
  have e : (10 : Int) ^ 30 = 1000000000000000000000000000000 := by decide
  have e2 : (2 : Nat) ^ 100 = 1267650600228229401496703205376 := by decide
  rw [e] at h; rw [e2]; omega
/-- what the tray's calls keep of the frame: the tray, all else, so far m draws -/
structure At (H Hc : Hp) (t g : Addr) (m : Nat) : Prop where
  T : Tray Hc t g m
  k : Keep t g H Hc
theorem At.step {H H1 H2 : Hp} {t g : Addr} {m m' : Nat} (a : At H H1 t g m) (T : Tray H2 t g m') (k : Keep t g H1 H2) : At H H2 t g m' := ⟨T, a.k.trans k⟩
theorem At.up {H Hc : Hp} {t g : Addr} {m m' : Nat} (a : At H Hc t g m) (h : m ≤ m') : At H Hc t g m' := ⟨a.T.up h, a.k⟩
theorem At.new {H H1 : Hp} {t g p : Addr} {m : Nat} {o : HO} (a : At H H1 t g m) (hp : H1 p = none) : At H (upd H1 p o) t g m := ⟨a.T.same (same_upd hp), a.k.trans (Keep.of_same (same_upd hp))⟩
theorem At.free {H H1 : Hp} {t g p : Addr} {m : Nat} (a : At H H1 t g m) (hp : H1 p = none) : H p = none := by
  obtain ⟨h1, h2⟩ := a.T.at_ne hp
  cases e : H p with
  | none => rfl
  | some o =>
    rw [a.k p o e h1 h2] at hp
    cases hp
/-- a list that a comprehension makes is changed: it is new -/
theorem At.acc {H H1 : Hp} {t g D : Addr} {m : Nat} {o : HO} (a : At H H1 t g m) (hD : H D = none) (h1 : D ≠ t) (h2 : D ≠ g) : At H (upd H1 D o) t g m := by
  obtain ⟨⟨⟨gs, l, f, c, e1, e2, r⟩, hne⟩, k⟩ := a
  exact ⟨⟨⟨gs, l, f, c, (upd_ne (Ne.symm h1)).trans e1, (upd_ne (Ne.symm h2)).trans e2, r⟩, hne⟩, fun b o e n1 n2 => (upd_ne (ne_of_none e hD)).trans (k b o e n1 n2)⟩
section
variable {P : Program} {w : World} {K : PySem.W.Frag} {mg : Str → Option Value} {base : Heap} {Z : Ad}
end
end KA
namespace KA
open PySem PySem.Spec PyProof.Rows L2 DP
/-- a look that the hidden hand is as -/
structure TrueLk (L : Int) (steps : List Pr) (l : Lk) : Prop where
  word : WordOk l.1
  sz : Sized 270 l
  ex : ∃ x k m, l.2.1 = x + k * L ∧ IsMaxL (leads L steps x) m ∧ (l.1 = "at" → l.2.2 = m + k * L) ∧ (l.1 = "from" → l.2.2 ≤ m + k * L) ∧ (l.1 = "upto" → m + k * L ≤ l.2.2)
def spTrue (K : PySem.W.Frag) : Sp := fun vs H Q _ => ∃ (t g p : Addr) (n : Nat) (L : Int) (steps : List Pr), vs = [.ref t, .int L, .ref p] ∧ Tray H t g n ∧ n < 2 ^ 46 ∧ 0 < L ∧ L ≤ 10 ^ 30 ∧ LAt K H p (steps.map encP) ∧ StepsOk L steps ∧ p ≠ t ∧ p ≠ g ∧
  ∀ (H' : Hp) (r : V) (l : Lk), At H H' t g (n + 30) → Dp K H' r (encL l) → TrueLk L steps l → Q r H'
theorem lead_bound {L x m : Int} {steps : List Pr} (hL : 0 < L) (hLb : L.natAbs < 2 ^ 100) (hx0 : 0 ≤ x) (hx1 : x < L) (hs : StepsOk L steps) (hm : IsMaxL (leads L steps x) m) : m.natAbs < 2 ^ 260 := by
  obtain ⟨s, hs', e⟩ := List.mem_map.mp hm.1
  obtain ⟨s0, s1, s2⟩ := hs.2.2 s hs'
  have h1 : (x - s.1).natAbs < 2 ^ 101 := sub_lt (small_nat hx0 (Int.le_of_lt hx1) hLb) (small_nat s0 (Int.le_of_lt s1) hLb)
  have h2 : ((x - s.1) / L * L).natAbs < 2 ^ (102 + 100) := wide_lt (div_lt hL h1) hLb
  rw [← e]
  exact lt_up (add_lt s2 (lt_up h2 (by decide))) (by decide)
section
variable {P : Program} {w : World} {K : PySem.W.Frag} {mg : Str → Option Value} {base : Heap} {Z : Ad}
end
end KA
namespace KA
open PySem PySem.Spec PyProof.Rows L2 DP
def spKnown (K : PySem.W.Frag) : Sp := fun vs H Q _ => ∃ (t g : Addr) (n : Nat) (L most : Int), vs = [.ref t, .int L, .int most] ∧ Tray H t g n ∧ n < 2 ^ 44 ∧ 0 < L ∧ L ≤ 10 ^ 30 ∧ 0 ≤ most ∧ most ≤ 40 ∧
  ∀ (H' : Hp) (p : Addr) (ls : List Lk) (steps : List Pr), H p = none → At H H' t g (n + 2000) → LAt K H' p (ls.map encL) → (∀ l ∈ ls, TrueLk L steps l) → StepsOk L steps → (ls.length : Int) ≤ most → Q (.ref p) H'
def spLawSide (K : PySem.W.Frag) (sd : Str) : Sp := fun vs H Q _ => ∃ (v : V) (L x : Int) (ls : List Lk), vs = [.int L, v, .int x] ∧ Dp K H v (.list (ls.map encL)) ∧ 0 < L ∧ L.natAbs < 2 ^ 200 ∧ x.natAbs < 2 ^ 400 ∧ (∀ l ∈ ls, WordOk l.1 ∧ Sized 400 l) ∧ ls.length ≤ 100 ∧
  ∀ v H', Same H H' → Tells sd ls x L v → Q v H'
section
variable {P : Program} {w : World} {K : PySem.W.Frag} {mg : Str → Option Value} {base : Heap} {Z : Ad}
end
end KA
namespace KA
open PySem PySem.Spec PyProof.Rows L2 DP
/-- no list of it is long -/
def fewD : PyData → Bool
  | .list xs => decide (xs.length ≤ 1000) && fewDs xs
  | .tuple xs => decide (xs.length ≤ 1000) && fewDs xs
  | _ => true
where fewDs : List PyData → Bool
  | [] => true
  | x :: xs => fewD x && fewDs xs
def tyName : PyData → String
  | .none => "NoneType"
  | .bool _ => "bool"
  | .int _ => "int"
  | .str _ => "str"
  | .list _ => "list"
  | .tuple _ => "tuple"
  | .dict _ => "dict"
theorem ty_of {K : PySem.W.Frag} {H : Hp} {v : V} {d : PyData} (h : Dp K H v d) : TyX K H v (.type (tyName d)) := by
  cases h with
  | non => exact .base .non
  | bl b => exact .base (.bl b)
  | int i => exact .base (.int i)
  | str x => exact .base (.str x)
  | lst s a =>
    rcases s with (s | ⟨o, s⟩) | ⟨o, its, n, e, c, _⟩
    · exact .base (.lst s)
    · exact .base (.frz s)
    · exact .kList e c
  | tup s a =>
    rcases s with (s | ⟨o, s⟩) | ⟨o, its, n, e, c, _⟩
    · exact .base (.tup s)
    · exact .fTuple s
    · exact .kTuple e c
theorem isi {K : PySem.W.Frag} {H : Hp} {v : V} {d : PyData} {C : String} {b : Bool} {Q : VK} (h : Dp K H v d) (hk : kitB (tyName d) C = some b) (q : Q (.bl b) H) : rIsi K [v, .ty C] H Q :=
  ⟨v, .ty C, _, .type C, b, rfl, ClsV.ty C, ty_of h, kit_ty hk, q⟩
def spAlike (K : PySem.W.Frag) (n : Nat) : Sp := fun vs H Q _ => ∃ (v u : V) (d : PyData), vs = [v, u] ∧ Dp K H v d ∧ Dp K H u d ∧ fewD d = true ∧ d.depth < n ∧ Q (.bl true) H
theorem few_at : ∀ {ds : List PyData} {i : Nat} {d : PyData}, fewD.fewDs ds = true → ds[i]? = some d → fewD d = true
  | [], _, _, _, h => by simp at h
  | a :: r, 0, d, n, h => by
    rw [fewD.fewDs, Bool.and_eq_true] at n
    have e : a = d := Option.some.inj h
    subst e; exact n.1
  | a :: r, i + 1, d, n, h => by
    rw [fewD.fewDs, Bool.and_eq_true] at n
    exact few_at n.2 (by simpa using h)
theorem depth_at : ∀ {ds : List PyData} {i : Nat} {d : PyData}, ds[i]? = some d → d.depth ≤ PyData.depthAll ds
  | [], _, _, h => by simp at h
  | a :: r, 0, d, h => by
    have e : a = d := Option.some.inj h
    subst e; rw [PyData.depthAll]; omega
  | a :: r, i + 1, d, h => by
    have := depth_at (ds := r) (i := i) (d := d) (by simpa using h)
    rw [PyData.depthAll]; omega
theorem ix_any {K : PySem.W.Frag} {H : Hp} {p : Addr} {xs : List V} {i : Int} {x : V} {Q : VK} (s : SqL K H p xs ∨ SqT K H p xs) (h : atI xs i = some x) (q : Q x H) : rIx K (.ref p) (.int i) H Q := by
  rcases s with s | s
  · exact .inl ⟨p, xs, i, x, rfl, rfl, s, h, q⟩
  · exact .inr (.inl ⟨p, xs, i, x, rfl, rfl, s, h, q⟩)
section
variable {P : Program} {w : World} {K : PySem.W.Frag} {mg : Str → Option Value} {base : Heap} {Z : Ad}
/-- what the loop asks: the items alike, by the promise one level down -/
theorem ok_law_alike_of {k n : Nat} (T : Tx K w mg Z) (ih : FnOk P w K mg base CX0 k Z.a_law_alike Z.d_law_alike P_law_alike (spAlike K n)) : FnOk P w K mg base CX0 (k + 1) Z.a_law_alike Z.d_law_alike P_law_alike (spAlike K (n + 1)) := by
  refine T.F_law_alike.ok sclaw_alike (fun vs H Q E h => ?_) (fun cdv A outer s H vs Q E hr h => ?_)
  · obtain ⟨v, u, d, rfl, _⟩ := h
    rfl
  · obtain ⟨v, u, d, rfl, hv, hu, hf, hd, k⟩ := h
    -- the data's kinds: what the tests answer
    have ty := ty_of hu
    refine ⟨_, (C8.pss_cut (ps_if (pt_cmpR op_isN (pv 1) pe_non (nomark _)) (pss_one (ps_ret (pe_cmpR op_isN (pv 0) pe_non (nomark _)))) pss_nil)
      (C8.pss_cut (ps_if (pt_val (pe_callB (isiK (K := K)) (by rfl) T.b_isinstance (by decide +kernel) (pa_cons (pv 1) (pa_cons (pe_bltn (v := .ty "bool") (by rfl) T.b_bool (by decide +kernel) rfl) pa_nil)))) (pss_one (ps_ret (pe_and (pe_callB (isiK (K := K)) (by rfl) T.b_isinstance (by decide +kernel) (pa_cons (pv 0) (pa_cons (pe_bltn (v := .ty "bool") (by rfl) T.b_bool (by decide +kernel) rfl) pa_nil))) (pe_one (pe_cmpR op_eq (pv 0) (pv 1) (nomark _)))))) pss_nil)
      (C8.pss_cut (ps_if (pt_val (pe_callB (isiK (K := K)) (by rfl) T.b_isinstance (by decide +kernel) (pa_cons (pv 1) (pa_cons (pe_bltn (v := .ty "int") (by rfl) T.b_int (by decide +kernel) rfl) pa_nil)))) (pss_one (ps_ret (pe_and (pe_callB (isiK (K := K)) (by rfl) T.b_isinstance (by decide +kernel) (pa_cons (pv 0) (pa_cons (pe_bltn (v := .ty "int") (by rfl) T.b_int (by decide +kernel) rfl) pa_nil))) (pe_and (pe_not (pe_callB (isiK (K := K)) (by rfl) T.b_isinstance (by decide +kernel) (pa_cons (pv 0) (pa_cons (pe_bltn (v := .ty "bool") (by rfl) T.b_bool (by decide +kernel) rfl) pa_nil)))) (pe_one (pe_cmpR op_eq (pv 0) (pv 1) (nomark _))))))) pss_nil)
      (C8.pss_cut (ps_if (pt_val (pe_callB (isiK (K := K)) (by rfl) T.b_isinstance (by decide +kernel) (pa_cons (pv 1) (pa_cons (pe_bltn (v := .ty "str") (by rfl) T.b_str (by decide +kernel) rfl) pa_nil)))) (pss_one (ps_ret (pe_and (pe_callB (isiK (K := K)) (by rfl) T.b_isinstance (by decide +kernel) (pa_cons (pv 0) (pa_cons (pe_bltn (v := .ty "str") (by rfl) T.b_str (by decide +kernel) rfl) pa_nil))) (pe_one (pe_cmpR op_eq (pv 0) (pv 1) (nomark _)))))) pss_nil)
      (C8.pss_cut (ps_if (PW.pt (pw_or (pt_cmpR (neDK (K := K) hr.units) (pe_callB (isiK (K := K)) (by rfl) T.b_isinstance (by decide +kernel) (pa_cons (pv 0) (pa_cons (pe_bltn (v := .ty "list") (by rfl) T.b_list (by decide +kernel) rfl) pa_nil))) (pe_callB (isiK (K := K)) (by rfl) T.b_isinstance (by decide +kernel) (pa_cons (pv 1) (pa_cons (pe_bltn (v := .ty "list") (by rfl) T.b_list (by decide +kernel) rfl) pa_nil))) (nomark _)) (pw_or1 (pt_cmpR (neDK (K := K) hr.units) (pe_callB (isiK (K := K)) (by rfl) T.b_isinstance (by decide +kernel) (pa_cons (pv 0) (pa_cons (pe_bltn (v := .ty "tuple") (by rfl) T.b_tuple (by decide +kernel) rfl) pa_nil))) (pe_callB (isiK (K := K)) (by rfl) T.b_isinstance (by decide +kernel) (pa_cons (pv 1) (pa_cons (pe_bltn (v := .ty "tuple") (by rfl) T.b_tuple (by decide +kernel) rfl) pa_nil))) (nomark _))))) (pss_one (ps_ret pe_bl)) pss_nil)
      (C8.pss_cut (ps_if (pt_cmpR op_ne (pe_callB (lenK (K := K)) (by rfl) T.b_len (by decide +kernel) (pa_cons (pv 0) pa_nil)) (pe_callB (lenK (K := K)) (by rfl) T.b_len (by decide +kernel) (pa_cons (pv 1) pa_nil)) (nomark _)) (pss_one (ps_ret pe_bl)) pss_nil)
      (pss_cons (ps_for PassesOwn.never rfl (pi_range1 (by rfl) T.b_range (pa_cons (pe_callB (lenK (K := K)) (by rfl) T.b_len (by decide +kernel) (pa_cons (pv 1) pa_nil)) pa_nil)) (pg_name (i := 2) sclaw_alike.nd rfl (Or.inl rfl)) (pss_one (ps_if (pt_not (pt_val (pe_call ih hr (by rfl) T.g_law_alike T.F_law_alike.kp T.bb_law_alike .nil pass0 (pa_cons (pe_ix ix_seq (pv 0) (pv 2) (fun _ _ => rfl)) (pa_cons (pe_ix ix_seq (pv 1) (pv 2) (fun _ _ => rfl)) pa_nil))))) (pss_one (ps_ret pe_bl)) pss_nil)))
      (pss_one (ps_ret pe_bl))))))))), ?_⟩
    refine ⟨fun σ' H' => σ' = [some v, some u, none] ∧ H' = H ∧ d ≠ .none, ?_, ?_⟩
    · refine ⟨_, rfl, rfl, _, rfl, ?_⟩
      cases hu with
      | non =>
        cases hv
        exact iteT ⟨_, rfl, rfl, k⟩
      | bl b => exact iteF ⟨rfl, rfl, fun e => by cases e⟩
      | int b => exact iteF ⟨rfl, rfl, fun e => by cases e⟩
      | str b => exact iteF ⟨rfl, rfl, fun e => by cases e⟩
      | lst s a => exact iteF ⟨rfl, rfl, fun e => by cases e⟩
      | tup s a => exact iteF ⟨rfl, rfl, fun e => by cases e⟩
    rintro σ1 H1 ⟨rfl, rfl, n1⟩
    refine ⟨fun σ' H' => σ' = [some v, some u, none] ∧ H' = H1 ∧ ∀ b, d ≠ .bool b, ?_, ?_⟩
    · cases hu with
      | non => exact absurd rfl n1
      | bl b =>
        have hv' := hv
        cases hv
        exact ⟨_, rfl, ⟨_, _, _, _, true, rfl, .ty _, ty_of (.bl b), kit_ty (by simp only [tyName]; decide +kernel), _, rfl, iteT ⟨_, rfl, ⟨_, _, _, _, true, rfl, .ty _, ty_of hv', kit_ty (by simp only [tyName]; decide +kernel), _, rfl, iteT ⟨_, rfl, _, rfl, rfl, (by simpa using k)⟩⟩⟩⟩⟩
      | int b => exact ⟨_, rfl, ⟨_, _, _, _, false, rfl, .ty _, ty_of (.int b), kit_ty (by simp only [tyName]; decide +kernel), _, rfl, iteF ⟨rfl, rfl, fun _ e => by cases e⟩⟩⟩
      | str b => exact ⟨_, rfl, ⟨_, _, _, _, false, rfl, .ty _, ty_of (.str b), kit_ty (by simp only [tyName]; decide +kernel), _, rfl, iteF ⟨rfl, rfl, fun _ e => by cases e⟩⟩⟩
      | lst s a => exact ⟨_, rfl, ⟨_, _, _, _, false, rfl, .ty _, ty_of (.lst s a), kit_ty (by simp only [tyName]; decide +kernel), _, rfl, iteF ⟨rfl, rfl, fun _ e => by cases e⟩⟩⟩
      | tup s a => exact ⟨_, rfl, ⟨_, _, _, _, false, rfl, .ty _, ty_of (.tup s a), kit_ty (by simp only [tyName]; decide +kernel), _, rfl, iteF ⟨rfl, rfl, fun _ e => by cases e⟩⟩⟩
    rintro σ2 H2 ⟨rfl, rfl, n2⟩
    refine ⟨fun σ' H' => σ' = [some v, some u, none] ∧ H' = H2 ∧ ∀ b, d ≠ .int b, ?_, ?_⟩
    · cases hu with
      | non => exact absurd rfl n1
      | bl b => exact absurd rfl (n2 b)
      | int b =>
        have hv' := hv
        cases hv
        exact ⟨_, rfl, ⟨_, _, _, _, true, rfl, .ty _, ty_of (.int b), kit_ty (by simp only [tyName]; decide +kernel), _, rfl, iteT ⟨_, rfl, ⟨_, _, _, _, true, rfl, .ty _, ty_of hv', kit_ty (by simp only [tyName]; decide +kernel), _, rfl, iteT ⟨_, rfl, ⟨_, _, _, _, false, rfl, .ty _, ty_of hv', kit_ty (by simp only [tyName]; decide +kernel), _, rfl, _, rfl, iteT ⟨_, rfl, _, rfl, rfl, (by simpa using k)⟩⟩⟩⟩⟩⟩⟩
      | str b => exact ⟨_, rfl, ⟨_, _, _, _, false, rfl, .ty _, ty_of (.str b), kit_ty (by simp only [tyName]; decide +kernel), _, rfl, iteF ⟨rfl, rfl, fun _ e => by cases e⟩⟩⟩
      | lst s a => exact ⟨_, rfl, ⟨_, _, _, _, false, rfl, .ty _, ty_of (.lst s a), kit_ty (by simp only [tyName]; decide +kernel), _, rfl, iteF ⟨rfl, rfl, fun _ e => by cases e⟩⟩⟩
      | tup s a => exact ⟨_, rfl, ⟨_, _, _, _, false, rfl, .ty _, ty_of (.tup s a), kit_ty (by simp only [tyName]; decide +kernel), _, rfl, iteF ⟨rfl, rfl, fun _ e => by cases e⟩⟩⟩
    rintro σ3 H3 ⟨rfl, rfl, n3⟩
    refine ⟨fun σ' H' => σ' = [some v, some u, none] ∧ H' = H3 ∧ ∀ b, d ≠ .str b, ?_, ?_⟩
    · cases hu with
      | non => exact absurd rfl n1
      | bl b => exact absurd rfl (n2 b)
      | int b => exact absurd rfl (n3 b)
      | str b =>
        have hv' := hv
        cases hv
        exact ⟨_, rfl, ⟨_, _, _, _, true, rfl, .ty _, ty_of (.str b), kit_ty (by simp only [tyName]; decide +kernel), _, rfl, iteT ⟨_, rfl, ⟨_, _, _, _, true, rfl, .ty _, ty_of hv', kit_ty (by simp only [tyName]; decide +kernel), _, rfl, iteT ⟨_, rfl, _, rfl, rfl, (by simpa using k)⟩⟩⟩⟩⟩
      | lst s a => exact ⟨_, rfl, ⟨_, _, _, _, false, rfl, .ty _, ty_of (.lst s a), kit_ty (by simp only [tyName]; decide +kernel), _, rfl, iteF ⟨rfl, rfl, fun _ e => by cases e⟩⟩⟩
      | tup s a => exact ⟨_, rfl, ⟨_, _, _, _, false, rfl, .ty _, ty_of (.tup s a), kit_ty (by simp only [tyName]; decide +kernel), _, rfl, iteF ⟨rfl, rfl, fun _ e => by cases e⟩⟩⟩
    rintro σ4 H4 ⟨rfl, rfl, n4⟩
    -- a list or a tuple
    obtain ⟨p, q, xs, ys, ds, ev, eu, sx, sy, hx, hy, hl, hfw, hdp, hty⟩ : ∃ (p q : Addr) (xs ys : List V) (ds : List PyData), v = .ref p ∧ u = .ref q ∧ (SqL K H4 p xs ∨ SqT K H4 p xs) ∧ (SqL K H4 q ys ∨ SqT K H4 q ys) ∧ DpAll K H4 xs ds ∧ DpAll K H4 ys ds ∧ ds.length ≤ 1000 ∧ fewD.fewDs ds = true ∧ PyData.depthAll ds < n ∧ (tyName d = "list" ∨ tyName d = "tuple") := by
      cases hu with
      | non => exact absurd rfl n1
      | bl b => exact absurd rfl (n2 b)
      | int b => exact absurd rfl (n3 b)
      | str b => exact absurd rfl (n4 b)
      | lst s a =>
        cases hv with
        | lst s' a' =>
          rw [fewD, Bool.and_eq_true, decide_eq_true_eq] at hf
          rw [PyData.depth] at hd
          exact ⟨_, _, _, _, _, rfl, rfl, .inl s', .inl s, a', a, hf.1, hf.2, by omega, .inl rfl⟩
      | tup s a =>
        cases hv with
        | tup s' a' =>
          rw [fewD, Bool.and_eq_true, decide_eq_true_eq] at hf
          rw [PyData.depth] at hd
          exact ⟨_, _, _, _, _, rfl, rfl, .inr s', .inr s, a', a, hf.1, hf.2, by omega, .inr rfl⟩
    have lx := dpAll_len hx
    have ly := dpAll_len hy
    refine ⟨fun σ' H' => σ' = [some v, some u, none] ∧ H' = H4, ?_, ?_⟩
    · obtain ⟨b1, e1⟩ : ∃ b, kitB (tyName d) "list" = some b := by
        rcases hty with e | e <;> rw [e]
        · exact ⟨true, by decide +kernel⟩
        · exact ⟨false, by decide +kernel⟩
      obtain ⟨b2, e2⟩ : ∃ b, kitB (tyName d) "tuple" = some b := by
        rcases hty with e | e <;> rw [e]
        · exact ⟨false, by decide +kernel⟩
        · exact ⟨true, by decide +kernel⟩
      refine ⟨_, rfl, ⟨_, _, _, _, _, rfl, .ty _, ty_of hv, kit_ty e1, _, rfl, ⟨_, _, _, _, _, rfl, .ty _, ty_of hu, kit_ty e1, .bool b1, .bool b1, .bl _, .bl _, rfl, rfl, _, rfl, ?_⟩⟩⟩
      have d1 : (!PyData.eqv (.bool b1) (.bool b1)) = false := by cases b1 <;> decide +kernel
      rw [d1]
      refine iteF ⟨_, rfl, ⟨_, _, _, _, _, rfl, .ty _, ty_of hv, kit_ty e2, _, rfl, ⟨_, _, _, _, _, rfl, .ty _, ty_of hu, kit_ty e2, .bool b2, .bool b2, .bl _, .bl _, rfl, rfl, _, rfl, ?_⟩⟩⟩
      have d2 : (!PyData.eqv (.bool b2) (.bool b2)) = false := by cases b2 <;> decide +kernel
      rw [d2]
      exact iteF ⟨rfl, rfl⟩
    rintro σ5 H5 ⟨rfl, rfl⟩
    refine ⟨fun σ' H' => σ' = [some v, some u, none] ∧ H' = H5, ?_, ?_⟩
    · subst ev eu
      refine ⟨_, rfl, p, xs, rfl, sx, _, rfl, q, ys, rfl, sy, rfl, _, rfl, ?_⟩
      have d1 : (!decide (V.int (xs.length : Int) = V.int (ys.length : Int))) = false := by rw [lx, ly]; simp
      rw [d1]
      exact iteF ⟨rfl, rfl⟩
    rintro σ6 H6 ⟨rfl, rfl⟩
    subst ev eu
    refine ⟨_, rfl, q, ys, rfl, sy, (ys.length : Int), rfl, ?_, ?_, ?_⟩
    · exact Int.le_trans (by decide) (Int.natCast_nonneg _)
    · have : (ys.length : Int) ≤ 1000 := by rw [ly]; exact_mod_cast hl
      exact Int.lt_of_le_of_lt this (by decide)
    refine for_range (n := (ys.length : Int).toNat) (fun i σ' H' => ∃ w0, σ' = [some (.ref p), some (.ref q), w0] ∧ H' = H6) ⟨none, rfl, rfl⟩ ?_ ?_
    · rintro i σ' H' hi ⟨w0, rfl, rfl⟩
      have hi' : i < ds.length := by rw [← ly]; simpa using hi
      obtain ⟨e, he⟩ : ∃ e, ds[i]? = some e := ⟨ds[i], List.getElem?_eq_getElem hi'⟩
      obtain ⟨x, hxi, hxe⟩ := dpAll_get' hx he
      obtain ⟨y, hyi, hye⟩ := dpAll_get' hy he
      refine ⟨_, rfl, _, rfl, ?_⟩
      refine ix_any (K := K) sx (at_of (by simp) hxi) ?_
      refine ⟨_, rfl, _, rfl, ?_⟩
      refine ix_any (K := K) sy (at_of (by simp) hyi) ?_
      exact ⟨x, y, e, rfl, hxe, hye, few_at hfw he, Nat.lt_of_le_of_lt (depth_at he) hdp, _, rfl, iteF ⟨_, rfl, rfl⟩⟩
    · rintro σ' H' ⟨w0, rfl, rfl⟩
      exact k
theorem ok_law_alike0 (T : Tx K w mg Z) : FnOk P w K mg base CX0 1 Z.a_law_alike Z.d_law_alike P_law_alike (spAlike K 0) := by
  refine T.F_law_alike.ok sclaw_alike (fun vs H Q E h => ?_) (fun cdv A outer s H vs Q E hr h => ?_)
  · obtain ⟨v, u, d, rfl, _⟩ := h
    rfl
  · obtain ⟨v, u, d, rfl, hv, hu, hf, hd, k⟩ := h
    exact absurd hd (Nat.not_lt_zero _)
theorem ok_law_alike (T : Tx K w mg Z) : ∀ n, FnOk P w K mg base CX0 (n + 1) Z.a_law_alike Z.d_law_alike P_law_alike (spAlike K n)
  | 0 => ok_law_alike0 T
  | n + 1 => ok_law_alike_of T (ok_law_alike T n)
end
end KA
namespace KA
open PySem PySem.Spec PyProof.Rows L2 DP
/-! ### the hidden hand -/
theorem leads_shift {L x k : Int} (hL : 0 < L) (steps : List Pr) : leads L steps (x + k * L) = (leads L steps x).map (· + k * L) := by
  unfold leads
  rw [List.map_map]
  refine List.map_congr_left fun s _ => ?_
  show s.2 + (x + k * L - s.1) / L * L = s.2 + (x - s.1) / L * L + k * L
  have e : x + k * L - s.1 = (x - s.1) + k * L := by omega
  rw [e, Int.add_mul_ediv_right _ _ (by omega), Int.add_mul]
  omega
theorem max_shift {L x k m : Int} (hL : 0 < L) {steps : List Pr} (h : IsMaxL (leads L steps x) m) : IsMaxL (leads L steps (x + k * L)) (m + k * L) := by
  rw [leads_shift hL]
  refine ⟨List.mem_map.mpr ⟨m, h.1, rfl⟩, fun y hy => ?_⟩
  obtain ⟨z, hz, e⟩ := List.mem_map.mp hy
  have := h.2 z hz
  have e' : z + k * L = y := e
  omega
theorem max_mono {L x x' m m' : Int} (hL : 0 < L) {steps : List Pr} (hx : x ≤ x') (h : IsMaxL (leads L steps x) m) (h' : IsMaxL (leads L steps x') m') : m ≤ m' := by
  obtain ⟨s, hs, e⟩ := List.mem_map.mp h.1
  have h1 := h'.2 _ (List.mem_map.mpr ⟨s, hs, rfl⟩)
  have h2 : (x - s.1) / L ≤ (x' - s.1) / L := Int.ediv_le_ediv hL (by omega)
  have h3 := Int.mul_le_mul_of_nonneg_right h2 (Int.le_of_lt hL)
  omega
theorem max_one {l : List Int} {m m' : Int} (h : IsMaxL l m) (h' : IsMaxL l m') : m = m' := by
  have := h.2 _ h'.1
  have := h'.2 _ h.1
  omega
/-- what a true look says, wherever it stands -/
def Says (L : Int) (steps : List Pr) (l : Lk) : Prop := ∃ x k m, l.2.1 = x + k * L ∧ IsMaxL (leads L steps x) m ∧ (l.1 = "at" → l.2.2 = m + k * L) ∧ (l.1 = "from" → l.2.2 ≤ m + k * L) ∧ (l.1 = "upto" → m + k * L ≤ l.2.2)
theorem says_home {L : Int} {steps : List Pr} {l : Lk} (h : Says L steps l) : Says L steps (home L l) := by
  obtain ⟨x, k, m, h1, h2, h3, h4, h5⟩ := h
  refine ⟨x, k - l.2.1 / L, m, ?_, h2, fun e => ?_, fun e => ?_, fun e => ?_⟩
  · show l.2.1 - l.2.1 / L * L = x + (k - l.2.1 / L) * L
    rw [Int.sub_mul]; omega
  · have := h3 e
    show l.2.2 - l.2.1 / L * L = m + (k - l.2.1 / L) * L
    rw [Int.sub_mul]; omega
  · have := h4 e
    show l.2.2 - l.2.1 / L * L ≤ m + (k - l.2.1 / L) * L
    rw [Int.sub_mul]; omega
  · have := h5 e
    show m + (k - l.2.1 / L) * L ≤ l.2.2 - l.2.1 / L * L
    rw [Int.sub_mul]; omega
theorem no_far {L : Int} (hL : 0 < L) {steps : List Pr} {a b : Lk} (ha : Says L steps a) (hb : Says L steps b) : tooFar a b L = false := by
  unfold tooFar
  cases c1 : onSide "slow" a.1 with
  | false => rfl
  | true =>
    cases c2 : onSide "fast" b.1 with
    | false => rfl
    | true =>
      rw [Bool.true_and, Bool.true_and, decide_eq_false_iff_not, plc_slow]
      obtain ⟨x, k, m, h1, h2, h3, h4, h5⟩ := ha
      obtain ⟨x', k', m', h1', h2', h3', h4', h5'⟩ := hb
      have low : a.2.2 ≤ m + k * L := by
        rcases side_low c1 with e | e
        · exact Int.le_of_eq (h3 e)
        · exact h4 e
      have high : m' + k' * L ≤ b.2.2 := by
        rcases side_high c2 with e | e
        · exact Int.le_of_eq (h3' e).symm
        · exact h5' e
      have hj : (b.2.1 - a.2.1) / L * L ≤ b.2.1 - a.2.1 := by
        have := Int.mul_ediv_add_emod (b.2.1 - a.2.1) L
        have h0 := Int.emod_nonneg (b.2.1 - a.2.1) (show L ≠ 0 by omega)
        rw [Int.mul_comm] at this
        omega
      generalize (b.2.1 - a.2.1) / L = j at hj ⊢
      have hx : x + (k + j - k') * L ≤ x' := by
        rw [Int.sub_mul, Int.add_mul]; omega
      have := max_mono hL hx (max_shift hL h2) h2'
      rw [Int.sub_mul, Int.add_mul] at this
      omega
theorem no_clash {L : Int} (hL : 0 < L) {steps : List Pr} {a b : Lk} (ha : Says L steps a) (hb : Says L steps b) : clashB a b L = false := by
  unfold clashB
  rw [no_far hL ha hb, no_far hL hb ha]; rfl
theorem TrueLk.says {L : Int} {steps : List Pr} {l : Lk} (h : TrueLk L steps l) : Says L steps l := h.ex
/-! ### what a Dark tells and what the looks tell -/
/-- the best of the looks is the best of them brought home -/
def spMade (Z : Ad) (K : PySem.W.Frag) : Sp := fun vs H Q _ => ∃ (v : V) (L : Int) (ls : List Lk), vs = [.int L, v] ∧ Dp K H v (.list (ls.map encL)) ∧ 0 < L ∧ L.natAbs < 2 ^ 200 ∧ (∀ l ∈ ls, WordOk l.1 ∧ Sized 300 l) ∧ (∀ a ∈ ls, ∀ b ∈ ls, clashB a b L = false) ∧ ls.length ≤ 58 ∧
  ∀ (H' : Hp) (d : Addr), H d = none → Same H H' → DarkAt Z K H' d L (ls.foldl (heard L) []) → (∀ la dx, H' d = some (.ins Z.C dx (df L la)) → H la = none) → Q (.ref d) H'
def spSpot (K : PySem.W.Frag) : Sp := fun vs H Q _ => ∃ (t g p : Addr) (n : Nat) (L : Int) (ls : List Lk), vs = [.ref t, .int L, .ref p] ∧ Tray H t g n ∧ n < 2 ^ 44 ∧ 0 < L ∧ L ≤ 10 ^ 30 ∧ LAt K H p (ls.map encL) ∧ p ≠ t ∧ p ≠ g ∧ (∀ l ∈ ls, WordOk l.1 ∧ Sized 270 l) ∧ ls.length ≤ 100 ∧
  ∀ (H' : Hp) (r : Int), At H H' t g (n + 20) → r.natAbs < 2 ^ 280 → Q (.int r) H'
section
variable {P : Program} {w : World} {K : PySem.W.Frag} {mg : Str → Option Value} {base : Heap} {Z : Ad}
end
end KA
namespace KA
open PySem PySem.Spec PyProof.Rows L2 DP
theorem tells_home {L : Int} (hL : 0 < L) {sd : Str} {ls hs : List Lk} {x : Int} {v u : V} (hh : ∀ o, o ∈ hs ↔ ∃ l ∈ ls, o = home L l) (h : Tells sd ls x L v) (h' : Tells sd hs x L u) : u = v := by
  rcases h with ⟨e, rfl⟩ | ⟨m, rfl, b⟩
  · rcases h' with ⟨_, rfl⟩ | ⟨m, rfl, b⟩
    · rfl
    · obtain ⟨⟨l, hl, _⟩, _⟩ := b
      rw [(side_nil hh).mpr e] at hl; cases hl
  · rcases h' with ⟨e, rfl⟩ | ⟨m', rfl, b'⟩
    · obtain ⟨⟨l, hl, _⟩, _⟩ := b
      rw [(side_nil hh).mp e] at hl; cases hl
    · rw [best_one b (best_home hL hh b')]
theorem DarkAt.keep {Z : Ad} {K : PySem.W.Frag} {H H' : Hp} {t g d : Addr} {n : Nat} {L : Int} {ls : List Lk} (D : DarkAt Z K H d L ls) (T : Tray H t g n) (k : Keep t g H H') (hla : ∀ la dx, H d = some (.ins Z.C dx (df L la)) → la ≠ t ∧ la ≠ g) :
    DarkAt Z K H' d L ls ∧ ∀ la dx, H' d = some (.ins Z.C dx (df L la)) → la ≠ t ∧ la ≠ g := by
  obtain ⟨dx, la, vs, h1, h2, h3⟩ := D.ex
  obtain ⟨a1, a2⟩ := hla la dx h1
  have hd : d ≠ t ∧ d ≠ g := by
    obtain ⟨⟨gs, l, f, c, e1, e2, r⟩, hne⟩ := T
    refine ⟨?_, ?_⟩ <;> rintro rfl
    · rw [h1] at e1; cases e1
    · rw [h1] at e2; cases e2
  have h1' := k _ _ h1 hd.1 hd.2
  refine ⟨⟨⟨dx, la, vs, h1', k _ _ h2 a1 a2, dpAll_tups (Keep.tups T k) _ _ (noLs_map noL_encL ls) h3⟩, D.pos, D.big, D.ok, D.len⟩, fun la' dx' e => ?_⟩
  rw [h1'] at e
  rw [← df_inj e]
  exact ⟨a1, a2⟩
/-- what a Dark tells, told by the looks that it heard -/
theorem tells_ls {L : Int} (hL : 0 < L) {sd : Str} {ls hs : List Lk} {x : Int} {v : V} (hh : ∀ o, o ∈ hs ↔ ∃ l ∈ ls, o = home L l) (h : Tells sd hs x L v) : Tells sd ls x L v := by
  rcases h with ⟨e, rfl⟩ | ⟨m, rfl, b⟩
  · exact .inl ⟨(side_nil hh).mp e, rfl⟩
  · exact .inr ⟨m, rfl, best_home hL hh b⟩
def vmap (φ : Int → Int) : V → V | .int m => .int (φ m) | _ => .non
def Flat (v : V) : Prop := v = .non ∨ ∃ m, v = .int m
theorem tells_flat' {sd : Str} {ls : List Lk} {x L : Int} {v : V} (h : Tells sd ls x L v) : Flat v := by
  rcases h with ⟨_, rfl⟩ | ⟨m, rfl, _⟩
  · exact .inl rfl
  · exact .inr ⟨m, rfl⟩
theorem flat_map {v : V} (h : Flat v) (φ : Int → Int) : Flat (vmap φ v) := by
  rcases h with rfl | ⟨m, rfl⟩
  · exact .inl rfl
  · exact .inr ⟨_, rfl⟩
theorem flat_dp {v : V} (h : Flat v) : ∃ d, fewD d = true ∧ d.depth = 0 ∧ ∀ (K : PySem.W.Frag) (H : Hp), Dp K H v d := by
  rcases h with rfl | ⟨m, rfl⟩
  · exact ⟨.none, rfl, rfl, fun K H => .non⟩
  · exact ⟨.int m, rfl, rfl, fun K H => .int m⟩
/-- looks changed, places changed: what is told is changed -/
theorem tells_map {sd sd' : Str} {f : Lk → Lk} {φ : Int → Int} {ls : List Lk} {x x' L L' : Int} {v : V} (hside : ∀ l ∈ ls, onSide sd' (f l).1 = onSide sd l.1) (hplc : ∀ l ∈ ls, plc sd' (f l) x' L' = φ (plc sd l x L))
    (hmono : ∀ a b, (if sd = "slow" then a ≤ b else b ≤ a) → if sd' = "slow" then φ a ≤ φ b else φ b ≤ φ a) (h : Tells sd ls x L v) : Tells sd' (ls.map f) x' L' (vmap φ v) := by
  rcases h with ⟨e, rfl⟩ | ⟨m, rfl, ⟨l, hl, em⟩, hb⟩
  · refine .inl ⟨List.eq_nil_iff_forall_not_mem.mpr fun o ho => ?_, rfl⟩
    obtain ⟨h1, h2⟩ := mem_side.mp ho
    obtain ⟨l, hl, rfl⟩ := List.mem_map.mp h1
    rw [hside l hl] at h2
    have : l ∈ sideOf sd ls := mem_side.mpr ⟨hl, h2⟩
    rw [e] at this; cases this
  · obtain ⟨h1, h2⟩ := mem_side.mp hl
    refine .inr ⟨φ m, rfl, ⟨f l, mem_side.mpr ⟨List.mem_map.mpr ⟨l, h1, rfl⟩, by rw [hside l h1]; exact h2⟩, by rw [hplc l h1, em]⟩, fun o ho => ?_⟩
    obtain ⟨g1, g2⟩ := mem_side.mp ho
    obtain ⟨q, hq, rfl⟩ := List.mem_map.mp g1
    rw [hside q hq] at g2
    have h3 := hb q (mem_side.mpr ⟨hq, g2⟩)
    rw [hplc q hq]
    refine hmono _ _ ?_
    split at h3
    · rw [if_pos (by assumption)]; exact h3
    · rw [if_neg (by assumption)]; exact h3
theorem far_map {f : Lk → Lk} {L L' : Int} {a b : Lk} (h1 : onSide "slow" (f a).1 = onSide "slow" a.1) (h2 : onSide "fast" (f b).1 = onSide "fast" b.1) (h3 : (f b).2.2 < plc "slow" (f a) (f b).2.1 L' ↔ b.2.2 < plc "slow" a b.2.1 L) : tooFar (f a) (f b) L' = tooFar a b L := by
  unfold tooFar
  rw [h1, h2]
  congr 1
  rw [decide_eq_decide]
  exact h3
/-- moved -/
def mv (off : Int) (l : Lk) : Lk := (l.1, l.2.1 + off, l.2.2 + off)
theorem plc_mv (sd : Str) (off : Int) (l : Lk) (x L : Int) : plc sd (mv off l) (x + off) L = plc sd l x L + off := by
  unfold plc
  split
  · show l.2.2 + off + (x + off - (l.2.1 + off)) / L * L = l.2.2 + (x - l.2.1) / L * L + off
    have e : x + off - (l.2.1 + off) = x - l.2.1 := by omega
    rw [e]; omega
  · show l.2.2 + off - (l.2.1 + off - (x + off)) / L * L = l.2.2 - (l.2.1 - x) / L * L + off
    have e : l.2.1 + off - (x + off) = l.2.1 - x := by omega
    rw [e]; omega
theorem far_mv (off : Int) (a b : Lk) (L : Int) : tooFar (mv off a) (mv off b) L = tooFar a b L := by
  refine far_map rfl rfl ?_
  show b.2.2 + off < plc "slow" (mv off a) (b.2.1 + off) L ↔ _
  rw [plc_mv]; omega
theorem clash_mv (off : Int) (a b : Lk) (L : Int) : clashB (mv off a) (mv off b) L = clashB a b L := by
  unfold clashB
  rw [far_mv, far_mv]
/-- so many times -/
def gr (m : Int) (l : Lk) : Lk := (l.1, l.2.1 * m, l.2.2 * m)
theorem div_gr {a m r L : Int} (hm : 0 < m) (hL : 0 < L) (h0 : 0 ≤ r) (h1 : r < m) : (a * m + r) / (L * m) = a / L := by
  have e : (a * m + r) / m = a := by
    rw [Int.add_comm, Int.add_mul_ediv_right _ _ (by omega), Int.ediv_eq_zero_of_lt h0 h1, Int.zero_add]
  have e2 : (a * m + r) / (m * L) = (a * m + r) / m / L := (Int.ediv_ediv_of_nonneg (Int.le_of_lt hm)).symm
  rw [Int.mul_comm L m, e2, e]
theorem plc_gr_slow {m r L : Int} (hm : 0 < m) (hL : 0 < L) (h0 : 0 ≤ r) (h1 : r < m) (l : Lk) (x : Int) : plc "slow" (gr m l) (x * m + r) (L * m) = plc "slow" l x L * m := by
  rw [plc_slow, plc_slow]
  show l.2.2 * m + (x * m + r - l.2.1 * m) / (L * m) * (L * m) = (l.2.2 + (x - l.2.1) / L * L) * m
  have e : x * m + r - l.2.1 * m = (x - l.2.1) * m + r := by rw [Int.sub_mul]; omega
  rw [e, div_gr hm hL h0 h1, Int.add_mul, Int.mul_assoc]
theorem plc_gr_fast {m r L : Int} (hm : 0 < m) (hL : 0 < L) (h0 : 0 ≤ r) (h1 : r < m) (l : Lk) (x : Int) : plc "fast" (gr m l) (x * m - r) (L * m) = plc "fast" l x L * m := by
  rw [plc_fast, plc_fast]
  show l.2.2 * m - (l.2.1 * m - (x * m - r)) / (L * m) * (L * m) = (l.2.2 - (l.2.1 - x) / L * L) * m
  have e : l.2.1 * m - (x * m - r) = (l.2.1 - x) * m + r := by rw [Int.sub_mul]; omega
  rw [e, div_gr hm hL h0 h1, Int.sub_mul, Int.mul_assoc]
theorem far_gr {m L : Int} (hm : 0 < m) (hL : 0 < L) (a b : Lk) : tooFar (gr m a) (gr m b) (L * m) = tooFar a b L := by
  refine far_map rfl rfl ?_
  show b.2.2 * m < plc "slow" (gr m a) (b.2.1 * m) (L * m) ↔ _
  have e := plc_gr_slow hm hL (Int.le_refl 0) hm a b.2.1
  rw [Int.add_zero] at e
  rw [e]
  exact Int.mul_lt_mul_right hm
theorem clash_gr {m L : Int} (hm : 0 < m) (hL : 0 < L) (a b : Lk) : clashB (gr m a) (gr m b) (L * m) = clashB a b L := by
  unfold clashB
  rw [far_gr hm hL, far_gr hm hL]
/-- the other way about -/
def sw (x : Str) : Str := if x = "from" then "upto" else if x = "upto" then "from" else "at"
def ot (l : Lk) : Lk := (sw l.1, 0 - l.2.1, 0 - l.2.2)
theorem sw_ok {x : Str} (h : WordOk x) : WordOk (sw x) ∧ onSide "slow" (sw x) = onSide "fast" x ∧ onSide "fast" (sw x) = onSide "slow" x := by
  rcases h with rfl | rfl | rfl <;> exact ⟨by unfold WordOk; decide +kernel, by decide +kernel, by decide +kernel⟩
theorem plc_ot_slow (l : Lk) (x L : Int) : plc "slow" (ot l) (0 - x) L = 0 - plc "fast" l x L := by
  rw [plc_slow, plc_fast]
  show 0 - l.2.2 + (0 - x - (0 - l.2.1)) / L * L = 0 - (l.2.2 - (l.2.1 - x) / L * L)
  have e : 0 - x - (0 - l.2.1) = l.2.1 - x := by omega
  rw [e]; omega
theorem plc_ot_fast (l : Lk) (x L : Int) : plc "fast" (ot l) (0 - x) L = 0 - plc "slow" l x L := by
  rw [plc_slow, plc_fast]
  show 0 - l.2.2 - (0 - l.2.1 - (0 - x)) / L * L = 0 - (l.2.2 + (x - l.2.1) / L * L)
  have e : 0 - l.2.1 - (0 - x) = x - l.2.1 := by omega
  rw [e]; omega
theorem far_ot {a b : Lk} (ha : WordOk a.1) (hb : WordOk b.1) (L : Int) : tooFar (ot a) (ot b) L = tooFar b a L := by
  unfold tooFar
  have e1 : onSide "slow" (ot a).1 = onSide "fast" a.1 := (sw_ok ha).2.1
  have e2 : onSide "fast" (ot b).1 = onSide "slow" b.1 := (sw_ok hb).2.2
  rw [e1, e2, Bool.and_comm (onSide "fast" a.1)]
  congr 1
  rw [decide_eq_decide]
  show 0 - b.2.2 < plc "slow" (ot a) (0 - b.2.1) L ↔ a.2.2 < plc "slow" b a.2.1 L
  rw [plc_ot_slow, plc_fast, plc_slow]
  omega
theorem clash_ot {a b : Lk} (ha : WordOk a.1) (hb : WordOk b.1) (L : Int) : clashB (ot a) (ot b) L = clashB a b L := by
  unfold clashB
  rw [far_ot ha hb, far_ot hb ha, Bool.or_comm]
/-- may -/
def mayB (L : Int) (hs : List Lk) (l : Lk) : Bool := !hs.any fun o => clashB (home L l) o L
theorem may_ls {L : Int} (hL : 0 < L) {ls hs : List Lk} (hh : ∀ o, o ∈ hs ↔ ∃ l ∈ ls, o = home L l) (l : Lk) : mayB L hs l = !ls.any fun q => clashB l q L := by
  unfold mayB
  congr 1
  rw [Bool.eq_iff_iff, List.any_eq_true, List.any_eq_true]
  constructor
  · rintro ⟨o, ho, e⟩
    obtain ⟨q, hq, rfl⟩ := (hh o).mp ho
    rw [clash_home hL] at e
    exact ⟨q, hq, e⟩
  · rintro ⟨q, hq, e⟩
    exact ⟨_, (hh _).mpr ⟨q, hq, rfl⟩, by rw [clash_home hL]; exact e⟩
theorem any_map {f : Lk → Lk} {L L' : Int} {ls : List Lk} {l : Lk} (h : ∀ q ∈ ls, clashB (f l) (f q) L' = clashB l q L) : ((ls.map f).any fun q => clashB (f l) q L') = ls.any fun q => clashB l q L := by
  rw [List.any_map, Bool.eq_iff_iff, List.any_eq_true, List.any_eq_true]
  constructor
  · rintro ⟨q, hq, e⟩
    exact ⟨q, hq, by rw [← h q hq]; exact e⟩
  · rintro ⟨q, hq, e⟩
    exact ⟨q, hq, by show clashB (f l) (f q) L' = true; rw [h q hq]; exact e⟩
end KA
namespace KA
open PySem PySem.Spec PyProof.Rows L2 DP
/-- the law's own reckoning -/
def apB (L : Int) (u o : Lk) : Bool := decide (u.1 ≠ "upto") && (decide (o.1 ≠ "from") && decide (u.2.2 + (o.2.1 - u.2.1) / L * L > o.2.2))
theorem apB_far {L : Int} {u o : Lk} (hu : WordOk u.1) (ho : WordOk o.1) : apB L u o = tooFar u o L := by
  have n1 : ¬ (("at" : Str) = "upto") := by decide +kernel
  have n2 : ¬ (("from" : Str) = "upto") := by decide +kernel
  have n3 : ¬ (("upto" : Str) = "at") := by decide +kernel
  have n4 : ¬ (("upto" : Str) = "from") := by decide +kernel
  have n5 : ¬ (("at" : Str) = "from") := by decide +kernel
  have n6 : ¬ (("from" : Str) = "at") := by decide +kernel
  unfold apB tooFar onSide
  rw [plc_slow, if_pos rfl, if_neg slow_ne]
  rcases hu with e | e | e <;> rcases ho with e2 | e2 | e2 <;> rw [e, e2] <;> simp [n1, n2, n3, n4, n5, n6]
def spApart (K : PySem.W.Frag) : Sp := fun vs H Q _ => ∃ (v u : V) (L : Int) (l o : Lk), vs = [.int L, v, u] ∧ Dp K H v (encL l) ∧ Dp K H u (encL o) ∧ 0 < L ∧ L.natAbs < 2 ^ 200 ∧ WordOk l.1 ∧ WordOk o.1 ∧ Sized 302 l ∧ Sized 302 o ∧ ∀ H', Same H H' → Q (.bl (clashB l o L)) H'
def spAnyLook (K : PySem.W.Frag) : Sp := fun vs H Q _ => ∃ (t g : Addr) (n : Nat) (L : Int), vs = [.ref t, .int L] ∧ Tray H t g n ∧ n < 2 ^ 44 ∧ 0 < L ∧ L ≤ 10 ^ 30 ∧ ∀ (H' : Hp) (r : V) (l : Lk), At H H' t g (n + 10) → Dp K H' r (encL l) → WordOk l.1 → -L ≤ l.2.1 ∧ l.2.1 ≤ 2 * L → Close L l → Q r H'
section
variable {P : Program} {w : World} {K : PySem.W.Frag} {mg : Str → Option Value} {base : Heap} {Z : Ad} {Y : AdX}
theorem ok_law_apart (T : Tx K w mg Z) : FnOk P w K mg base CX0 1 Z.a_law_apart Z.d_law_apart P_law_apart (spApart K) := by
  refine T.F_law_apart.ok sclaw_apart (fun vs H Q E h => ?_) (fun cdv A outer s H vs Q E hr h => ?_)
  · obtain ⟨v, u, L, l, o, rfl, _⟩ := h
    rfl
  · obtain ⟨v, u, L, l, o, rfl, hv, hu, hL, hLb, wl, wo, sl, so, k⟩ := h
    obtain ⟨pl, rfl, gl⟩ := dp_look hv
    obtain ⟨po, rfl, go⟩ := dp_look hu
    refine ⟨_, (pss_cons (ps_for PassesOwn.never rfl (pi_list (pe_lst (pa_cons (pe_tup (pa_cons (pv 1) (pa_cons (pv 2) pa_nil))) (pa_cons (pe_tup (pa_cons (pv 2) (pa_cons (pv 1) pa_nil))) pa_nil)))) (tupK (K := K) (by rfl) (pgs_cons (pg_name (i := 3) sclaw_apart.nd rfl (Or.inl rfl)) (pgs_cons (pg_name (i := 4) sclaw_apart.nd rfl (Or.inl rfl)) pgs_nil))) (pss_one (ps_if (PW.pt (pw_and (pt_cmpR op_ne (pe_ix (ixT (K := K)) (pv 3) pe_int (fun _ _ => rfl)) pe_str (nomark _)) (pw_and1 (pt_cmpR op_ne (pe_ix (ixT (K := K)) (pv 4) pe_int (fun _ _ => rfl)) pe_str (nomark _))))) (pss_one (ps_if (pt_cmpR op_gt (pe_op op_add (pe_ix (ixT (K := K)) (pv 3) pe_int (fun _ _ => rfl)) (pe_op op_mulW (pe_op op_fdivW (pe_op op_sub (pe_ix (ixT (K := K)) (pv 4) pe_int (fun _ _ => rfl)) (pe_ix (ixT (K := K)) (pv 3) pe_int (fun _ _ => rfl))) (pv 0)) (pv 0))) (pe_ix (ixT (K := K)) (pv 4) pe_int (fun _ _ => rfl)) (nomark _)) (pss_one (ps_ret pe_bl)) pss_nil)) pss_nil)))
      (pss_one (ps_ret pe_bl))), ?_⟩
    refine ⟨_, rfl, _, rfl, (by show 2 ≤ sizeLine; decide), fun t1 h1 => ⟨_, rfl, _, rfl, (by show 2 ≤ sizeLine; decide), fun t2 h2 => ⟨(by show 2 ≤ sizeLine; decide), fun q hq => ?_⟩⟩⟩
    have S1 := same_upd (o := HO.tup [V.ref pl, .ref po]) h1
    have S2 := same_upd (o := HO.tup [V.ref po, .ref pl]) h2
    have S3 := same_upd (o := HO.lst [V.ref t1, .ref t2]) hq
    have g1 := S3 _ _ (S2 _ _ (show (upd H t1 (HO.tup [V.ref pl, .ref po])) t1 = some (.tup [V.ref pl, .ref po]) from upd_same))
    have g2 := S3 _ _ (show (upd (upd H t1 (HO.tup [V.ref pl, .ref po])) t2 (HO.tup [V.ref po, .ref pl])) t2 = some (.tup [V.ref po, .ref pl]) from upd_same)
    have gq : (upd (upd (upd H t1 (HO.tup [V.ref pl, .ref po])) t2 (HO.tup [V.ref po, .ref pl])) q (HO.lst [V.ref t1, .ref t2])) q = some (.lst [V.ref t1, .ref t2]) := upd_same
    have S := (S1.trans S2).trans S3
    generalize upd (upd (upd H t1 (HO.tup [V.ref pl, .ref po])) t2 (HO.tup [V.ref po, .ref pl])) q (HO.lst [V.ref t1, .ref t2]) = H3 at g1 g2 gq S ⊢
    have gl3 := Same.sqT S gl
    have go3 := Same.sqT S go
    have ec : clashB l o L = (apB L l o || apB L o l) := by rw [apB_far wl wo, apB_far wo wl]; rfl
    rw [ec] at k
    refine ⟨q, rfl, ⟨_, SqL.of gq⟩, ?_⟩
    refine for_list (K := K) (a := q) (xs := [V.ref t1, .ref t2]) (fun i σ' H' => ∃ u3 u4, σ' = [some (.int L), some (.ref pl), some (.ref po), u3, u4] ∧ H' = H3 ∧ (0 < i → apB L l o = false) ∧ (1 < i → apB L o l = false)) ⟨_, _, rfl, rfl, fun h => absurd h (by omega), fun h => absurd h (by omega)⟩ (fun i σ' H' _ ⟨_, _, _, e, _⟩ => by rw [e]; exact SqL.of gq) ?_ ?_
    · rintro i y σ' H' hi ⟨u3, u4, rfl, rfl, hb1, hb2⟩
      obtain ⟨pa, pb, A, B, ⟨ty, rfl, gy⟩, _, ga, gb, sa, sb, hin, hout⟩ : ∃ (pa pb : Addr) (A B : Lk), (∃ ty, y = .ref ty ∧ SqT K H' ty [V.ref pa, .ref pb]) ∧ True ∧ SqT K H' pa [.str A.1, .int A.2.1, .int A.2.2] ∧ SqT K H' pb [.str B.1, .int B.2.1, .int B.2.2] ∧ Sized 302 A ∧ Sized 302 B ∧ (apB L A B = true → apB L l o = true ∨ apB L o l = true) ∧ (apB L A B = false → (0 < i + 1 → apB L l o = false) ∧ (1 < i + 1 → apB L o l = false)) := by
        have hi2 : i < 2 := (List.getElem?_eq_some_iff.mp hi).1
        have : i = 0 ∨ i = 1 := by omega
        rcases this with e | e <;> subst e
        · exact ⟨pl, po, l, o, ⟨t1, (Option.some.inj hi).symm, SqT.of g1⟩, trivial, gl3, go3, sl, so, fun h => .inl h, fun h => ⟨fun _ => h, fun z => absurd z (by omega)⟩⟩
        · exact ⟨po, pl, o, l, ⟨t2, (Option.some.inj hi).symm, SqT.of g2⟩, trivial, go3, gl3, so, sl, fun h => .inr h, fun h => ⟨fun _ => hb1 (by omega), fun _ => h⟩⟩
      refine ⟨_, _, rfl, gy, rfl, _, _, rfl, _, _, rfl, rfl, ?_⟩
      have nxt : apB L A B = false → ∃ (v3 v4 : Option V), [some (V.int L), some (V.ref pl), some (V.ref po), some (V.ref pa), some (V.ref pb)] = [some (V.int L), some (V.ref pl), some (V.ref po), v3, v4] ∧ H' = H' ∧ (0 < i + 1 → apB L l o = false) ∧ (1 < i + 1 → apB L o l = false) := fun h => ⟨_, _, rfl, rfl, (hout h).1, (hout h).2⟩
      refine ⟨_, rfl, _, _, _, _, rfl, rfl, ga, rfl, rfl, _, rfl, ite2 (fun c1 => ?_) (fun c1 => ?_)⟩
      · have c1' : A.1 ≠ "upto" := by simpa using c1
        refine ⟨_, rfl, _, _, _, _, rfl, rfl, gb, rfl, rfl, _, rfl, ite2 (fun c2 => ?_) (fun c2 => ?_)⟩
        · have c2' : B.1 ≠ "from" := by simpa using c2
          have hd : (B.2.1 - A.2.1).natAbs < 2 ^ 303 := sub_lt sb.1 sa.1
          refine ⟨_, rfl, _, _, _, _, rfl, rfl, ga, rfl, _, rfl, _, _, _, _, rfl, rfl, gb, rfl, _, rfl, _, _, _, _, rfl, rfl, ga, rfl, _, _, rfl, rfl, _, rfl, _, _, rfl, rfl, wide_div hL hLb (by decide) (by decide), _, rfl, _, _, rfl, rfl, wide_mul (div_lt hL hd) hLb (by decide) (by decide) (by decide), _, _, rfl, rfl, _, rfl, _, _, _, _, rfl, rfl, gb, rfl, _, _, rfl, rfl, _, rfl, ite2 (fun c3 => ?_) (fun c3 => ?_)⟩
          · have c3' : A.2.2 + (B.2.1 - A.2.1) / L * L > B.2.2 := of_decide_eq_true c3
            have kk := k _ S
            have e : (apB L l o || apB L o l) = true := by
              rw [Bool.or_eq_true]
              refine hin ?_
              unfold apB
              rw [decide_eq_true c1', decide_eq_true c2', decide_eq_true c3']; rfl
            rw [e] at kk
            exact kk
          · have c3' : ¬ A.2.2 + (B.2.1 - A.2.1) / L * L > B.2.2 := fun h => c3 (decide_eq_true h)
            refine nxt ?_
            unfold apB
            rw [decide_eq_false c3', Bool.and_false, Bool.and_false]
        · have c2' : ¬ B.1 ≠ "from" := by simpa using c2
          refine nxt ?_
          unfold apB
          rw [decide_eq_false c2', Bool.false_and, Bool.and_false]
      · have c1' : ¬ A.1 ≠ "upto" := by simpa using c1
        refine nxt ?_
        unfold apB
        rw [decide_eq_false c1', Bool.false_and]
    · rintro σ' H' ⟨u3, u4, rfl, rfl, hb1, hb2⟩
      have kk := k _ S
      rw [hb1 (by simp), hb2 (by simp)] at kk
      exact kk
theorem ok_law_any_look (T : Tx K w mg Z) : FnOk P w K mg base CX0 2 Z.a_law_any_look Z.d_law_any_look P_law_any_look (spAnyLook K) := by
  refine T.F_law_any_look.ok sclaw_any_look (fun vs H Q E h => ?_) (fun cdv A outer s H vs Q E hr h => ?_)
  · obtain ⟨t, g, n, L, rfl, _⟩ := h
    rfl
  · obtain ⟨t, g, n, L, rfl, hT, hn, hL, hL30, k⟩ := h
    have hLb := bigL hL hL30
    have hb' : ∀ m, m ≤ n + 30 → m < 2 ^ 60 := fun m hm => Nat.lt_of_le_of_lt hm (Nat.lt_of_lt_of_le (Nat.add_lt_add_right hn 30) (by decide))
    have A0 : At H H t g n := ⟨hT, Keep.refl _ _ _⟩
    have b3 : (3 * L).natAbs < 2 ^ 102 := wide_lt (show (3 : Int).natAbs < 2 ^ 2 by decide) hLb
    have b4 : (4 * L).natAbs < 2 ^ 103 := wide_lt (show (4 : Int).natAbs < 2 ^ 3 by decide) hLb
    have b2 : (2 * L).natAbs < 2 ^ 102 := wide_lt (show (2 : Int).natAbs < 2 ^ 2 by decide) hLb
    refine ⟨_, (pss_cons (ps_set (i := 2) sclaw_any_look.nd rfl (Or.inl rfl) (pe_ix (ixL (K := K)) (pe_lst (pa_cons pe_str (pa_cons pe_str (pa_cons pe_str pa_nil)))) (pe_call (ok_law_draw T) (hr.mono (by decide)) (by rfl) T.g_law_draw T.F_law_draw.kp T.bb_law_draw .nil pass0 (pa_cons (pv 0) (pa_cons pe_int pa_nil))) (fun _ _ => rfl)))
      (pss_cons (ps_set (i := 3) sclaw_any_look.nd rfl (Or.inl rfl) (pe_op op_sub (pe_call (ok_law_draw T) (hr.mono (by decide)) (by rfl) T.g_law_draw T.F_law_draw.kp T.bb_law_draw .nil pass0 (pa_cons (pv 0) (pa_cons (pe_op op_mulW pe_int (pv 1)) pa_nil))) (pv 1)))
      (C8.pss_cut (ps_set (i := 4) sclaw_any_look.nd rfl (Or.inl rfl) (pe_ix (ixL (K := K)) (pe_lst (pa_cons pe_int (pa_cons (pe_op op_sub (pe_call (ok_law_draw T) (hr.mono (by decide)) (by rfl) T.g_law_draw T.F_law_draw.kp T.bb_law_draw .nil pass0 (pa_cons (pv 0) (pa_cons pe_int pa_nil))) pe_int) (pa_cons (pe_op op_sub (pe_call (ok_law_draw T) (hr.mono (by decide)) (by rfl) T.g_law_draw T.F_law_draw.kp T.bb_law_draw .nil pass0 (pa_cons (pv 0) (pa_cons (pe_op op_mulW pe_int (pv 1)) pa_nil))) (pe_op op_mulW pe_int (pv 1))) pa_nil)))) (pe_call (ok_law_draw T) (hr.mono (by decide)) (by rfl) T.g_law_draw T.F_law_draw.kp T.bb_law_draw .nil pass0 (pa_cons (pv 0) (pa_cons pe_int pa_nil))) (fun _ _ => rfl)))
      (pss_one (ps_ret (pe_tup (pa_cons (pv 2) (pa_cons (pv 3) (pa_cons (pe_op op_add (pv 3) (pv 4)) pa_nil))))))))), ?_⟩
    refine ⟨(by show 3 ≤ sizeLine; decide), fun q hq => ?_⟩
    obtain ⟨qt, qg⟩ := hT.at_ne hq
    have A1 := A0.new (o := HO.lst [V.str "at", .str "from", .str "upto"]) hq
    refine ⟨_, rfl, t, g, n, 3, rfl, A1.T, by decide, by decide, hb' _ (by omega), fun H2 c c0 c1 T2 k2 => ?_⟩
    have A2 := A1.step T2 k2
    obtain ⟨wd, hw, hwk⟩ : ∃ wd : Str, atI [V.str "at", .str "from", .str "upto"] c = some (.str wd) ∧ WordOk wd := by
      have : c = 0 ∨ c = 1 ∨ c = 2 := by omega
      rcases this with e | e | e <;> subst e
      · exact ⟨"at", rfl, .inl rfl⟩
      · exact ⟨"from", rfl, .inr (.inl rfl)⟩
      · exact ⟨"upto", rfl, .inr (.inr rfl)⟩
    refine ⟨q, _, _, _, rfl, rfl, SqL.of (k2 _ _ upd_same qt qg), hw, ?_⟩
    refine ⟨_, rfl, _, rfl, _, _, rfl, rfl, wide_mul (show (3 : Int).natAbs < 2 ^ 2 by decide) hLb (by decide) (by decide) (by decide), t, g, n + 1, 3 * L, rfl, T2, by omega, lt_up b3 (by decide), hb' _ (by omega), fun H3 s s0 s1 T3 k3 => ?_⟩
    have A3 := A2.step T3 k3
    refine ⟨_, rfl, _, _, rfl, rfl, ?_⟩
    have hsb : (s - L).natAbs < 2 ^ 104 := by
      have e1 : (2 : Nat) ^ 104 = 2 ^ 102 * 4 := by decide
      rw [e1]
      have : (2 : Nat) ^ 100 * 4 = 2 ^ 102 := by decide
      generalize (2 : Nat) ^ 102 = B at b3 this ⊢
      omega
    refine ⟨fun σ' H' => ∃ f : Int, σ' = [some (.ref t), some (.int L), some (.str wd), some (.int (s - L)), some (.int f)] ∧ (-(2 * L) ≤ f ∧ f ≤ 2 * L) ∧ At H H' t g (n + 5), ?_, ?_⟩
    · refine ⟨_, rfl, t, g, n + 2, 3, rfl, A3.T, by decide, by decide, hb' _ (by omega), fun H4 f1 f10 f11 T4 k4 => ?_⟩
      have A4 := A3.step T4 k4
      refine ⟨_, _, rfl, rfl, _, rfl, _, rfl, _, _, rfl, rfl, wide_mul (show (4 : Int).natAbs < 2 ^ 3 by decide) hLb (by decide) (by decide) (by decide), t, g, n + 3, 4 * L, rfl, A4.T, by omega, lt_up b4 (by decide), hb' _ (by omega), fun H5 f2 f20 f21 T5 k5 => ?_⟩
      have A5 := A4.step T5 k5
      refine ⟨_, rfl, _, _, rfl, rfl, wide_mul (show (2 : Int).natAbs < 2 ^ 2 by decide) hLb (by decide) (by decide) (by decide), _, _, rfl, rfl, (by show 3 ≤ sizeLine; decide), fun p hp => ?_⟩
      obtain ⟨pt, pg⟩ := A5.T.at_ne hp
      have A6 := A5.new (o := HO.lst [V.int 0, .int (f1 - 1), .int (f2 - 2 * L)]) hp
      refine ⟨_, rfl, t, g, n + 4, 3, rfl, A6.T, by decide, by decide, hb' _ (by omega), fun H7 e e0 e1 T7 k7 => ?_⟩
      obtain ⟨f, hf, hfb⟩ : ∃ f : Int, atI [V.int 0, .int (f1 - 1), .int (f2 - 2 * L)] e = some (.int f) ∧ (-(2 * L) ≤ f ∧ f ≤ 2 * L) := by
        clear b3 b4 b2 hLb hsb
        have : e = 0 ∨ e = 1 ∨ e = 2 := by omega
        rcases this with q | q | q <;> subst q
        · exact ⟨0, rfl, by omega, by omega⟩
        · exact ⟨_, rfl, by omega, by omega⟩
        · exact ⟨_, rfl, by omega, by omega⟩
      refine ⟨p, _, _, _, rfl, rfl, SqL.of (k7 _ _ upd_same pt pg), hf, ?_⟩
      exact ⟨f, rfl, hfb, A6.step T7 k7⟩
    rintro σ8 H8 ⟨f, rfl, hfb, A8⟩
    refine ⟨_, rfl, _, rfl, _, rfl, _, rfl, _, _, rfl, rfl, (by show 3 ≤ sizeLine; decide), fun p hp => ?_⟩
    have eoff : s - L + f - (s - L) = f := by omega
    exact k _ _ (wd, s - L, s - L + f) ((A8.new hp).up (by omega)) (.tup (SqT.of upd_same) (.cons (.str _) (.cons (.int _) (.cons (.int _) .nil)))) hwk (by clear b3 b4 b2 hLb hsb; show -L ≤ s - L ∧ s - L ≤ 2 * L; omega) (by show -(2 * L) ≤ s - L + f - (s - L) ∧ s - L + f - (s - L) ≤ 2 * L; rw [eoff]; exact hfb)
end
end KA
namespace KA
open PySem PySem.Spec PyProof.Rows L2 DP
theorem At.sm {H H1 H2 : Hp} {t g : Addr} {m : Nat} (a : At H H1 t g m) (S : Same H1 H2) : At H H2 t g m := ⟨a.T.same S, a.k.trans (Keep.of_same S)⟩
def refs (as : List Addr) : List V := as.map V.ref
/-! ### lists of tables -/
abbrev Ro := Addr × List Int
def RosAt (H : Hp) (es : List Ro) : Prop := ∀ e ∈ es, H e.1 = some (.lst (e.2.map V.int))
def adr (es : List Ro) : List Addr := es.map Prod.fst
def vals (es : List Ro) : List (List Int) := es.map Prod.snd
theorem RosAt.same {H H' : Hp} {es : List Ro} (h : RosAt H es) (S : Same H H') : RosAt H' es := fun e he => S _ _ (h e he)
structure Grown (H0 H : Hp) (D : Addr) (es : List Ro) : Prop where
  sm : Same H0 H
  gD : H D = some (.lst (refs (adr es)))
  ro : ∀ e ∈ es, H e.1 = some (.lst (e.2.map V.int)) ∧ H0 e.1 = none ∧ e.1 ≠ D
theorem Grown.nil {H : Hp} {D : Addr} (hD : H D = none) : Grown H (upd H D (.lst [])) D [] := ⟨same_upd hD, upd_same, fun _ z => by cases z⟩
theorem Grown.same {H0 H H' : Hp} {D : Addr} {es : List Ro} (G : Grown H0 H D es) (S : Same H H') : Grown H0 H' D es := ⟨G.sm.trans S, S _ _ G.gD, fun e he => ⟨S _ _ (G.ro e he).1, (G.ro e he).2⟩⟩
theorem Grown.add {H0 H : Hp} {D q : Addr} {es : List Ro} {r : List Int} (G : Grown H0 H D es) (hD : H0 D = none) (hq : H0 q = none) (gq : H q = some (.lst (r.map V.int))) (hqD : q ≠ D) : Grown H0 (upd H D (.lst (refs (adr es) ++ [.ref q]))) D (es ++ [(q, r)]) := by
  refine ⟨same_set G.sm hD, ?_, fun e he => ?_⟩
  · rw [upd_same]; simp [refs, adr]
  · rcases List.mem_append.mp he with h | h
    · exact ⟨(upd_ne (G.ro e h).2.2).trans (G.ro e h).1, (G.ro e h).2⟩
    · rw [List.mem_singleton] at h; subst h
      exact ⟨(upd_ne hqD).trans gq, hq, hqD⟩
/-- a list of them more, put behind -/
theorem Grown.app {H0 H H' : Hp} {D D2 : Addr} {es fs : List Ro} (G : Grown H0 H D es) (hD : H0 D = none) (F : Grown H H' D2 fs) : Grown H0 (upd H' D (.lst (refs (adr es) ++ refs (adr fs)))) D (es ++ fs) := by
  refine ⟨same_set (G.sm.trans F.sm) hD, ?_, fun e he => ?_⟩
  · rw [upd_same]; simp [refs, adr]
  · rcases List.mem_append.mp he with h | h
    · exact ⟨(upd_ne (G.ro e h).2.2).trans (F.sm _ _ (G.ro e h).1), (G.ro e h).2⟩
    · obtain ⟨a1, a2, a3⟩ := F.ro e h
      have hne : e.1 ≠ D := fun c => by rw [c, G.gD] at a2; cases a2
      exact ⟨(upd_ne hne).trans a1, G.sm.free a2, hne⟩
theorem Grown.ros {H0 H : Hp} {D : Addr} {es : List Ro} (G : Grown H0 H D es) : RosAt H es := fun e he => (G.ro e he).1
theorem adr_len (es : List Ro) : (refs (adr es)).length = es.length := by simp [refs, adr]
theorem adr_at {es : List Ro} {i : Nat} {y : V} (h : (refs (adr es))[i]? = some y) : ∃ e, es[i]? = some e ∧ y = .ref e.1 := by
  obtain ⟨q, hq, rfl⟩ := map_at h
  obtain ⟨e, he, rfl⟩ := map_at hq
  exact ⟨e, he, rfl⟩
theorem at_zero {r : List Int} (h : 0 < r.length) : atI (r.map V.int) 0 = some (.int (r.getD 0 0)) := at_of (j := 0) rfl (by rw [List.getElem?_map, List.getElem?_eq_getElem h, getD_at h]; rfl)
theorem at_row {r : List Int} {i : Int} (h0 : 0 ≤ i) (h : i < r.length) : atI (r.map V.int) i = some (.int (r.getD i.toNat 0)) := at_of (j := i.toNat) (by omega) (by rw [List.getElem?_map, List.getElem?_eq_getElem (by omega : i.toNat < r.length), getD_at (by omega)]; rfl)
theorem at_last {r : List Int} (h : 0 < r.length) : atI (r.map V.int) (-1) = some (.int (r.getLast?.getD 0)) := by
  obtain ⟨q, z, rfl⟩ := snoc_of (l := r) (fun e => by rw [e] at h; simp at h)
  rw [neg1]; simp
def spHands : Sp := fun vs H Q _ => ∃ (w : Nat), vs = [.int w] ∧ 0 < w ∧ w ≤ 4 ∧
  ∀ (H' : Hp) (p : Addr) (es : List Ro), Same H H' → H p = none → H' p = some (.lst (refs (adr es))) → RosAt H' es → vals es = tabs w (-(4 * w)) (4 * w) (w - 1) → (∀ e ∈ es, H e.1 = none) → Q (.ref p) H'
def spIsAs (K : PySem.W.Frag) : Sp := fun vs H Q _ => ∃ (q : Addr) (v : V) (r : List Int) (l : Lk), vs = [.int (r.length : Int), .ref q, v] ∧ H q = some (.lst (r.map V.int)) ∧ 0 < r.length ∧ r.length ≤ 40 ∧ Dp K H v (encL l) ∧ WordOk l.1 ∧ l.2.1.natAbs < 2 ^ 150 ∧ Q (.bl (isSo r l)) H
def spHeard3 (K : PySem.W.Frag) : Sp := fun vs H Q _ => ∃ (t g : Addr) (n w : Nat), vs = [.ref t, .int w] ∧ Tray H t g n ∧ n < 2 ^ 43 ∧ 0 < w ∧ w ≤ 4 ∧
  ∀ (H' : Hp) (r : Addr) (ls : List Lk), H r = none → At H H' t g (n + 100) → LAt K H' r (ls.map encL) → Known w w ls → (∀ l ∈ ls, -(w : Int) ≤ l.2.1 ∧ l.2.1 ≤ 2 * w) → ls.length ≤ 6 → Q (.ref r) H'
theorem eqv_nil (ds : List PyData) : PyData.eqv (.list ds) (.list []) = decide (ds = []) := by
  cases ds <;> simp [PyData.eqv, PyData.eqvAll]
theorem Known.nil {w : Nat} (h : 0 < w) : Known w w [] := ⟨by omega, rfl, (fun _ z => by cases z), (fun _ z => by cases z), fun _ z => by cases z⟩
theorem clash_comm (a b : Lk) (L : Int) : clashB a b L = clashB b a L := by unfold clashB; rw [Bool.or_comm]
theorem clash_self (l : Lk) (L : Int) : clashB l l L = false := by
  have f : tooFar l l L = false := far_no fun _ _ => by rw [plc_slow, Int.sub_self, Int.zero_ediv, Int.zero_mul]; omega
  unfold clashB; rw [f]; rfl
theorem Known.add {L : Int} {w : Nat} {ls : List Lk} (N : Known L w ls) {l : Lk} (hl : WordOk l.1) (hc : Close L l) (h : (ls.filter fun o => clashB l o L) = []) : Known L w (ls ++ [l]) := by
  have h' : ∀ a ∈ ls, clashB l a L = false := fun a ha => by simpa using List.filter_eq_nil_iff.mp h a ha
  refine ⟨N.pos, N.ew, fun a ha => ?_, fun a ha b hb => ?_, fun a ha => ?_⟩
  · rcases List.mem_append.mp ha with h | h
    · exact N.wk a h
    · rw [List.mem_singleton.mp h]; exact hl
  · rcases List.mem_append.mp ha with h1 | h1 <;> rcases List.mem_append.mp hb with h2 | h2
    · exact N.nc a h1 b h2
    · rw [List.mem_singleton.mp h2, clash_comm]; exact h' a h1
    · rw [List.mem_singleton.mp h1]; exact h' b h2
    · rw [List.mem_singleton.mp h1, List.mem_singleton.mp h2]; exact clash_self l L
  · rcases List.mem_append.mp ha with h | h
    · exact N.cl a h
    · rw [List.mem_singleton.mp h]; exact hc
section
variable {P : Program} {w : World} {K : PySem.W.Frag} {mg : Str → Option Value} {base : Heap} {Z : Ad}
theorem ok_law_hands (T : Tx K w mg Z) : FnOk P w K mg base CX0 1 Z.a_law_hands Z.d_law_hands P_law_hands (spHands) := by
  refine T.F_law_hands.ok sclaw_hands (fun vs H Q E h => ?_) (fun cdv A outer s H vs Q E hr h => ?_)
  · obtain ⟨w', rfl, _⟩ := h
    rfl
  · obtain ⟨n, rfl, hn0, hn4, k⟩ := h
    refine ⟨_, (pss_cons (ps_setLc (i := 1) (own := [("start", 2)]) (g := gName 2) (tt := tYes) rfl sclaw_hands.nd rfl rfl (sw_true rfl rfl rfl (by decide +kernel)) (pi_range2 (by rfl) T.b_range (pa_cons (pe_op op_sub pe_int (pe_op op_mulW pe_int (pv 0))) (pa_cons (pe_op op_add (pe_op op_mulW pe_int (pv 0)) pe_int) pa_nil))) (blkOk_by (own := [("start", 2)]) (N := N_law_hands) (sc := defScope slaw_hands) (by decide +kernel)) (fun _ _ _ _ _ => (pg_name (i := 2) sclaw_hands.nd rfl (Or.inl rfl))) (fun _ _ _ _ _ => pts_nil) (fun _ _ _ _ _ => (pe_lst (pa_cons (pv 2) pa_nil))))
      (pss_cons (ps_for PassesOwn.never rfl (pi_range1 (by rfl) T.b_range (pa_cons (pe_op op_sub (pv 0) pe_int) pa_nil)) (pg_name (i := 3) sclaw_hands.nd rfl (Or.inl rfl)) (pss_cons (ps_set (i := 4) sclaw_hands.nd rfl (Or.inl rfl) (pe_lst pa_nil))
      (pss_cons (ps_for PassesOwn.never rfl (pi_list (pv 1)) (pg_name (i := 5) sclaw_hands.nd rfl (Or.inr rfl)) (pss_one (ps_expr (pe_bm PySem.F.plainAttrs_list PySem.F.slot_list_extend PySem.F.type_list_extend mt_extend (pv 4) (pa_cons (pe_lc (own := [("there", 6)]) (g := gName 6) (tt := tYes) rfl sclaw_hands.nd (pi_range2 (by rfl) T.b_range (pa_cons (pe_ix (ixL (K := K)) (pv 5) (pe_un un_neg pe_int) (fun _ _ => rfl)) (pa_cons (pe_op op_add (pe_op op_add (pe_ix (ixL (K := K)) (pv 5) pe_int (fun _ _ => rfl)) (pv 0)) pe_int) pa_nil))) (blkOk_by (own := [("there", 6)]) (N := N_law_hands) (sc := defScope slaw_hands) (by decide +kernel)) (fun _ _ _ _ _ => (pg_name (i := 6) sclaw_hands.nd rfl (Or.inl rfl))) (fun _ _ _ _ _ => pts_nil) (fun _ _ _ _ _ => (pe_op op_cat (pv 5) (pe_lst (pa_cons (pv 6) pa_nil))))) pa_nil)))))
      (pss_one (ps_set (i := 1) sclaw_hands.nd rfl (Or.inl rfl) (pv 4))))))
      (pss_one (ps_ret (pv 1))))), ?_⟩
    have hwb : (n : Int).natAbs < 2 ^ 10 := Nat.lt_of_le_of_lt (by omega : _ ≤ 4) (by decide)
    obtain ⟨a, ea⟩ : ∃ a : Int, a = -(4 * (n : Int)) := ⟨_, rfl⟩
    obtain ⟨b, eb⟩ : ∃ b : Int, b = 4 * (n : Int) := ⟨_, rfl⟩
    rw [← ea, ← eb] at k
    have hab : (b + 1 - a).toNat ≤ 33 := by omega
    refine ⟨_, rfl, _, _, rfl, rfl, wide_mul (a := 10) (by decide) hwb (by decide) (by decide) (by decide), _, _, rfl, rfl, _, rfl, _, _, rfl, rfl, wide_mul (a := 10) (by decide) hwb (by decide) (by decide) (by decide), _, _, rfl, rfl, a, b + 1, by rw [ea, eb]; show [V.int (0 - 4 * (n : Int)), V.int (4 * (n : Int) + 1)] = _; rw [Int.zero_sub], ⟨by omega, by omega, by omega, by omega⟩, fun D hD => ?_⟩
    refine lc_range (lo := a) (n := (b + 1 - a).toNat) (fun i H' => ∃ es : List Ro, Grown H H' D es ∧ vals es = ((List.range i).map fun (j : Nat) => a + (j : Int)).map fun z => [z]) ⟨[], Grown.nil hD, rfl⟩ ?_ ?_
    · rintro i H' hi ⟨es, G, hv⟩
      have hel : es.length = i := by have := congrArg List.length hv; simpa [vals] using this
      refine ⟨rfl, yes_ite ?_⟩
      refine ⟨_, rfl, (by show 1 ≤ sizeLine; decide), fun q hq => ?_⟩
      have Sq := same_upd (o := HO.lst [V.int (a + (i : Nat))]) hq
      have G2 := G.same Sq
      have gq : (upd H' q (HO.lst [V.int (a + (i : Nat))])) q = some (.lst (([a + (i : Nat)] : List Int).map V.int)) := upd_same
      have hqD : q ≠ D := fun e => by rw [e, G.gD] at hq; cases hq
      generalize upd H' q (HO.lst [V.int (a + (i : Nat))]) = H2 at G2 gq ⊢
      refine ⟨_, G2.gD, Nat.lt_of_lt_of_le (by rw [adr_len]; omega : _ < 1000) (by decide), es ++ [(q, [a + (i : Nat)])], G2.add hD (G.sm.free hq) gq hqD, ?_⟩
      unfold vals at hv ⊢
      rw [List.map_append, hv, List.range_succ, List.map_append, List.map_append]; rfl
    rintro H1 ⟨es, G, hv⟩
    refine ⟨_, rfl, _, _, rfl, rfl, (n : Int) - 1, rfl, by omega, by omega, ?_⟩
    refine for_range (lo := 0) (n := ((n : Int) - 1).toNat) (fun j σ' H' => ∃ (u4 u5 u6 u7 u8 : Option V) (p : Addr) (es : List Ro), σ' = [some (.int n), some (.ref p), u4, u5, u6, u7, u8] ∧ Same H H' ∧ H p = none ∧ H' p = some (.lst (refs (adr es))) ∧ RosAt H' es ∧ vals es = tabs n a b j ∧ ∀ e ∈ es, H e.1 = none) ⟨_, _, _, _, _, D, es, rfl, G.sm, hD, G.gD, G.ros, hv, fun e he => (G.ro e he).2.1⟩ ?_ ?_
    · rintro j σ' H2 hj ⟨u4, u5, u6, u7, u8, p, es, rfl, S2, hp, gp, ro, hv, hfr⟩
      have hj3 : j < 3 := by omega
      have hel : es.length = (tabs n a b j).length := by rw [← hv]; simp [vals]
      have hes : es.length ≤ 5000 := by
        have h1 := tabs_len (w := (n : Int)) (a := a) (b := b) (by omega) j
        rw [← hel] at h1
        have h2 : ((n : Int).toNat + 1) ^ j ≤ 5 ^ j := Nat.pow_le_pow_left (by omega) j
        have h3 : 5 ^ j ≤ 5 ^ 3 := Nat.pow_le_pow_right (by decide) (by omega)
        exact Nat.le_trans h1 (Nat.le_trans (Nat.mul_le_mul hab (Nat.le_trans h2 h3)) (by decide))
      have hbg : ∀ e ∈ es, Begun n a b j e.2 := fun e he => (tabs_mem (by omega) j e.2).mp (by rw [← hv]; exact List.mem_map.mpr ⟨e, he, rfl⟩)
      refine ⟨(by show 0 ≤ sizeLine; decide), fun Lg hLg => ?_⟩
      have hpL : p ≠ Lg := ne_of_none gp hLg
      have G0 : Grown H2 (upd H2 Lg (.lst [])) Lg [] := Grown.nil hLg
      generalize upd H2 Lg (.lst []) = H3 at G0 ⊢
      refine ⟨_, rfl, p, rfl, ⟨_, SqL.of (G0.sm _ _ gp)⟩, ?_⟩
      refine for_list (K := K) (a := p) (xs := refs (adr es)) (fun i σ' H' => ∃ (u4 u7 u8 : Option V) (fs : List Ro), σ' = [some (.int n), some (.ref p), u4, some (.int (0 + (j : Nat))), some (.ref Lg), u7, u8] ∧ Grown H2 H' Lg fs ∧ vals fs = grow n ((vals es).take i)) ⟨_, _, _, [], rfl, G0, by rw [List.take_zero]; rfl⟩ (fun i σ' H' _ ⟨_, _, _, _, _, G, _⟩ => SqL.of (G.sm _ _ gp)) ?_ ?_
      · rintro i y σ' H4 hi ⟨u4', u7', u8', fs, rfl, G, hvf⟩
        obtain ⟨e, he, rfl⟩ := adr_at hi
        have hem := List.mem_of_getElem? he
        have B := hbg e hem
        have hrl := B.len
        have ge := G.sm _ _ (ro e hem)
        have hfl : fs.length ≤ 25000 := by
          have h1 : fs.length = (grow n ((vals es).take i)).length := by rw [← hvf]; simp [vals]
          rw [h1]
          have h2 := flat_len (f := more (n : Int)) (c := 5) ((vals es).take i) fun r hr => by
            obtain ⟨e', he', rfl⟩ := List.mem_map.mp (List.mem_of_mem_take hr)
            exact Nat.le_trans (more_len (by omega) (hbg e' he')) (by omega)
          refine Nat.le_trans h2 ?_
          have h3 : ((vals es).take i).length ≤ 5000 := Nat.le_trans (List.length_take_le' _ _) (by simp [vals]; exact hes)
          exact Nat.le_trans (Nat.mul_le_mul_right 5 h3) (by decide)
        have hbl : (e.2.getLast?.getD 0).natAbs < 2 ^ 61 ∧ (e.2.getD 0 0 + n + 1).natAbs < 2 ^ 61 := by
          obtain ⟨l, el, hlm⟩ := last_mem (r := e.2) (by omega)
          rw [el]
          have h1 := B.near l hlm
          have h2 : e.2.getD 0 0 ≤ l := le_last B.up el _ (by rw [getD_at (by omega)]; exact List.getElem_mem _)
          have h3 := B.lo
          have h4 := B.hi
          have e61 : (2 : Nat) ^ 61 = 2305843009213693952 := by decide
          rw [e61]
          show l.natAbs < _ ∧ _
          omega
        have e61 : (2 : Nat) ^ 61 = 2305843009213693952 := by decide
        rw [e61] at hbl
        refine ⟨_, rfl, .inl ⟨rfl, _, SqL.of G.gD⟩, ?_⟩
        refine ⟨_, rfl, _, rfl, e.1, _, _, _, rfl, rfl, SqL.of ge, at_last (by omega), ?_⟩
        refine ⟨_, rfl, e.1, _, _, _, rfl, rfl, SqL.of ge, at_zero (by omega), _, rfl, _, _, rfl, rfl, _, _, rfl, rfl, ?_⟩
        refine ⟨e.2.getLast?.getD 0, e.2.getD 0 0 + n + 1, rfl, ⟨by omega, by omega, by omega, by omega⟩, fun D2 hD2 => ?_⟩
        refine lc_range (lo := e.2.getLast?.getD 0) (n := (e.2.getD 0 0 + n + 1 - e.2.getLast?.getD 0).toNat) (fun i2 H' => ∃ gs : List Ro, Grown H4 H' D2 gs ∧ vals gs = ((List.range i2).map fun (j : Nat) => e.2.getLast?.getD 0 + (j : Int)).map fun z => e.2 ++ [z]) ⟨[], Grown.nil hD2, rfl⟩ ?_ ?_
        · rintro i2 H5 hi2 ⟨gs, G5, hvg⟩
          have hgl : gs.length = i2 := by have := congrArg List.length hvg; simpa [vals] using this
          have hi5 : i2 < 5 := by
            have := more_len (w := (n : Int)) (by omega) B
            unfold more rng at this
            rw [List.length_map, List.length_map, List.length_range] at this
            omega
          refine ⟨rfl, yes_ite ?_⟩
          refine ⟨_, rfl, _, rfl, (by show 1 ≤ sizeLine; decide), fun q hq => ?_⟩
          have Sq := same_upd (o := HO.lst [V.int (e.2.getLast?.getD 0 + (i2 : Nat))]) hq
          have gq : (upd H5 q (HO.lst [V.int (e.2.getLast?.getD 0 + (i2 : Nat))])) q = some (.lst [V.int (e.2.getLast?.getD 0 + (i2 : Nat))]) := upd_same
          have G6 := G5.same Sq
          have ge6 := Sq _ _ (G5.sm _ _ ge)
          generalize upd H5 q (HO.lst [V.int (e.2.getLast?.getD 0 + (i2 : Nat))]) = H6 at G6 gq ge6 ⊢
          refine ⟨e.1, q, _, _, rfl, rfl, ge6, gq, ?_, fun c hc => ?_⟩
          · refine Nat.le_trans (?_ : _ ≤ 1000) (by decide)
            rw [List.length_map, hrl]; simp; omega
          have Sc := same_upd (o := HO.lst (e.2.map V.int ++ [V.int (e.2.getLast?.getD 0 + (i2 : Nat))])) hc
          have gc : (upd H6 c (HO.lst (e.2.map V.int ++ [V.int (e.2.getLast?.getD 0 + (i2 : Nat))]))) c = some (.lst ((e.2 ++ [e.2.getLast?.getD 0 + (i2 : Nat)]).map V.int)) := by rw [List.map_append]; exact upd_same
          have hcD : c ≠ D2 := fun z => by rw [z, G6.gD] at hc; cases hc
          have G7 := G6.same Sc
          generalize upd H6 c (HO.lst (e.2.map V.int ++ [V.int (e.2.getLast?.getD 0 + (i2 : Nat))])) = H7 at G7 gc ⊢
          refine ⟨_, G7.gD, Nat.lt_of_lt_of_le (by rw [adr_len]; omega : _ < 1000) (by decide), gs ++ [(c, e.2 ++ [e.2.getLast?.getD 0 + (i2 : Nat)])], G7.add hD2 (G6.sm.free hc) gc hcD, ?_⟩
          unfold vals at hvg ⊢
          rw [List.map_append, hvg, List.range_succ, List.map_append, List.map_append]; rfl
        rintro H5 ⟨gs, G5, hvg⟩
        have hvg' : vals gs = more n e.2 := hvg
        have hgl : gs.length ≤ 5 := by
          have h1 : gs.length = (more n e.2).length := by rw [← hvg']; simp [vals]
          rw [h1]
          exact Nat.le_trans (more_len (by omega) B) (by omega)
        refine ⟨Lg, D2, _, _, rfl, rfl, G5.sm _ _ G.gD, G5.gD, Nat.le_trans (by rw [adr_len, adr_len]; omega : _ ≤ 60000) (by decide), ?_⟩
        refine ⟨_, _, _, fs ++ gs, rfl, G.app hLg G5, ?_⟩
        have hvi : (vals es)[i]? = some e.2 := by unfold vals; rw [List.getElem?_map, he]; rfl
        rw [take_snoc hvi, grow_snoc, ← hvf, ← hvg']
        unfold vals; rw [List.map_append]
      · rintro σ' H4 ⟨u4', u7', u8', fs, rfl, G, hvf⟩
        rw [adr_len, List.take_of_length_le (by simp [vals]), hv] at hvf
        refine ⟨_, rfl, _, _, _, _, _, Lg, fs, rfl, S2.trans G.sm, S2.free hLg, G.gD, G.ros, hvf, fun e he => S2.free (G.ro e he).2.1⟩
    · rintro σ' H2 ⟨u4, u5, u6, u7, u8, p, es, rfl, S2, hp, gp, ro, hv, hfr⟩
      have e : ((n : Int) - 1).toNat = n - 1 := by omega
      rw [e] at hv
      exact ⟨_, rfl, k H2 p es S2 hp gp ro hv hfr⟩
theorem ok_law_is_as (T : Tx K w mg Z) : FnOk P w K mg base CX0 1 Z.a_law_is_as Z.d_law_is_as P_law_is_as (spIsAs K) := by
  refine T.F_law_is_as.ok sclaw_is_as (fun vs H Q E h => ?_) (fun cdv A outer s H vs Q E hr h => ?_)
  · obtain ⟨q, v, r, l, rfl, _⟩ := h
    rfl
  · obtain ⟨q, v, r, l, rfl, hq, h0, h40, hv, hwk, hx, k⟩ := h
    refine ⟨_, (pss_cons (ps_set (i := 3) sclaw_is_as.nd rfl (Or.inl rfl) (pe_op op_mod (pe_ix (ixT (K := K)) (pv 2) pe_int (fun _ _ => rfl)) (pv 0)))
      (pss_cons (ps_set (i := 4) sclaw_is_as.nd rfl (Or.inl rfl) (pe_op op_sub (pe_op op_add (pe_ix (ixL (K := K)) (pv 1) (pv 3) (fun _ _ => rfl)) (pe_ix (ixT (K := K)) (pv 2) pe_int (fun _ _ => rfl))) (pv 3)))
      (C8.pss_cut (ps_if (pt_cmpR op_eq (pe_ix (ixT (K := K)) (pv 2) pe_int (fun _ _ => rfl)) pe_str (nomark _)) (pss_one (ps_ret (pe_cmpR op_eq (pv 4) (pe_ix (ixT (K := K)) (pv 2) pe_int (fun _ _ => rfl)) (nomark _)))) pss_nil)
      (pss_one (ps_ret (pe_ifExp (pt_cmpR op_eq (pe_ix (ixT (K := K)) (pv 2) pe_int (fun _ _ => rfl)) pe_str (nomark _)) (pe_cmpR op_ge (pv 4) (pe_ix (ixT (K := K)) (pv 2) pe_int (fun _ _ => rfl)) (nomark _)) (pe_cmpR op_le (pv 4) (pe_ix (ixT (K := K)) (pv 2) pe_int (fun _ _ => rfl)) (nomark _)))))))), ?_⟩
    obtain ⟨p, rfl, hp⟩ := dp_look hv
    have hl0 : (0 : Int) < (r.length : Int) := by omega
    have m0 := Int.emod_nonneg l.2.1 (Int.ne_of_gt hl0)
    have m1 := Int.emod_lt_of_pos l.2.1 hl0
    refine ⟨_, rfl, _, _, _, _, rfl, rfl, hp, rfl, _, rfl, _, _, rfl, rfl, hl0, ?_⟩
    refine ⟨_, rfl, _, rfl, q, _, _, _, rfl, rfl, SqL.of hq, at_row m0 m1, _, rfl, _, _, _, _, rfl, rfl, hp, rfl, _, _, rfl, rfl, _, rfl, _, _, rfl, rfl, ?_⟩
    have eth : r.getD (l.2.1 % (r.length : Int)).toNat 0 + l.2.1 - l.2.1 % (r.length : Int) = rowL r l.2.1 := by
      unfold rowL
      have h1 := Int.mul_ediv_add_emod l.2.1 (r.length : Int)
      rw [Int.mul_comm] at h1
      omega
    rw [isSo, ← eth] at k
    refine ⟨fun σ' H' => σ' = [some (.int (r.length : Int)), some (.ref q), some (.ref p), some (.int (l.2.1 % (r.length : Int))), some (.int (r.getD (l.2.1 % (r.length : Int)).toNat 0 + l.2.1 - l.2.1 % (r.length : Int)))] ∧ H' = H ∧ ¬ l.1 = "at", ?_, ?_⟩
    · refine ⟨_, rfl, _, _, _, _, rfl, rfl, hp, rfl, rfl, _, rfl, ite2 (fun c => ?_) (fun c => ⟨rfl, rfl, fun e => c (by simpa using e)⟩)⟩
      have c1 : l.1 = "at" := by simpa using c
      refine ⟨_, rfl, _, rfl, _, _, _, _, rfl, rfl, hp, rfl, rfl, ?_⟩
      have e : ∀ th : Int, decide (V.int th = V.int l.2.2) = decide (th = l.2.2) := fun th => by simp
      show Q (V.bl (decide (V.int (r.getD (l.2.1 % (r.length : Int)).toNat 0 + l.2.1 - l.2.1 % (r.length : Int)) = V.int l.2.2))) H
      rw [e]
      rw [c1, if_neg w_af, if_neg w_au] at k
      exact k
    rintro σ1 H1 ⟨rfl, rfl, c1⟩
    refine ⟨_, rfl, _, _, _, _, rfl, rfl, hp, rfl, rfl, _, rfl, ite2 (fun c => ?_) (fun c => ?_)⟩
    · have c2 : l.1 = "from" := by simpa using c
      rw [if_pos c2] at k
      exact ⟨_, rfl, _, rfl, _, _, _, _, rfl, rfl, hp, rfl, _, _, rfl, rfl, k⟩
    · have c2 : ¬ l.1 = "from" := fun e => c (by simpa using e)
      rw [if_neg c2] at k
      have c3 : l.1 = "upto" := by
        rcases hwk with h | h | h
        · exact absurd h c1
        · exact absurd h c2
        · exact h
      rw [if_pos c3] at k
      exact ⟨_, rfl, _, rfl, _, _, _, _, rfl, rfl, hp, rfl, _, _, rfl, rfl, k⟩
theorem ok_law_heard (T : Tx K w mg Z) : FnOk P w K mg base CX0 3 Z.a_law_heard Z.d_law_heard P_law_heard (spHeard3 K) := by
  refine T.F_law_heard.ok sclaw_heard (fun vs H Q E h => ?_) (fun cdv A outer s H vs Q E hr h => ?_)
  · obtain ⟨t, g, n, w', rfl, _⟩ := h
    rfl
  · obtain ⟨t, g, n, w', rfl, hT, hn, hw0, hw4, k⟩ := h
    have hb' : ∀ m, m ≤ n + 100 → m < 2 ^ 44 := fun m hm => Nat.lt_of_le_of_lt hm (Nat.lt_of_lt_of_le (Nat.add_lt_add_right hn 100) (by decide))
    have hL : (0 : Int) < (w' : Int) := by omega
    have hL30 : (w' : Int) ≤ 10 ^ 30 := Int.le_trans (by omega : (w' : Int) ≤ 4) (by decide)
    have hLb : (w' : Int).natAbs < 2 ^ 200 := Nat.lt_of_le_of_lt (by omega : _ ≤ 4) (by decide)
    have A0 : At H H t g n := ⟨hT, Keep.refl _ _ _⟩
    have hsz : ∀ {l : Lk}, -(w' : Int) ≤ l.2.1 ∧ l.2.1 ≤ 2 * w' → Close w' l → Sized 302 l := fun {l} h1 h2 => by
      unfold Close at h2
      exact ⟨Nat.lt_of_le_of_lt (by omega : _ ≤ 100) (by decide), Nat.lt_of_le_of_lt (by omega : _ ≤ 100) (by decide)⟩
    refine ⟨_, (pss_cons (ps_set (i := 2) sclaw_heard.nd rfl (Or.inl rfl) (pe_lst pa_nil))
      (pss_cons (ps_for PassesOwn.never rfl (pi_range1 (by rfl) T.b_range (pa_cons (pe_call (ok_law_draw T) (hr.mono (by decide)) (by rfl) T.g_law_draw T.F_law_draw.kp T.bb_law_draw .nil pass0 (pa_cons (pv 0) (pa_cons pe_int pa_nil))) pa_nil)) (pg_name (i := 3) sclaw_heard.nd rfl (Or.inl rfl)) (C8.pss_cut (ps_set (i := 4) sclaw_heard.nd rfl (Or.inr rfl) (pe_call (ok_law_any_look T) (hr.mono (by decide)) (by rfl) T.g_law_any_look T.F_law_any_look.kp T.bb_law_any_look .nil pass0 (pa_cons (pv 0) (pa_cons (pv 1) pa_nil))))
      (pss_one (ps_if (pt_cmpR (eqDK (K := K) hr.units) (pe_lc (own := [("one", 5)]) (g := gName 5) (tt := _) rfl sclaw_heard.nd (pi_list (pv 2)) (blkOk_by (own := [("one", 5)]) (N := N_law_heard) (sc := defScope slaw_heard) (by decide +kernel)) (fun _ _ _ _ _ => (pg_name (i := 5) sclaw_heard.nd rfl (Or.inl rfl))) (fun _ _ _ _ _ => (pts_one (pt_val (pe_call (ok_law_apart T) (hr.mono (by decide)) (by rfl) T.g_law_apart T.F_law_apart.kp T.bb_law_apart .nil pass0 (pa_cons (pv 1) (pa_cons (pv 4) (pa_cons (pv 5) pa_nil))))))) (fun _ _ _ _ _ => (pv 5))) (pe_lst pa_nil) (nomark _)) (pss_one (ps_expr (pe_bm PySem.F.plainAttrs_list PySem.F.slot_list_append PySem.F.type_list_append mt_append (pv 2) (pa_cons (pv 4) pa_nil)))) pss_nil))))
      (pss_one (ps_ret (pv 2))))), ?_⟩
    refine ⟨(by show 0 ≤ sizeLine; decide), fun F hF => ?_⟩
    obtain ⟨Ft, Fg⟩ := hT.at_ne hF
    have A1 := A0.new (o := HO.lst []) hF
    refine ⟨_, rfl, t, g, n, 6, rfl, A1.T, by decide, by decide, Nat.lt_trans (hb' _ (by omega)) (by decide), fun H2 c c0 c1 T2 k2 => ?_⟩
    have A2 := A1.step T2 k2
    have gF2 := k2 _ _ (upd_same : (upd H F (.lst [])) F = some (.lst [])) Ft Fg
    refine ⟨c, rfl, by omega, by omega, ?_⟩
    refine for_range (lo := 0) (n := c.toNat) (fun i σ' H' => ∃ (u3 u4 u5 : Option V) (ls : List Lk), σ' = [some (.ref t), some (.int w'), some (.ref F), u3, u4, u5] ∧ At H H' t g (n + 1 + 12 * i) ∧ LAt K H' F (ls.map encL) ∧ Known w' w' ls ∧ (∀ l ∈ ls, -(w' : Int) ≤ l.2.1 ∧ l.2.1 ≤ 2 * w') ∧ ls.length ≤ i) ⟨_, _, _, [], rfl, A2, ⟨[], gF2, .nil⟩, Known.nil hw0, (fun _ z => by cases z), Nat.le_refl _⟩ ?_ ?_
    rotate_left
    · rintro σ' H3 ⟨u3, u4, u5, ls, rfl, A3, lF, N, hx, hl⟩
      exact ⟨_, rfl, k H3 F ls hF (A3.up (by omega)) lF N hx (by omega)⟩
    rintro i σ' H3 hi ⟨u3, u4, u5, ls, rfl, A3, lF, N, hx, hl⟩
    refine ⟨fun σ' H' => ∃ (v : V) (l : Lk), σ' = [some (.ref t), some (.int w'), some (.ref F), some (.int (0 + (i : Nat))), some v, u5] ∧ At H H' t g (n + 1 + 12 * i + 10) ∧ LAt K H' F (ls.map encL) ∧ Dp K H' v (encL l) ∧ WordOk l.1 ∧ (-(w' : Int) ≤ l.2.1 ∧ l.2.1 ≤ 2 * w') ∧ Close w' l, ?_, ?_⟩
    · exact ⟨_, rfl, _, rfl, t, g, n + 1 + 12 * i, w', rfl, A3.T, hb' _ (by omega), hL, hL30, fun H4 v l A4 hv hwl hxl hcl => ⟨v, l, rfl, A3.step A4.T A4.k, lF.keep A3.T A4.k Ft Fg (noLs_map noL_encL ls), hv, hwl, hxl, hcl⟩⟩
    rintro σ1 H4 ⟨v, l, rfl, A4, lF4, hv, hwl, hxl, hcl⟩
    obtain ⟨fv, gF, dF⟩ := id lF4
    have hfv : fv.length = ls.length := by rw [dpAll_len dF, List.length_map]
    refine ⟨_, rfl, F, rfl, ⟨_, SqL.of gF⟩, fun D hD => ?_⟩
    refine lc_list (K := K) (a := F) (xs := fv) (fun j H' => Same H4 H' ∧ ∃ ys, H' D = some (.lst ys) ∧ ys.length ≤ j ∧ DpAll K H' ys (((ls.take j).filter fun o => clashB l o w').map encL)) ⟨same_upd hD, [], upd_same, Nat.le_refl _, .nil⟩ (fun j H' _ ⟨S, _⟩ => SqL.of (S _ _ gF)) ?_ ?_
    · rintro j y H5 hj ⟨S5, ys, gD, hyl, dys⟩
      obtain ⟨dd, hdi, hdy⟩ := dpAll_get dF hj
      obtain ⟨o, ho, rfl⟩ := map_at hdi
      have hom := List.mem_of_getElem? ho
      have hjl : j < ls.length := (List.getElem?_eq_some_iff.mp ho).1
      have e2 : (ls.take (j + 1)).filter (fun o => clashB l o w') = (ls.take j).filter (fun o => clashB l o w') ++ (if clashB l o w' = true then [o] else []) := by
        rw [take_snoc ho, List.filter_append]
        cases c : clashB l o w' <;> simp [c]
      refine ⟨rfl, _, rfl, _, rfl, _, rfl, v, y, w', l, o, rfl, dp_mono S5 _ _ hv, dp_mono S5 _ _ hdy, hL, hLb, hwl, N.wk o hom, hsz hxl hcl, hsz (hx o hom) (N.cl o hom), fun H6 S6 => ⟨_, rfl, ?_⟩⟩
      have S46 := S5.trans S6
      have dys6 := dpAll_mono S6 _ _ dys
      have gD6 := S6 _ _ gD
      cases c : clashB l o w' with
      | false =>
        rw [c] at e2
        refine iteF ⟨S46, ys, gD6, by omega, ?_⟩
        rw [e2]
        simpa using dys6
      | true =>
        rw [c, if_pos rfl] at e2
        refine iteT ⟨_, rfl, ys, gD6, small1000 (by omega), same_set S46 hD, _, upd_same, by simp; omega, ?_⟩
        rw [e2, List.map_append]
        exact acc_step gD6 (noLs_map noL_encL _) rfl dys6 (dp_mono S46 _ _ hdy)
    rintro H5 ⟨S5, ys, gD, hyl, dys⟩
    rw [List.take_of_length_le (by omega)] at dys
    refine ⟨(by show 0 ≤ sizeLine; decide), fun q hq => ?_⟩
    have Sq := same_upd (o := HO.lst []) hq
    have gq : (upd H5 q (.lst [])) q = some (.lst []) := upd_same
    have S6 := S5.trans Sq
    have gD6 := Sq _ _ gD
    have dys6 := dpAll_mono Sq _ _ dys
    generalize upd H5 q (.lst []) = H6 at gq S6 gD6 dys6 ⊢
    have A6 := A4.sm S6
    refine ⟨_, _, .lst (SqL.of gD6) dys6, .lst (SqL.of gq) .nil, shaped_looks (fun l hl => N.wk l (List.mem_filter.mp hl).1), rfl, _, rfl, ?_⟩
    rw [eqv_nil]
    cases c : decide (((ls.filter fun o => clashB l o w').map encL) = []) with
    | false => exact iteF ⟨_, _, _, ls, rfl, A6.up (by omega), lF4.same S6, N, hx, by omega⟩
    | true =>
      have c0 : (ls.filter fun o => clashB l o w') = [] := List.map_eq_nil_iff.mp (of_decide_eq_true c)
      have gF6 := S6 _ _ gF
      refine iteT ⟨_, rfl, .inl ⟨rfl, _, SqL.of gF6⟩, _, rfl, F, fv, v, rfl, rfl, gF6, small1000 (by omega), _, _, _, ls ++ [l], rfl, (A6.acc hF Ft Fg).up (by omega), ?_, N.add hwl hcl c0, fun a ha => ?_, by simp; omega⟩
      · rw [List.map_append]
        exact ⟨_, upd_same, acc_step gF6 (noLs_map noL_encL _) rfl (dpAll_mono S6 _ _ dF) (dp_mono S6 _ _ hv)⟩
      · rcases List.mem_append.mp ha with h | h
        · exact hx a h
        · rw [List.mem_singleton.mp h]; exact hxl
end
end KA
namespace KA
open PySem PySem.Spec PyProof.Rows L2 DP
/-! ### a comprehension in a comprehension -/
theorem lookup_relabel_free {env : Env} : ∀ {names : List (Str × NameKind)} {x : Str}, (names.lookup x = some .cell ∨ names.lookup x = some .free) →
    (names.map fun (n, k) => if (k == NameKind.free && env.scope.kind == .function && env.kindOf n == some .cell) then (n, NameKind.cell) else (n, k)).lookup x = some .cell ∨
    (names.map fun (n, k) => if (k == NameKind.free && env.scope.kind == .function && env.kindOf n == some .cell) then (n, NameKind.cell) else (n, k)).lookup x = some .free
  | [], _, h => by simp at h
  | (n, k) :: r, x, h => by
    have ih := @lookup_relabel_free env r x
    show List.lookup x ((if (k == NameKind.free && env.scope.kind == .function && env.kindOf n == some .cell) = true then (n, NameKind.cell) else (n, k)) :: _) = _ ∨ List.lookup x ((if (k == NameKind.free && env.scope.kind == .function && env.kindOf n == some .cell) = true then (n, NameKind.cell) else (n, k)) :: _) = _
    cases hx : x == n with
    | true =>
      simp only [List.lookup_cons, hx] at h
      by_cases hc : (k == NameKind.free && env.scope.kind == .function && env.kindOf n == some .cell) = true
      · rw [if_pos hc]; left; simp [List.lookup_cons, hx]
      · rw [if_neg hc]; simp only [List.lookup_cons, hx]; exact h
    | false =>
      simp only [List.lookup_cons, hx] at h
      by_cases hc : (k == NameKind.free && env.scope.kind == .function && env.kindOf n == some .cell) = true
      · rw [if_pos hc]; simp only [List.lookup_cons, hx]; exact ih h
      · rw [if_neg hc]; simp only [List.lookup_cons, hx]; exact ih h
theorem blkOk_in {N : List Str} {sc scope : Scope} {own : List (Str × Nat)} {env : Env} (h : blkC N sc scope own = true) : BlkOk N (relabel sc env) scope own := by
  have o := blkOk_by h
  exact ⟨o.kind, o.uniq, o.ix, fun y hy e => lookup_relabel_free (o.free y hy e), o.own⟩
theorem pi_listK {X : Cx} {K : PySem.W.Frag} {tg l : Expr} {tl : TE} (hl : PE X l tl) (h : X.K = K := by rfl) : PI X tg l (iList K tl) := by subst h; exact pi_list hl
end KA
namespace KA
open PySem PySem.Spec PyProof.Rows L2 DP
noncomputable def fitE (ls : List Lk) (e : Ro) : Bool := ls.all fun l => isSo e.2 l
theorem vals_fit {L : Int} {w : Nat} {ls : List Lk} {es : List Ro} (h : vals es = tabs L (-(4 * L)) (4 * L) (w - 1)) : vals (es.filter (fitE ls)) = fitsOf L w ls := by
  unfold fitsOf
  rw [← h]
  unfold vals
  rw [List.filter_map]; rfl
theorem fits_ex {L : Int} {w : Nat} {ls : List Lk} {es : List Ro} (h : vals es = tabs L (-(4 * L)) (4 * L) (w - 1)) {r : List Int} : r ∈ fitsOf L w ls ↔ ∃ e ∈ es.filter (fitE ls), e.2 = r := by
  rw [← vals_fit h]
  unfold vals
  rw [List.mem_map]
theorem rowL_at {r : List Int} {s : Nat} (h : s < r.length) : rowL r (s : Int) = r.getD s 0 := by
  unfold rowL
  have e1 : (s : Int) % (r.length : Int) = (s : Int) := Int.emod_eq_of_lt (by omega) (by omega)
  have e2 : (s : Int) / (r.length : Int) = 0 := Int.ediv_eq_zero_of_lt (by omega) (by omega)
  rw [e1, e2, Int.zero_mul, Int.add_zero, Int.toNat_natCast]
theorem ros_dp {K : PySem.W.Frag} {H : Hp} : ∀ {fs : List Ro}, (∀ e ∈ fs, H e.1 = some (.lst (e.2.map V.int))) → DpAll K H (refs (adr fs)) (fs.map fun e => .list (e.2.map .int))
  | [], _ => .nil
  | e :: fs, h => .cons (.lst (SqL.of (h e List.mem_cons_self)) (dpAll_ints e.2)) (ros_dp fun q hq => h q (List.mem_cons_of_mem _ hq))
theorem shaped_ros (fs : List Ro) : SeqAt.shaped (.list (fs.map fun e => .list (e.2.map .int))) = true := by
  have q : ∀ r : List Int, (PyData.list (r.map .int)).canLay0 = true ∧ (PyData.list (r.map .int)).depth ≤ 1 := fun r => by
    have h1 : PyData.canLayAll0 (r.map .int) = true := by
      induction r with
      | nil => rfl
      | cons a r ih => simp [PyData.canLayAll0, PyData.canLay0, ih]
    refine ⟨by rw [PyData.canLay0, h1], ?_⟩
    rw [PyData.depth]
    have := PySem.W.depth_ints r
    omega
  have h1 : ∀ fs : List Ro, PyData.canLayAll0 (fs.map fun e => .list (e.2.map .int)) = true := fun fs => by
    induction fs with
    | nil => rfl
    | cons e fs ih => rw [List.map_cons, PyData.canLayAll0, ih, (q e.2).1]; rfl
  have h2 : ∀ fs : List Ro, PyData.depthAll (fs.map fun e => PyData.list (e.2.map .int)) ≤ 2 := fun fs => by
    induction fs with
    | nil => simp [PyData.depthAll]
    | cons e fs ih =>
      rw [List.map_cons, PyData.depthAll]
      have := (q e.2).2
      omega
  unfold SeqAt.shaped
  rw [PyData.canLay0, h1, PyData.depth]
  have := h2 fs
  simp; omega
theorem word_low {l : Lk} (h : WordOk l.1) : l.1 ≠ "upto" ↔ onSide "slow" l.1 = true := by
  rcases h with e | e | e <;> rw [e] <;> decide +kernel
theorem word_high {l : Lk} (h : WordOk l.1) : l.1 ≠ "from" ↔ onSide "fast" l.1 = true := by
  rcases h with e | e | e <;> rw [e] <;> decide +kernel
theorem side_by {sd oth : Str} {ls : List Lk} (h : ∀ l ∈ ls, (l.1 ≠ oth ↔ onSide sd l.1 = true)) : (ls.filter fun l => decide (l.1 ≠ oth)) = sideOf sd ls := by
  unfold sideOf
  refine List.filter_congr fun l hl => ?_
  rw [Bool.eq_iff_iff, decide_eq_true_iff]
  exact h l hl
end KA
namespace KA
open PySem PySem.Spec PyProof.Rows L2 DP
theorem bst_is {sd : Str} (hs : SideOk sd) {ls : List Lk} (h : ls ≠ []) (x L : Int) : IsBest sd ls x L (bst sd ls x L) := by
  rcases hs with rfl | rfl
  · exact bst_slow h x L
  · exact bst_fast h x L
/-- a hand and one that leads back -/
structure Adj (f g : Int → Int) : Prop where
  lo : ∀ x, g (f x) ≤ x
  hi : ∀ x, x < g (f x + 1)
def oth (sd : Str) : Str := if sd = "slow" then "fast" else "slow"
theorem oth_ok {sd : Str} (hs : SideOk sd) : SideOk (oth sd) := by
  unfold oth
  split
  · exact .inr rfl
  · exact .inl rfl
theorem oth_oth {sd : Str} (hs : SideOk sd) : oth (oth sd) = sd := by
  rcases hs with rfl | rfl
  · decide +kernel
  · decide +kernel
theorem oth_slow : oth "slow" = "fast" := if_pos rfl
theorem oth_fast : oth "fast" = "slow" := if_neg slow_ne
theorem bk_nil {sd : Str} (hs : SideOk sd) {ls : List Lk} (hw : ∀ l ∈ ls, WordOk l.1) : sideOf (oth sd) (bk ls) = [] ↔ sideOf sd ls = [] := by
  rcases hs with rfl | rfl
  · rw [oth_slow]
    constructor
    · intro h
      refine List.eq_nil_iff_forall_not_mem.mpr fun l hl => ?_
      obtain ⟨h1, h2⟩ := mem_side.mp hl
      have : upL l ∈ sideOf "fast" (bk ls) := mem_side.mpr ⟨mem_bk.mpr ⟨l, h1, .inl ⟨slow_from h2, rfl⟩⟩, show onSide "fast" "upto" = true by decide +kernel⟩
      rw [h] at this; cases this
    · intro h
      refine List.eq_nil_iff_forall_not_mem.mpr fun q hq => ?_
      obtain ⟨h1, h2⟩ := mem_side.mp hq
      obtain ⟨l, hl, n, rfl⟩ := bk_fast h1 h2
      have : l ∈ sideOf "slow" ls := mem_side.mpr ⟨hl, not_upto (hw l hl) n⟩
      rw [h] at this; cases this
  · rw [oth_fast]
    constructor
    · intro h
      refine List.eq_nil_iff_forall_not_mem.mpr fun l hl => ?_
      obtain ⟨h1, h2⟩ := mem_side.mp hl
      have : frL l ∈ sideOf "slow" (bk ls) := mem_side.mpr ⟨mem_bk.mpr ⟨l, h1, .inr ⟨fast_upto h2, rfl⟩⟩, show onSide "slow" "from" = true by decide +kernel⟩
      rw [h] at this; cases this
    · intro h
      refine List.eq_nil_iff_forall_not_mem.mpr fun q hq => ?_
      obtain ⟨h1, h2⟩ := mem_side.mp hq
      obtain ⟨l, hl, n, rfl⟩ := bk_slow h1 h2
      have : l ∈ sideOf "fast" ls := mem_side.mpr ⟨hl, not_from (hw l hl) n⟩
      rw [h] at this; cases this
theorem int_of {a b : Int} (h : V.int a = V.int b) : a = b := V.int.inj h
theorem bk_adj {sd : Str} (hs : SideOk sd) {L : Int} (hL : 0 < L) {ls : List Lk} (hw : ∀ l ∈ ls, WordOk l.1) (h : sideOf sd ls ≠ []) : Adj (fun x => bst sd (sideOf sd ls) x L) (fun m => bst (oth sd) (sideOf (oth sd) (bk ls)) m L) := by
  have hb : sideOf (oth sd) (bk ls) ≠ [] := fun e => h ((bk_nil hs hw).mp e)
  have tl : ∀ m, Tells (oth sd) (bk ls) m L (.int (bst (oth sd) (sideOf (oth sd) (bk ls)) m L)) := fun m => .inr ⟨_, rfl, bst_is (oth_ok hs) hb m L⟩
  refine ⟨fun x => ?_, fun x => ?_⟩
  · have b := bst_is hs h x L
    have t := tl (bst sd (sideOf sd ls) x L)
    rcases hs with rfl | rfl
    · obtain ⟨a, e, ha⟩ := back_least1 hL b t
      rw [← int_of e] at ha; exact ha
    · obtain ⟨a, e, ha⟩ := back_greatest1 hL hw b t
      rw [← int_of e] at ha; exact ha
  · have b := bst_is hs h x L
    have t := tl (bst sd (sideOf sd ls) x L + 1)
    rcases hs with rfl | rfl
    · obtain ⟨a, e, ha⟩ := back_least2 hL hw b t
      rw [← int_of e] at ha; exact ha
    · obtain ⟨a, e, ha⟩ := back_greatest2 hL b t
      rw [← int_of e] at ha; exact ha
theorem heard_side {sd : Str} {L : Int} {ls : List Lk} : sideOf sd (heardAll L ls) = [] ↔ sideOf sd ls = [] := side_nil heardAll_mem
theorem bst_heard {sd : Str} (hs : SideOk sd) {L : Int} (hL : 0 < L) {ls : List Lk} (h : sideOf sd ls ≠ []) (y : Int) : bst sd (sideOf sd (heardAll L ls)) y L = bst sd (sideOf sd ls) y L := by
  have h2 : sideOf sd (heardAll L ls) ≠ [] := fun e => h (heard_side.mp e)
  exact (bst_of (best_home hL heardAll_mem (bst_is hs h2 y L))).symm
theorem words_heard {L : Int} {ls : List Lk} (hw : ∀ l ∈ ls, WordOk l.1) : ∀ l ∈ heardAll L ls, WordOk l.1 := fun l hl => by
  obtain ⟨q, hq, rfl⟩ := (heardAll_mem l).mp hl
  exact hw q hq
/-! ### tables led back -/
theorem adj_iff {f g : Int → Int} (m : ∀ x y, x ≤ y → g x ≤ g y) (A : Adj f g) (y z : Int) : g y ≤ z ↔ y ≤ f z := by
  constructor
  · intro h
    by_cases c : y ≤ f z
    · exact c
    · have h1 := A.hi z
      have h2 := m (f z + 1) y (by omega)
      omega
  · intro h
    exact Int.le_trans (m _ _ h) (A.lo z)
theorem adj_one {f g g' : Int → Int} (m : ∀ x y, x ≤ y → g x ≤ g y) (m' : ∀ x y, x ≤ y → g' x ≤ g' y) (A : Adj f g) (A' : Adj f g') (y : Int) : g y = g' y := by
  have h1 := (adj_iff m A y (g' y)).mpr ((adj_iff m' A' y (g' y)).mp (Int.le_refl _))
  have h2 := (adj_iff m' A' y (g y)).mpr ((adj_iff m A y (g y)).mp (Int.le_refl _))
  omega
theorem bst_hand {sd : Str} (hs : SideOk sd) {L : Int} (hL : 0 < L) {ks : List Lk} (h : ks ≠ []) : Hand L (fun x => bst sd ks x L) :=
  ⟨fun x y hxy => best_mono hL (bst_is hs h x L) (bst_is hs h y L) hxy, fun x k => bst_of (best_shift hL k (bst_is hs h x L))⟩
def frT (w : Nat) (r : List Int) : List Lk := (List.range w).map fun (i : Nat) => (("from", (i : Int), r.getD i 0) : Lk)
noncomputable def bkR (w : Nat) (r : List Int) : Int → Int := fun m => bst "fast" (sideOf "fast" (bk (frT w r))) m w
theorem fits_from {f : Int → Int} {a b : Int} : Fits f ("from", a, b) ↔ b ≤ f a :=
  ⟨fun h => h.1 (show onSide "slow" "from" = true by decide +kernel), fun h => ⟨fun _ => h, fun c => absurd (show onSide "fast" "from" = true from c) (by decide +kernel)⟩⟩
theorem fits_upto {f : Int → Int} {a b : Int} : Fits f ("upto", a, b) ↔ f a ≤ b :=
  ⟨fun h => h.2 (show onSide "fast" "upto" = true by decide +kernel), fun h => ⟨fun c => absurd (show onSide "slow" "upto" = true from c) (by decide +kernel), fun _ => h⟩⟩
theorem fits_atL {f : Int → Int} {a b : Int} : Fits f ("at", a, b) ↔ b ≤ f a ∧ f a ≤ b :=
  ⟨fun h => ⟨h.1 on_at.1, h.2 on_at.2⟩, fun h => ⟨fun _ => h.1, fun _ => h.2⟩⟩
theorem frT_words {w : Nat} {r : List Int} : ∀ l ∈ frT w r, WordOk l.1 := fun l hl => by
  obtain ⟨i, _, rfl⟩ := List.mem_map.mp hl
  exact .inr (.inl rfl)
theorem frT_slow {w : Nat} {r : List Int} : sideOf "slow" (frT w r) = frT w r := List.filter_eq_self.mpr fun l hl => by
  obtain ⟨i, _, rfl⟩ := List.mem_map.mp hl
  show onSide "slow" "from" = true
  decide +kernel
theorem rowL_at' {r : List Int} {s : Nat} (h : s < r.length) : rowL r (s : Int) = r.getD s 0 := rowL_at h
theorem back_hand {w : Nat} (hw : 0 < w) {r : List Int} (R : IsRow w r) : Hand (w : Int) (bkR w r) ∧ Adj (rowL r) (bkR w r) := by
  have F := R.hand hw
  have hL : (0 : Int) < (w : Int) := by omega
  have hne : frT w r ≠ [] := fun e => by
    have := congrArg List.length e
    simp [frT] at this; omega
  have hne' : sideOf "slow" (frT w r) ≠ [] := by rw [frT_slow]; exact hne
  have eb : (fun x => bst "slow" (sideOf "slow" (frT w r)) x (w : Int)) = rowL r := funext fun x => by
    rw [frT_slow]
    have m0 := Int.emod_nonneg x (show (w : Int) ≠ 0 by omega)
    have m1 := Int.emod_lt_of_pos x hL
    have m2 := Int.mul_ediv_add_emod x (w : Int)
    refine bst_of ⟨⟨("from", (((x % w).toNat : Nat) : Int), r.getD (x % w).toNat 0), List.mem_map.mpr ⟨(x % w).toNat, List.mem_range.mpr (by omega), rfl⟩, ?_⟩, fun l hl => ?_⟩
    · rw [plc_slow]
      have e1 : (((x % (w : Int)).toNat : Nat) : Int) = x % w := by omega
      show r.getD (x % (w : Int)).toNat 0 + (x - (((x % (w : Int)).toNat : Nat) : Int)) / w * w = rowL r x
      rw [e1]
      have e2 : x - x % (w : Int) = (w : Int) * (x / w) := by omega
      rw [e2, Int.mul_ediv_cancel_left _ (by omega : (w : Int) ≠ 0)]
      unfold rowL
      rw [R.len]
    · obtain ⟨i, hi, rfl⟩ := List.mem_map.mp hl
      have hi := List.mem_range.mp hi
      rw [if_pos rfl]
      refine fit_low hL F (fits_from.mpr ?_) (show onSide "slow" "from" = true by decide +kernel) x
      rw [rowL_at (by rw [R.len]; exact hi)]; exact Int.le_refl _
  have A := bk_adj (.inl rfl) hL (ls := frT w r) frT_words hne'
  rw [oth_slow, eb] at A
  have hb : sideOf "fast" (bk (frT w r)) ≠ [] := fun e => hne' ((bk_nil (sd := "slow") (.inl rfl) frT_words).mp (by rw [oth_slow]; exact e))
  exact ⟨bst_hand (.inr rfl) hL hb, A⟩
theorem fits_bk {f g : Int → Int} (A : ∀ y z, g y ≤ z ↔ y ≤ f z) {l : Lk} (hl : WordOk l.1) : Fits f l ↔ ∀ q ∈ bk1 l, Fits g q := by
  obtain ⟨u, x, y⟩ := l
  have n1 : ¬ (("at" : Str) = "upto") := by decide +kernel
  have n2 : ¬ (("at" : Str) = "from") := by decide +kernel
  have n3 : ¬ (("from" : Str) = "upto") := by decide +kernel
  have n4 : ¬ (("upto" : Str) = "from") := by decide +kernel
  have hup : Fits g (upL (u, x, y)) ↔ y ≤ f x := by
    show Fits g ("upto", y, x) ↔ _
    rw [fits_upto]; exact A y x
  have hfr : Fits g (frL (u, x, y)) ↔ f x ≤ y := by
    show Fits g ("from", y + 1, x + 1) ↔ _
    rw [fits_from]
    have := A (y + 1) x
    constructor
    · intro h
      by_cases c : f x ≤ y
      · exact c
      · have := this.mpr (by omega)
        omega
    · intro h
      by_cases c : x + 1 ≤ g (y + 1)
      · exact c
      · have := this.mp (by omega)
        omega
  rcases hl with e | e | e
  · have e' : u = "at" := e
    subst e'
    have eb : bk1 ("at", x, y) = [upL ("at", x, y), frL ("at", x, y)] := by
      show (if ("at" : Str) = "upto" then [] else [upL ("at", x, y)]) ++ (if ("at" : Str) = "from" then [] else [frL ("at", x, y)]) = _
      rw [if_neg n1, if_neg n2]; rfl
    rw [eb, fits_atL]
    constructor
    · rintro ⟨a, b⟩ q hq
      rcases List.mem_cons.mp hq with rfl | hq
      · exact hup.mpr a
      · rw [List.mem_singleton.mp hq]; exact hfr.mpr b
    · intro h
      exact ⟨hup.mp (h _ (by simp)), hfr.mp (h _ (by simp))⟩
  · have e' : u = "from" := e
    subst e'
    have eb : bk1 ("from", x, y) = [upL ("from", x, y)] := by
      show (if ("from" : Str) = "upto" then [] else [upL ("from", x, y)]) ++ (if ("from" : Str) = "from" then [] else [frL ("from", x, y)]) = _
      rw [if_neg n3, if_pos rfl]; rfl
    rw [eb, fits_from]
    constructor
    · intro a q hq
      rw [List.mem_singleton.mp hq]; exact hup.mpr a
    · intro h
      exact hup.mp (h _ (by simp))
  · have e' : u = "upto" := e
    subst e'
    have eb : bk1 ("upto", x, y) = [frL ("upto", x, y)] := by
      show (if ("upto" : Str) = "upto" then [] else [upL ("upto", x, y)]) ++ (if ("upto" : Str) = "from" then [] else [frL ("upto", x, y)]) = _
      rw [if_pos rfl, if_neg n4]; rfl
    rw [eb, fits_upto]
    constructor
    · intro a q hq
      rw [List.mem_singleton.mp hq]; exact hfr.mpr a
    · intro h
      exact hfr.mp (h _ (by simp))
theorem fit_home_iff {L : Int} {f : Int → Int} (F : Hand L f) {l : Lk} : Fits f (home L l) ↔ Fits f l := by
  refine ⟨fun h => ?_, fit_home F⟩
  have e : f (home L l).2.1 = f l.2.1 - l.2.1 / L * L := by
    show f (l.2.1 - l.2.1 / L * L) = _
    have := F.turn l.2.1 (-(l.2.1 / L))
    rw [Int.neg_mul] at this
    rw [Int.sub_eq_add_neg, this]; omega
  refine ⟨fun hs => ?_, fun hs => ?_⟩
  · have h1 : l.2.2 - l.2.1 / L * L ≤ f (home L l).2.1 := h.1 hs
    rw [e] at h1
    omega
  · have h1 : f (home L l).2.1 ≤ l.2.2 - l.2.1 / L * L := h.2 hs
    rw [e] at h1
    omega
theorem fits_heard {L : Int} {f : Int → Int} (F : Hand L f) {ls : List Lk} : (∀ q ∈ heardAll L ls, Fits f q) ↔ ∀ l ∈ ls, Fits f l := by
  constructor
  · intro h l hl
    exact (fit_home_iff F).mp (h _ ((heardAll_mem _).mpr ⟨l, hl, rfl⟩))
  · intro h q hq
    obtain ⟨l, hl, rfl⟩ := (heardAll_mem q).mp hq
    exact (fit_home_iff F).mpr (h l hl)
theorem bk_words {ls : List Lk} : ∀ l ∈ bk ls, WordOk l.1 := fun l hl => bk_word hl
/-- a table is as the looks just where, led back, it is as those led back -/
theorem back_fits {w : Nat} (hw : 0 < w) {r : List Int} (R : IsRow w r) {ls : List Lk} (wk : ∀ l ∈ ls, WordOk l.1) : (∀ l ∈ ls, isSo r l = true) ↔ ∀ q ∈ heardAll w (bk (heardAll w ls)), isSo (tabOf w (bkR w r)) q = true := by
  obtain ⟨G, A⟩ := back_hand hw R
  have F := R.hand hw
  have el : rowL (tabOf w (bkR w r)) = bkR w r := funext fun z => tabOf_led hw G z
  have h1 : (∀ l ∈ ls, isSo r l = true) ↔ ∀ l ∈ heardAll (w : Int) ls, Fits (rowL r) l := by
    rw [fits_heard F]
    exact ⟨fun h l hl => (isSo_fits (wk l hl)).mp (h l hl), fun h l hl => (isSo_fits (wk l hl)).mpr (h l hl)⟩
  have h2 : (∀ q ∈ heardAll (w : Int) (bk (heardAll w ls)), isSo (tabOf w (bkR w r)) q = true) ↔ ∀ q ∈ bk (heardAll (w : Int) ls), Fits (bkR w r) q := by
    rw [← fits_heard G]
    constructor
    · intro h q hq
      have := (isSo_fits (words_heard bk_words q hq)).mp (h q hq)
      rwa [el] at this
    · intro h q hq
      rw [isSo_fits (words_heard bk_words q hq), el]
      exact h q hq
  rw [h1, h2]
  have A' := adj_iff G.mono A
  constructor
  · intro h q hq
    obtain ⟨l, hl, hq⟩ := List.mem_flatMap.mp hq
    exact (fits_bk A' (words_heard wk l hl)).mp (h l hl) q hq
  · intro h l hl
    exact (fits_bk A' (words_heard wk l hl)).mpr fun q hq => h q (List.mem_flatMap.mpr ⟨l, hl, hq⟩)
theorem hand_fitsF {L : Int} (hL : 0 < L) {ks : List Lk} (nc : ∀ a ∈ ks, ∀ b ∈ ks, clashB a b L = false) (hne : sideOf "fast" ks ≠ []) : ∀ l ∈ ks, Fits (fun x => bst "fast" (sideOf "fast" ks) x L) l := fun l hl => by
  refine ⟨fun s => ?_, fun s => ?_⟩
  · obtain ⟨⟨a, ha, e⟩, _⟩ := bst_fast hne l.2.1 L
    have h1 := far_le (no_far_of (nc l hl a (mem_side.mp ha).1)).1 s (mem_side.mp ha).2
    have h2 := cross hL h1 l.2.1
    rw [plc_slow, Int.sub_self, Int.zero_ediv, Int.zero_mul] at h2
    show l.2.2 ≤ bst "fast" (sideOf "fast" ks) l.2.1 L
    omega
  · have h1 := (bst_fast hne l.2.1 L).2 l (mem_side.mpr ⟨hl, s⟩)
    rw [if_neg slow_ne, plc_fast, Int.sub_self, Int.zero_ediv, Int.zero_mul] at h1
    show bst "fast" (sideOf "fast" ks) l.2.1 L ≤ l.2.2
    omega
theorem row_in {L : Int} (hL : 0 < L) {w : Nat} (ew : L = (w : Int)) {ls : List Lk} (wk : ∀ l ∈ ls, WordOk l.1) {f : Int → Int} (F : Hand L f) (ff : ∀ l ∈ ls, Fits f l) (n0 : -(4 * L) ≤ f 0) (n1 : f 0 ≤ 4 * L) : tabOf w f ∈ fitsOf L w ls ∧ rowL (tabOf w f) = f := by
  have hw : 0 < w := by omega
  have Fw : Hand (w : Int) f := by rw [← ew]; exact F
  have R := tabOf_row hw Fw
  have el : rowL (tabOf w f) = f := funext fun z => tabOf_led hw Fw z
  refine ⟨fitsOf_mem.mpr ⟨(tabs_mem (by omega) (w - 1) _).mpr ⟨by rw [R.len]; omega, R.up, fun z hz => by have := R.near z hz; rw [ew]; exact this, ?_, ?_⟩, fun l hl => ?_⟩, el⟩
  · rw [tabOf_at hw]; exact n0
  · rw [tabOf_at hw]; exact n1
  · rw [isSo_fits (wk l hl), el]
    exact ff l hl
section
variable {w : Nat} {ls : List Lk}
theorem Known.row (N : Known (w : Int) w ls) {r : List Int} (h : r ∈ fitsOf (w : Int) w ls) : IsRow w r := tab_row (by have := N.pos; omega) rfl (fitsOf_mem.mp h).1
theorem Known.backFit (N : Known (w : Int) w ls) {r : List Int} (h : r ∈ fitsOf (w : Int) w ls) : Hand (w : Int) (bkR w r) ∧ ∀ q ∈ heardAll w (bk (heardAll w ls)), Fits (bkR w r) q := by
  have hw : 0 < w := by have := N.pos; omega
  have R := N.row h
  obtain ⟨G, A⟩ := back_hand hw R
  have el : rowL (tabOf w (bkR w r)) = bkR w r := funext fun z => tabOf_led hw G z
  refine ⟨G, fun q hq => ?_⟩
  have := (back_fits hw R N.wk).mp (fitsOf_mem.mp h).2 q hq
  rw [isSo_fits (words_heard bk_words q hq), el] at this
  exact this
theorem back_side {sd : Str} (hs : SideOk sd) (wk : ∀ l ∈ ls, WordOk l.1) : sideOf (oth sd) (heardAll (w : Int) (bk (heardAll w ls))) = [] ↔ sideOf sd ls = [] := by
  rw [heard_side, bk_nil hs (words_heard wk), heard_side]
theorem Known.backEnd (N : Known (w : Int) w ls) {sd : Str} (hs : SideOk sd) {y m : Int} (b : IsBest (oth sd) (sideOf (oth sd) (heardAll (w : Int) (bk (heardAll w ls)))) y w m) (hne : sideOf sd ls ≠ []) (ff : ∀ l ∈ ls, Fits (fun x => bst sd (sideOf sd ls) x (w : Int)) l) (n0 : -(4 * (w : Int)) ≤ bst sd (sideOf sd ls) 0 w) (n1 : bst sd (sideOf sd ls) 0 w ≤ 4 * (w : Int)) : ∃ r ∈ fitsOf (w : Int) w ls, bkR w r y = m := by
  have hL := N.pos
  have hw : 0 < w := by omega
  have F := bst_hand hs hL hne
  obtain ⟨h1, h2⟩ := row_in hL rfl N.wk F ff n0 n1
  refine ⟨_, h1, ?_⟩
  obtain ⟨G, A⟩ := back_hand hw (N.row h1)
  rw [h2] at A
  have hne2 : sideOf sd (heardAll (w : Int) ls) ≠ [] := fun z => hne (heard_side.mp z)
  have A2 := bk_adj hs hL (words_heard N.wk) hne2
  have ef : (fun x => bst sd (sideOf sd (heardAll (w : Int) ls)) x w) = fun x => bst sd (sideOf sd ls) x (w : Int) := funext fun x => bst_heard hs hL hne x
  rw [ef] at A2
  have hb2 : sideOf (oth sd) (bk (heardAll (w : Int) ls)) ≠ [] := fun e => hne2 ((bk_nil hs (words_heard N.wk)).mp e)
  have G2 := bst_hand (oth_ok hs) hL hb2
  rw [adj_one G.mono G2.mono A A2 y]
  exact bst_of (best_home hL heardAll_mem b)
theorem Known.backLeast (N : Known (w : Int) w ls) {y m : Int} (b : IsBest "slow" (sideOf "slow" (heardAll (w : Int) (bk (heardAll w ls)))) y w m) : (∃ r ∈ fitsOf (w : Int) w ls, bkR w r y = m) ∧ ∀ r ∈ fitsOf (w : Int) w ls, m ≤ bkR w r y := by
  have hne : sideOf "fast" ls ≠ [] := fun z => by
    have := (back_side (w := w) (sd := "fast") (.inr rfl) N.wk).mpr z
    rw [oth_fast] at this
    obtain ⟨⟨l, hl, _⟩, _⟩ := b
    rw [this] at hl; cases hl
  have n := near_high N.pos N.cl (bst_fast hne 0 (w : Int))
  have hp := N.pos
  refine ⟨N.backEnd (sd := "fast") (.inr rfl) (by rw [oth_fast]; exact b) hne (hand_fitsF N.pos N.nc hne) (by omega) (by omega), fun r hr => ?_⟩
  obtain ⟨G, gf⟩ := N.backFit hr
  obtain ⟨⟨a, ha, e⟩, _⟩ := b
  rw [← e]
  exact fit_low N.pos G (gf a (mem_side.mp ha).1) (mem_side.mp ha).2 y
theorem Known.backGreatest (N : Known (w : Int) w ls) {y m : Int} (b : IsBest "fast" (sideOf "fast" (heardAll (w : Int) (bk (heardAll w ls)))) y w m) : (∃ r ∈ fitsOf (w : Int) w ls, bkR w r y = m) ∧ ∀ r ∈ fitsOf (w : Int) w ls, bkR w r y ≤ m := by
  have hne : sideOf "slow" ls ≠ [] := fun z => by
    have := (back_side (w := w) (sd := "slow") (.inl rfl) N.wk).mpr z
    rw [oth_slow] at this
    obtain ⟨⟨l, hl, _⟩, _⟩ := b
    rw [this] at hl; cases hl
  have n := near_low N.pos N.cl (bst_slow hne 0 (w : Int))
  have hp := N.pos
  refine ⟨N.backEnd (sd := "slow") (.inl rfl) (by rw [oth_slow]; exact b) hne (hand_fits N.pos N.nc hne).2 (by omega) (by omega), fun r hr => ?_⟩
  obtain ⟨G, gf⟩ := N.backFit hr
  obtain ⟨⟨a, ha, e⟩, _⟩ := b
  rw [← e]
  exact fit_high N.pos G (gf a (mem_side.mp ha).1) (mem_side.mp ha).2 y
end
end KA
namespace KA
open PySem PySem.Spec PyProof.Rows L2 DP
noncomputable def dueV (ls : List Lk) (m1 m2 : Int) (i : Nat) : List V := [if 0 < i ∧ sideOf "fast" ls = [] then V.non else .int m1, if 1 < i ∧ sideOf "slow" ls = [] then V.non else .int m2]
theorem due_step {ls : List Lk} {m1 m2 : Int} (wk : ∀ l ∈ ls, WordOk l.1) {i : Nat} (hi : i < 2) : ∃ oth sd : Str, (∀ l ∈ ls, (l.1 ≠ oth ↔ onSide sd l.1 = true)) ∧ (i = 0 → oth = "from") ∧ (i = 1 → oth = "upto") ∧ (sideOf sd ls = [] → dueV ls m1 m2 (i + 1) = (dueV ls m1 m2 i).set i .non) ∧ (sideOf sd ls ≠ [] → dueV ls m1 m2 (i + 1) = dueV ls m1 m2 i) := by
  have : i = 0 ∨ i = 1 := by omega
  rcases this with rfl | rfl
  · refine ⟨"from", "fast", fun l hl => word_high (wk l hl), fun _ => rfl, fun z => absurd z (by decide), fun h => ?_, fun h => ?_⟩
    · simp [dueV, h]
    · simp [dueV, h]
  · refine ⟨"upto", "slow", fun l hl => word_low (wk l hl), fun z => absurd z (by decide), fun _ => rfl, fun h => ?_, fun h => ?_⟩
    · simp [dueV, h]
    · simp [dueV, h]
/-- a table within bounds: where it is led back -/
structure Tab (w : Nat) (r : List Int) : Prop where
  row : IsRow w r
  lo : -(4 * (w : Int)) ≤ r.getD 0 0
  hi : r.getD 0 0 ≤ 4 * (w : Int)
theorem Tab.near {w : Nat} (hw : 0 < w) {r : List Int} (T : Tab w r) {y : Int} (h0 : 0 ≤ y) (h1 : y < w) : -(7 * (w : Int)) ≤ bkR w r y ∧ bkR w r y < 7 * (w : Int) := by
  obtain ⟨G, A⟩ := back_hand hw T.row
  have F := T.row.hand hw
  have A' := adj_iff G.mono A
  have e0 : rowL r 0 = r.getD 0 0 := rowL_at (s := 0) (by rw [T.row.len]; exact hw)
  have lo := T.lo
  have hi := T.hi
  constructor
  · by_cases c : bkR w r y ≤ -(7 * (w : Int)) - 1
    · have h2 := (A' y (-(7 * (w : Int)) - 1)).mp c
      have h3 := F.mono (-(7 * (w : Int)) - 1) (0 + (-7) * (w : Int)) (by omega)
      rw [F.turn, e0] at h3
      omega
    · omega
  · have h3 := F.mono (0 + 6 * (w : Int)) (7 * (w : Int) - 1) (by omega)
    rw [F.turn, e0] at h3
    have := (A' y (7 * (w : Int) - 1)).mpr (by omega)
    omega
def spBackRow : Sp := fun vs H Q _ => ∃ (w : Nat) (q : Addr) (r : List Int), vs = [.int w, .ref q] ∧ H q = some (.lst (r.map V.int)) ∧ 0 < w ∧ w ≤ 4 ∧ Tab w r ∧ ∀ (H' : Hp) (p : Addr), Same H H' → H p = none → H' p = some (.lst ((tabOf w (bkR w r)).map V.int)) → Q (.ref p) H'
def spRight58 (K : PySem.W.Frag) : Sp := fun vs H Q _ => ∃ (kp : Addr) (w : Nat) (ls : List Lk), vs = [.int w, .ref kp] ∧ 0 < w ∧ w ≤ 4 ∧ LAt K H kp (ls.map encL) ∧ Known w w ls ∧ (∀ l ∈ ls, -(w : Int) ≤ l.2.1 ∧ l.2.1 ≤ 2 * w) ∧ ls.length ≤ 6 ∧ ∀ H', Same H H' → Q (.bl true) H'
def spLaw (K : PySem.W.Frag) : Sp := fun vs H Q _ => ∃ (a : Addr) (ns : List Int), vs = [.ref a] ∧ SqL K H a (ns.map V.int) ∧ ns.length ≤ 63 ∧ ∀ H', Q (.bl true) H'
theorem tabOf_map (w : Nat) (f : Int → Int) : tabOf w f = (List.range w).map fun (i : Nat) => f (i : Int) := rfl
theorem bk_len2 (ls : List Lk) : (bk ls).length ≤ 2 * ls.length := by
  unfold bk
  induction ls with
  | nil => simp
  | cons l ls ih =>
    rw [List.flatMap_cons, List.length_append, List.length_cons]
    have : (bk1 l).length ≤ 2 := by
      unfold bk1 bkA bkB
      split <;> split <;> simp
    omega
theorem heardAll_len2 {L : Int} (ls : List Lk) : (heardAll L ls).length ≤ ls.length := by
  have := fold_len (L := L) ls []
  simpa [heardAll] using this
theorem one_lo (c : Prop) [Decidable c] : -(2 ^ 63) ≤ (if c then (1 : Int) else 0) := by split <;> decide
theorem one_hi (c : Prop) [Decidable c] : (if c then (1 : Int) else 0) < 2 ^ 63 := by split <;> decide
theorem one_sz (c : Prop) [Decidable c] : 1 * (if c then (1 : Int) else 0).toNat ≤ sizeLine := by split <;> decide
theorem home_at {L : Int} (hL : 0 < L) (l : Lk) : 0 ≤ (home L l).2.1 ∧ (home L l).2.1 < L := by
  have h1 := Int.mul_ediv_add_emod l.2.1 L
  have h2 := Int.emod_nonneg l.2.1 (show L ≠ 0 by omega)
  have h3 := Int.emod_lt_of_pos l.2.1 hL
  rw [Int.mul_comm] at h1
  show 0 ≤ l.2.1 - l.2.1 / L * L ∧ l.2.1 - l.2.1 / L * L < L
  omega
theorem home_near {L : Int} (hL : 0 < L) {l : Lk} (h : -L ≤ l.2.1 ∧ l.2.1 ≤ 2 * L) (hc : Close L l) : -(2 * L) ≤ (home L l).2.2 ∧ (home L l).2.2 ≤ 3 * L := by
  have h1 := home_at hL l
  unfold Close at hc
  have e : (home L l).2.2 - (home L l).2.1 = l.2.2 - l.2.1 := by
    show l.2.2 - l.2.1 / L * L - (l.2.1 - l.2.1 / L * L) = _
    omega
  omega
/-- the looks that a table is not as -/
noncomputable def notSo (r : List Int) (ls : List Lk) : List Lk := ls.filter fun l => !isSo r l
theorem notSo_nil {r : List Int} {ls : List Lk} : decide ((notSo r ls).map encL = []) = ls.all fun l => isSo r l := by
  unfold notSo
  rw [Bool.eq_iff_iff, decide_eq_true_iff, List.map_eq_nil_iff, List.filter_eq_nil_iff, List.all_eq_true]
  constructor
  · intro h l hl; simpa using h l hl
  · intro h l hl; simpa using h l hl
theorem notSo_snoc {r : List Int} {ls : List Lk} {l : Lk} {j : Nat} (hl : ls[j]? = some l) : notSo r (ls.take (j + 1)) = notSo r (ls.take j) ++ (if (!isSo r l) = true then [l] else []) := by
  unfold notSo
  rw [take_snoc hl, List.filter_append]
  cases c : isSo r l <;> simp [c]
section
variable {P : Program} {w : World} {K : PySem.W.Frag} {mg : Str → Option Value} {base : Heap} {Z : Ad}
theorem ok_law_back_row (T : Tx K w mg Z) : FnOk P w K mg base CX0 1 Z.a_law_back_row Z.d_law_back_row P_law_back_row (spBackRow) := by
  refine T.F_law_back_row.ok sclaw_back_row (fun vs H Q E h => ?_) (fun cdv A outer s H vs Q E hr h => ?_)
  · obtain ⟨w', q, r, rfl, _⟩ := h
    rfl
  · obtain ⟨w', q, r, rfl, hq, hw0, hw4, T', k⟩ := h
    have hL : (0 : Int) < (w' : Int) := by omega
    have hwb : (w' : Int).natAbs < 2 ^ 10 := Nat.lt_of_le_of_lt (by omega : _ ≤ 4) (by decide)
    have hlen : (r.length : Int) = (w' : Int) := by rw [T'.row.len]
    obtain ⟨G, A⟩ := back_hand hw0 T'.row
    have A' := adj_iff G.mono A
    refine ⟨_, (pss_cons (ps_set (i := 2) sclaw_back_row.nd rfl (Or.inl rfl) (pe_lst pa_nil))
      (pss_cons (ps_for PassesOwn.never rfl (pi_range1 (by rfl) T.b_range (pa_cons (pv 0) pa_nil)) (pg_name (i := 3) sclaw_back_row.nd rfl (Or.inr rfl)) (C8.pss_cut (ps_setLc (i := 4) (own := [("spot", 5)]) (g := gName 5) (tt := _) rfl sclaw_back_row.nd rfl rfl (sw_true rfl rfl rfl (by decide +kernel)) (pi_range2 (by rfl) T.b_range (pa_cons (pe_op op_sub pe_int (pe_op op_mulW pe_int (pv 0))) (pa_cons (pe_op op_mulW pe_int (pv 0)) pa_nil))) (blkOk_by (own := [("spot", 5)]) (N := N_law_back_row) (sc := defScope slaw_back_row) (by decide +kernel)) (fun _ _ _ _ _ => (pg_name (i := 5) sclaw_back_row.nd rfl (Or.inl rfl))) (fun _ _ _ _ _ => (pts_one (pt_cmpR op_ge (pe_op op_sub (pe_op op_add (pe_ix (ixL (K := K)) (pv 1) (pe_op op_mod (pv 5) (pv 0)) (fun _ _ => rfl)) (pv 5)) (pe_op op_mod (pv 5) (pv 0))) (pv 3) (nomark _)))) (fun _ _ _ _ _ => (pv 5)))
      (pss_one (ps_expr (pe_bm PySem.F.plainAttrs_list PySem.F.slot_list_append PySem.F.type_list_append mt_append (pv 2) (pa_cons (pe_ix (ixL (K := K)) (pv 4) pe_int (fun _ _ => rfl)) pa_nil))))))
      (pss_one (ps_ret (pv 2))))), ?_⟩
    refine ⟨(by show 0 ≤ sizeLine; decide), fun F hF => ?_⟩
    have hqF : q ≠ F := ne_of_none hq hF
    refine ⟨_, rfl, (w' : Int), rfl, by omega, by omega, ?_⟩
    refine for_range (lo := 0) (n := (w' : Int).toNat) (fun i σ' H' => ∃ (u3 u4 u5 : Option V), σ' = [some (.int w'), some (.ref q), some (.ref F), u3, u4, u5] ∧ Same H H' ∧ H' F = some (.lst (((List.range i).map fun (j : Nat) => bkR w' r (j : Int)).map V.int))) ⟨_, _, _, rfl, same_upd hF, upd_same⟩ ?_ ?_
    rotate_left
    · rintro σ' H1 ⟨u3, u4, u5, rfl, S1, gF⟩
      refine ⟨_, rfl, k H1 F S1 hF ?_⟩
      rw [tabOf_map]
      rw [Int.toNat_natCast] at gF
      exact gF
    rintro i σ' H1 hi ⟨u3, u4, u5, rfl, S1, gF⟩
    have hiw : i < w' := by omega
    obtain ⟨gy, egy⟩ : ∃ gy, gy = bkR w' r (i : Int) := ⟨_, rfl⟩
    obtain ⟨n0, n1⟩ := T'.near hw0 (y := (i : Int)) (by omega) (by omega)
    rw [← egy] at n0 n1
    have hq1 := S1 _ _ hq
    refine ⟨fun σ' H' => ∃ (sp : Addr) (ns : List Int), σ' = [some (.int w'), some (.ref q), some (.ref F), some (.int (0 + (i : Nat))), some (.ref sp), u5] ∧ Same H1 H' ∧ H1 sp = none ∧ H' sp = some (.lst (ns.map V.int)) ∧ ns.head? = some gy, ?_, ?_⟩
    · refine ⟨_, rfl, _, _, rfl, rfl, wide_mul (a := 10) (by decide) hwb (by decide) (by decide) (by decide), _, _, rfl, rfl, _, rfl, _, _, rfl, rfl, wide_mul (a := 10) (by decide) hwb (by decide) (by decide) (by decide), 0 - 7 * (w' : Int), 7 * (w' : Int), rfl, ⟨by omega, by omega, by omega, by omega⟩, fun D hD => ?_⟩
      refine lc_range (lo := 0 - 7 * (w' : Int)) (n := (7 * (w' : Int) - (0 - 7 * (w' : Int))).toNat) (fun j H' => Same H1 H' ∧ ∃ ns : List Int, H' D = some (.lst (ns.map V.int)) ∧ ns.length ≤ j ∧ (0 - 7 * (w' : Int) + j ≤ gy → ns = []) ∧ (gy < 0 - 7 * (w' : Int) + j → ns.head? = some gy)) ⟨same_upd hD, [], upd_same, Nat.le_refl _, fun _ => rfl, fun z => by omega⟩ ?_ ?_
      · rintro j H2 hj ⟨S2, ns, gD, hnl, hn0, hn1⟩
        obtain ⟨z, ez⟩ : ∃ z, z = 0 - 7 * (w' : Int) + (j : Nat) := ⟨_, rfl⟩
        have hj56 : j < 60 := by omega
        have ez2 : 0 - 7 * (w' : Int) + ((j + 1 : Nat) : Int) = z + 1 := by omega
        rw [← ez] at hn0 hn1 ⊢
        rw [ez2]
        have m0 := Int.emod_nonneg z (Int.ne_of_gt hL)
        have m1 := Int.emod_lt_of_pos z hL
        have hz := Int.mul_ediv_add_emod z (w' : Int)
        have erow : r.getD (z % (w' : Int)).toNat 0 + z - z % (w' : Int) = rowL r z := by
          unfold rowL
          rw [hlen]
          rw [Int.mul_comm] at hz
          omega
        refine ⟨rfl, _, rfl, _, rfl, _, rfl, _, _, rfl, rfl, hL, q, _, _, _, rfl, rfl, SqL.of (S2 _ _ hq1), at_row m0 (by rw [hlen]; exact m1), _, rfl, _, _, rfl, rfl, _, rfl, _, rfl, _, _, rfl, rfl, hL, _, _, rfl, rfl, _, rfl, _, _, rfl, rfl, _, rfl, ite2 (fun c => ?_) (fun c => ?_)⟩
        · have c1 : r.getD (z % (w' : Int)).toNat 0 + z - z % (w' : Int) ≥ 0 + (i : Nat) := of_decide_eq_true c
          rw [erow] at c1
          have c2 : gy ≤ z := by rw [egy]; exact (A' _ _).mpr (by omega)
          refine ⟨_, rfl, _, gD, small1000 (by simp; omega), same_set S2 hD, ns ++ [z], by rw [List.map_append]; exact upd_same, by simp; omega, fun h => by omega, fun _ => ?_⟩
          by_cases c3 : z = gy
          · rw [hn0 (by omega), c3]; rfl
          · have := hn1 (by omega)
            cases ns with
            | nil => cases this
            | cons x xs => exact this
        · have c1 : ¬ r.getD (z % (w' : Int)).toNat 0 + z - z % (w' : Int) ≥ 0 + (i : Nat) := fun e => c (decide_eq_true e)
          rw [erow] at c1
          have c2 : z < gy := by
            by_cases q : gy ≤ z
            · rw [egy] at q
              have := (A' _ _).mp q
              omega
            · omega
          exact ⟨S2, ns, gD, by omega, fun _ => hn0 (by omega), fun h => by omega⟩
      rintro H2 ⟨S2, ns, gD, hnl, hn0, hn1⟩
      exact ⟨D, ns, rfl, S2, hD, gD, hn1 (by omega)⟩
    rintro σ1 H2 ⟨sp, ns, rfl, S2, hsp, gsp, hhd⟩
    obtain ⟨x, xs, rfl⟩ : ∃ x xs, ns = x :: xs := by
      cases ns with
      | nil => cases hhd
      | cons x xs => exact ⟨x, xs, rfl⟩
    have ex : x = gy := Option.some.inj hhd
    subst ex
    have gF2 := S2 _ _ gF
    refine ⟨_, rfl, .inl ⟨rfl, _, SqL.of gF2⟩, _, rfl, sp, _, _, _, rfl, rfl, SqL.of gsp, at_zero (by simp), F, _, _, rfl, rfl, gF2, small1000 (by simp; omega), _, _, _, rfl, same_set (S1.trans S2) hF, ?_⟩
    rw [upd_same, List.range_succ, List.map_append, List.map_append, egy]; rfl
theorem ok_law_right (T : Tx K w mg Z) : FnOk P w K mg base CX0 7 Z.a_law_right Z.d_law_right P_law_right (spRight58 K) := by
  refine T.F_law_right.ok sclaw_right (fun vs H Q E h => ?_) (fun cdv A outer s H vs Q E hr h => ?_)
  · obtain ⟨kp, w', ls, rfl, _⟩ := h
    rfl
  · obtain ⟨kp, w', ls, rfl, hw0, hw4, lk, N, hx, hl6, k⟩ := h
    have hL : (0 : Int) < (w' : Int) := by omega
    have hLb : (w' : Int).natAbs < 2 ^ 200 := Nat.lt_of_le_of_lt (by omega : _ ≤ 4) (by decide)
    have hsz : ∀ {l : Lk}, -(w' : Int) ≤ l.2.1 ∧ l.2.1 ≤ 2 * w' → Close w' l → Sized 300 l := fun {l} h1 h2 => by
      unfold Close at h2
      exact ⟨Nat.lt_of_le_of_lt (by omega : _ ≤ 100) (by decide), Nat.lt_of_le_of_lt (by omega : _ ≤ 100) (by decide)⟩
    have hx150 : ∀ {l : Lk}, -(w' : Int) ≤ l.2.1 ∧ l.2.1 ≤ 2 * w' → l.2.1.natAbs < 2 ^ 150 := fun {l} h1 => Nat.lt_of_le_of_lt (by omega : _ ≤ 100) (by decide)
    obtain ⟨kv, gk, dk⟩ := id lk
    have hkv : kv.length = ls.length := by rw [dpAll_len dk, List.length_map]
    have big : ∀ {m : Nat}, m ≤ 6000 → m < sizeLine := fun {m} hm => Nat.lt_of_le_of_lt hm (by decide)
    refine ⟨_, (C8.pss_cut (ps_set (i := 2) sclaw_right.nd rfl (Or.inl rfl) (pe_make T.mk_Dark (ok_Dark_init T) (hr.mono (by decide)) (by rfl) T.g_Dark T.bb_Dark_init .nil pass0 (pa_cons (pv 0) pa_nil)))
      (pss_cons (ps_for PassesOwn.never rfl (pi_list (pv 1)) (pg_name (i := 3) sclaw_right.nd rfl (Or.inl rfl)) (pss_one (ps_expr (pe_meth (pv 2) T.cl T.m_Dark_hear (ok_Dark_hear T) (hr.mono (by decide)) T.bb_Dark_hear .nil pass0 (pa_cons (pe_ix (ixT (K := K)) (pv 3) pe_int (fun _ _ => rfl)) (pa_cons (pe_ix (ixT (K := K)) (pv 3) pe_int (fun _ _ => rfl)) (pa_cons (pe_ix (ixT (K := K)) (pv 3) pe_int (fun _ _ => rfl)) pa_nil)))))))
      (C8.pss_cut (ps_set (i := 4) sclaw_right.nd rfl (Or.inl rfl) (pe_meth0 (pv 2) T.cl T.m_Dark_led_back (ok_Dark_led_back T) (hr.mono (by decide)) T.bb_Dark_led_back .nil pass0))
      (C8.pss_cut (ps_set (i := 5) sclaw_right.nd rfl (Or.inl rfl) (pe_meth0 (pv 4) T.cl T.m_Dark_looks (ok_Dark_looks T) (hr.mono (by decide)) T.bb_Dark_looks .nil pass0))
      (C8.pss_cut (ps_set (i := 6) sclaw_right.nd rfl (Or.inl rfl) (pe_lst pa_nil))
      (pss_cons (ps_for PassesOwn.never rfl (pi_list (pe_call (ok_law_hands T) (hr.mono (by decide)) (by rfl) T.g_law_hands T.F_law_hands.kp T.bb_law_hands .nil pass0 (pa_cons (pv 0) pa_nil))) (pg_name (i := 7) sclaw_right.nd rfl (Or.inr rfl)) (C8.pss_cut (ps_set (i := 8) sclaw_right.nd rfl (Or.inr rfl) (pe_call (ok_law_back_row T) (hr.mono (by decide)) (by rfl) T.g_law_back_row T.F_law_back_row.kp T.bb_law_back_row .nil pass0 (pa_cons (pv 0) (pa_cons (pv 7) pa_nil))))
      (C8.pss_cut (ps_set (i := 9) sclaw_right.nd rfl (Or.inl rfl) (pe_cmpR (eqDK (K := K) hr.units) (pe_lc (own := [("look", 3)]) (g := gName 3) (tt := _) rfl sclaw_right.nd (pi_list (pv 1)) (blkOk_by (own := [("look", 3)]) (N := N_law_right) (sc := defScope slaw_right) (by decide +kernel)) (fun _ _ _ _ _ => (pg_name (i := 3) sclaw_right.nd rfl (Or.inl rfl))) (fun _ _ _ _ _ => (pts_one (pt_not (pt_val (pe_call (ok_law_is_as T) (hr.mono (by decide)) (by rfl) T.g_law_is_as T.F_law_is_as.kp T.bb_law_is_as .nil pass0 (pa_cons (pv 0) (pa_cons (pv 7) (pa_cons (pv 3) pa_nil)))))))) (fun _ _ _ _ _ => (pv 3))) (pe_lst pa_nil) (nomark _)))
      (C8.pss_cut (ps_if (pt_cmpR (neDK (K := K) hr.units) (pv 9) (pe_cmpR (eqDK (K := K) hr.units) (pe_lc (own := [("look", 3)]) (g := gName 3) (tt := _) rfl sclaw_right.nd (pi_list (pv 5)) (blkOk_by (own := [("look", 3)]) (N := N_law_right) (sc := defScope slaw_right) (by decide +kernel)) (fun _ _ _ _ _ => (pg_name (i := 3) sclaw_right.nd rfl (Or.inl rfl))) (fun _ _ _ _ _ => (pts_one (pt_not (pt_val (pe_call (ok_law_is_as T) (hr.mono (by decide)) (by rfl) T.g_law_is_as T.F_law_is_as.kp T.bb_law_is_as .nil pass0 (pa_cons (pv 0) (pa_cons (pv 8) (pa_cons (pv 3) pa_nil)))))))) (fun _ _ _ _ _ => (pv 3))) (pe_lst pa_nil) (nomark _)) (nomark _)) (pss_one (ps_ret pe_bl)) pss_nil)
      (pss_one (ps_set (i := 6) sclaw_right.nd rfl (Or.inl rfl) (pe_op op_cat (pv 6) (pe_op op_rep (pe_lst (pa_cons (pv 8) pa_nil)) (pe_callTy call_int1 (by rfl) T.b_int (by decide +kernel) (pa_cons (pv 9) pa_nil))))))))))
      (pss_cons (ps_for PassesOwn.never rfl (pi_range1 (by rfl) T.b_range (pa_cons (pv 0) pa_nil)) (pg_name (i := 10) sclaw_right.nd rfl (Or.inr rfl)) (C8.pss_cut (ps_set (i := 11) sclaw_right.nd rfl (Or.inl rfl) (pe_lst (pa_cons (pe_callB (minK (K := K) rfl) (by rfl) T.b_min (by decide +kernel) (pa_cons (pe_lc (own := [("row", 7)]) (g := gName 7) (tt := tYes) rfl sclaw_right.nd (pi_list (pv 6)) (blkOk_by (own := [("row", 7)]) (N := N_law_right) (sc := defScope slaw_right) (by decide +kernel)) (fun _ _ _ _ _ => (pg_name (i := 7) sclaw_right.nd rfl (Or.inl rfl))) (fun _ _ _ _ _ => pts_nil) (fun _ _ _ _ _ => (pe_ix (ixL (K := K)) (pv 7) (pv 10) (fun _ _ => rfl)))) pa_nil)) (pa_cons (pe_callB (maxK (K := K) rfl) (by rfl) T.b_max (by decide +kernel) (pa_cons (pe_lc (own := [("row", 7)]) (g := gName 7) (tt := tYes) rfl sclaw_right.nd (pi_list (pv 6)) (blkOk_by (own := [("row", 7)]) (N := N_law_right) (sc := defScope slaw_right) (by decide +kernel)) (fun _ _ _ _ _ => (pg_name (i := 7) sclaw_right.nd rfl (Or.inl rfl))) (fun _ _ _ _ _ => pts_nil) (fun _ _ _ _ _ => (pe_ix (ixL (K := K)) (pv 7) (pv 10) (fun _ _ => rfl)))) pa_nil)) pa_nil))))
      (pss_cons (ps_for PassesOwn.never rfl (pi_list (pe_lst (pa_cons (pe_tup (pa_cons pe_int (pa_cons pe_str pa_nil))) (pa_cons (pe_tup (pa_cons pe_int (pa_cons pe_str pa_nil))) pa_nil)))) (tupK (K := K) (by rfl) (pgs_cons (pg_name (i := 12) sclaw_right.nd rfl (Or.inl rfl)) (pgs_cons (pg_name (i := 13) sclaw_right.nd rfl (Or.inr rfl)) pgs_nil))) (pss_one (ps_if (pt_cmpR (eqDK (K := K) hr.units) (pe_lc (own := [("look", 3)]) (g := gName 3) (tt := _) rfl sclaw_right.nd (pi_list (pv 1)) (blkOk_by (own := [("look", 3)]) (N := N_law_right) (sc := defScope slaw_right) (by decide +kernel)) (fun _ _ _ _ _ => (pg_name (i := 3) sclaw_right.nd rfl (Or.inl rfl))) (fun _ _ _ _ _ => (pts_one (pt_cmpR op_ne (pe_ix (ixT (K := K)) (pv 3) pe_int (fun _ _ => rfl)) (pv 13) (nomark _)))) (fun _ _ _ _ _ => (pv 3))) (pe_lst pa_nil) (nomark _)) (pss_one (ps_asg pe_non (pg_sub (pv 11) (pv 12) set_list))) pss_nil)))
      (pss_one (ps_if (pt_not (pt_val (pe_call (ok_law_alike T 4) (hr.mono (by decide)) (by rfl) T.g_law_alike T.F_law_alike.kp T.bb_law_alike .nil pass0 (pa_cons (pe_lst (pa_cons (pe_meth (pv 4) T.cl T.m_Dark_least (ok_Dark_least T) (hr.mono (by decide)) T.bb_Dark_least .nil pass0 (pa_cons (pv 10) pa_nil)) (pa_cons (pe_meth (pv 4) T.cl T.m_Dark_greatest (ok_Dark_greatest T) (hr.mono (by decide)) T.bb_Dark_greatest .nil pass0 (pa_cons (pv 10) pa_nil)) pa_nil))) (pa_cons (pv 11) pa_nil))))) (pss_one (ps_ret pe_bl)) pss_nil)))))
      (pss_one (ps_ret pe_bl))))))))), ?_⟩
    -- made
    refine ⟨fun σ' H' => ∃ d : Addr, σ' = [some (.int w'), some (.ref kp), some (.ref d), none, none, none, none, none, none, none, none, none, none, none] ∧ H d = none ∧ Same H H' ∧ DarkAt Z K H' d w' [] ∧ ∀ la dx, H' d = some (.ins Z.C dx (df w' la)) → H la = none, ?_, ?_⟩
    · refine ⟨_, rfl, fun d dx hdn hdx hne => ?_⟩
      have S0 : Same H (upd (upd H dx (.own d)) d (.ins Z.C dx [])) := same_made hdn hdx
      exact ⟨d, dx, w', rfl, upd_same, hL, hLb, fun H1 D1 f1 k1 => ⟨rfl, d, rfl, hdn, fun b o e => k1 b o (S0 b o e) (ne_of_none e hdn), D1, fun la dx e => S0.free (f1 la dx e)⟩⟩
    rintro σ0 H1 ⟨d, rfl, hdn, S1, D1, F1⟩
    -- hear
    refine ⟨_, rfl, kp, rfl, ⟨_, SqL.of (S1 _ _ gk)⟩, ?_⟩
    refine for_list (K := K) (a := kp) (xs := kv) (fun i σ' H' => ∃ (u3 : Option V), σ' = [some (.int w'), some (.ref kp), some (.ref d), u3, none, none, none, none, none, none, none, none, none, none] ∧ Same H H' ∧ DarkAt Z K H' d w' ((ls.take i).foldl (heard w') []) ∧ ∀ la dx, H' d = some (.ins Z.C dx (df w' la)) → H la = none) ⟨_, rfl, S1, D1, F1⟩ (fun i σ' H' _ ⟨_, _, S, _⟩ => SqL.of (S _ _ gk)) ?_ ?_
    · rintro i y σ' H' hi ⟨u3, rfl, S, D, F⟩
      obtain ⟨e, hdi, hdy⟩ := dpAll_get dk hi
      obtain ⟨l, hl, rfl⟩ := map_at hdi
      have hlm := List.mem_of_getElem? hl
      have hi' : i < ls.length := (List.getElem?_eq_some_iff.mp hl).1
      obtain ⟨p, rfl, hp⟩ := dp_look (dp_mono S _ _ hdy)
      obtain ⟨dx', la, vs, g1, g2, g3⟩ := id D.ex
      have hfl := fold_len (L := (w' : Int)) (ls.take i) []
      refine ⟨_, rfl, d, dx', _, rfl, g1, df_no _ _ (by decide +kernel) (by decide +kernel), ?_⟩
      refine ⟨_, rfl, _, _, _, _, rfl, rfl, hp, rfl, _, rfl, _, _, _, _, rfl, rfl, hp, rfl, _, rfl, _, _, _, _, rfl, rfl, hp, rfl, ?_⟩
      refine ⟨d, w', _, l, rfl, D, N.wk l hlm, hsz (hx l hlm) (N.cl l hlm), ?_, fun o ho => ?_, fun H2 D2 f2 k2 => ?_⟩
      · rw [List.length_take] at hfl; simp at hfl; omega
      · obtain h | ⟨q, hq, e⟩ := (fold_mem _ _ _).mp ho
        · cases h
        · rw [e, clash_home hL]
          exact N.nc l hlm q (List.mem_of_mem_take hq)
      · refine ⟨_, rfl, fun b o e => k2 b o (S b o e) (ne_of_none e hdn), ?_⟩
        rw [take_snoc hl, List.foldl_append]
        refine ⟨D2, fun la dx e => ?_⟩
        rcases f2 la dx e with ⟨dx', h⟩ | h
        · exact F la dx' h
        · exact S.free h
    rintro σ' H2 ⟨u3, rfl, S2, D2, F2⟩
    rw [List.take_of_length_le (by omega)] at D2
    obtain ⟨hs, ehs⟩ : ∃ hs, hs = heardAll (w' : Int) ls := ⟨_, rfl⟩
    replace D2 : DarkAt Z K H2 d w' hs := by rw [ehs]; exact D2
    have hhs : hs.length ≤ 6 := by rw [ehs]; exact Nat.le_trans (heardAll_len2 ls) hl6
    have wkh : ∀ l ∈ hs, WordOk l.1 := by rw [ehs]; exact words_heard N.wk
    have nch : ∀ a ∈ hs, ∀ b ∈ hs, clashB a b w' = false := fun a ha b hb => by
      rw [ehs] at ha hb
      obtain ⟨p, hp, rfl⟩ := (heardAll_mem a).mp ha
      obtain ⟨q, hq, rfl⟩ := (heardAll_mem b).mp hb
      rw [clash_home hL]
      exact N.nc p hp q hq
    have szh : ∀ l ∈ hs, Sized 290 l := fun l hl => by
      rw [ehs] at hl
      obtain ⟨q, hq, rfl⟩ := (heardAll_mem l).mp hl
      have h1 := home_at hL q
      have h2 := home_near hL (hx q hq) (N.cl q hq)
      exact ⟨Nat.lt_of_le_of_lt (by omega : _ ≤ 100) (by decide), Nat.lt_of_le_of_lt (by omega : _ ≤ 100) (by decide)⟩
    obtain ⟨js, ejs⟩ : ∃ js, js = heardAll (w' : Int) (bk hs) := ⟨_, rfl⟩
    have hjs : js.length ≤ 12 := by rw [ejs]; exact Nat.le_trans (heardAll_len2 _) (Nat.le_trans (bk_len2 hs) (by omega))
    have wkj : ∀ l ∈ js, WordOk l.1 := by rw [ejs]; exact words_heard bk_words
    have xj : ∀ l ∈ js, l.2.1.natAbs < 2 ^ 150 := fun l hl => by
      rw [ejs] at hl
      obtain ⟨q, hq, rfl⟩ := (heardAll_mem l).mp hl
      have h1 := home_at hL q
      exact Nat.lt_of_le_of_lt (by omega : _ ≤ 100) (by decide)
    have ejs2 : js = heardAll (w' : Int) (bk (heardAll w' ls)) := by rw [ejs, ehs]
    -- back
    obtain ⟨dx2, la2, vs2, g2, _, _⟩ := id D2.ex
    refine ⟨fun σ' H' => ∃ b : Addr, σ' = [some (.int w'), some (.ref kp), some (.ref d), u3, some (.ref b), none, none, none, none, none, none, none, none, none] ∧ Same H2 H' ∧ DarkAt Z K H' b w' js, ?_, ?_⟩
    · refine ⟨_, rfl, d, dx2, _, rfl, g2, df_no _ _ (by decide +kernel) (by decide +kernel), d, w', hs, rfl, D2, szh, nch, by have := bk_len2 hs; omega, fun H3 b hb S3 D3 _ => ⟨b, rfl, S3, by rw [ejs]; exact D3⟩⟩
    rintro σ1 H3 ⟨b, rfl, S3, D3⟩
    obtain ⟨dx3, la3, vs3, g3, _, _⟩ := id D3.ex
    -- due
    refine ⟨fun σ' H' => ∃ (jp : Addr) (jv : List V), σ' = [some (.int w'), some (.ref kp), some (.ref d), u3, some (.ref b), some (.ref jp), none, none, none, none, none, none, none, none] ∧ Same H3 H' ∧ H' jp = some (.lst jv) ∧ DpAll K H' jv (js.map encL), ?_, ?_⟩
    · exact ⟨_, rfl, b, dx3, _, rfl, g3, df_no _ _ (by decide +kernel) (by decide +kernel), b, w', js, rfl, D3, fun p xs H4 hp S4 e1 e2 => ⟨p, xs, rfl, S4, e1, e2⟩⟩
    rintro σ2 H4 ⟨jp, jv, rfl, S4, gj, dj⟩
    have hjv : jv.length = js.length := by rw [dpAll_len dj, List.length_map]
    have D4 := D3.same S4
    have S24 := S3.trans S4
    have S04 := S2.trans S24
    have gk4 := S04 _ _ gk
    have dk4 := dpAll_mono S04 _ _ dk
    -- led
    refine ⟨fun σ' H' => ∃ lp : Addr, σ' = [some (.int w'), some (.ref kp), some (.ref d), u3, some (.ref b), some (.ref jp), some (.ref lp), none, none, none, none, none, none, none] ∧ Same H4 H' ∧ H' lp = some (.lst []), ?_, ?_⟩
    · exact ⟨(by show 0 ≤ sizeLine; decide), fun lp hlp => ⟨lp, rfl, same_upd hlp, upd_same⟩⟩
    rintro σ3 H5 ⟨lp, rfl, S5, glp⟩
    -- for row in hands
    refine ⟨_, rfl, w', rfl, hw0, hw4, fun H6 rp es S6 hrp grp ro hvals hfr => ⟨rp, rfl, ⟨_, SqL.of grp⟩, ?_⟩⟩
    have hbeg : ∀ e ∈ es, Begun (w' : Int) (-(4 * w')) (4 * w') (w' - 1) e.2 := fun e he => (tabs_mem (by omega) (w' - 1) e.2).mp (by rw [← hvals]; exact List.mem_map.mpr ⟨e, he, rfl⟩)
    have htab : ∀ e ∈ es, Tab w' e.2 := fun e he => ⟨tab_row hw0 rfl (by rw [← hvals]; exact List.mem_map.mpr ⟨e, he, rfl⟩), (hbeg e he).lo, (hbeg e he).hi⟩
    have hes : es.length ≤ 5000 := by
      have h0 : es.length = (tabs (w' : Int) (-(4 * w')) (4 * w') (w' - 1)).length := by rw [← hvals]; simp [vals]
      have h1 := tabs_len (w := (w' : Int)) (a := -(4 * w')) (b := 4 * w') (by omega) (w' - 1)
      have h2 : ((w' : Int).toNat + 1) ^ (w' - 1) ≤ 5 ^ (w' - 1) := Nat.pow_le_pow_left (by omega) _
      have h3 : 5 ^ (w' - 1) ≤ 5 ^ 3 := Nat.pow_le_pow_right (by decide) (by omega)
      have h4 : (4 * (w' : Int) + 1 - -(4 * w')).toNat ≤ 33 := by omega
      rw [h0]
      exact Nat.le_trans h1 (Nat.le_trans (Nat.mul_le_mul h4 (Nat.le_trans h2 h3)) (by decide))
    have glp6 := S6 _ _ glp
    refine for_list (K := K) (a := rp) (xs := refs (adr es)) (fun i σ' H' => ∃ (u3 u7 u8 u9 : Option V) (lp : Addr) (fs : List Ro), σ' = [some (.int w'), some (.ref kp), some (.ref d), u3, some (.ref b), some (.ref jp), some (.ref lp), u7, u8, u9, none, none, none, none] ∧ Same H6 H' ∧ H' lp = some (.lst (refs (adr fs))) ∧ RosAt H' fs ∧ vals fs = ((es.take i).filter (fitE ls)).map fun e => tabOf w' (bkR w' e.2)) ⟨_, _, _, _, lp, [], rfl, fun _ _ e => e, glp6, (fun _ z => by cases z), rfl⟩ (fun i σ' H' _ ⟨_, _, _, _, _, _, _, S, _⟩ => SqL.of (S _ _ grp)) ?_ ?_
    · rintro i y σ' H7 hi ⟨u3, u7, u8, u9, lp, fs, rfl, S7, glp7, ro7, hv7⟩
      obtain ⟨e, he, rfl⟩ := adr_at hi
      have hem := List.mem_of_getElem? he
      have T' := htab e hem
      have R := T'.row
      have ge := S7 _ _ (ro e hem)
      have S47 := (S5.trans S6).trans S7
      have hfl : fs.length ≤ 5000 := by
        have h1 : fs.length = (vals fs).length := by simp [vals]
        rw [h1, hv7, List.length_map]
        exact Nat.le_trans (List.length_filter_le _ _) (Nat.le_trans (List.length_take_le' _ _) hes)
      -- other
      refine ⟨fun σ' H' => ∃ op : Addr, σ' = [some (.int w'), some (.ref kp), some (.ref d), u3, some (.ref b), some (.ref jp), some (.ref lp), some (.ref e.1), some (.ref op), u9, none, none, none, none] ∧ Same H7 H' ∧ H' op = some (.lst ((tabOf w' (bkR w' e.2)).map V.int)), ?_, ?_⟩
      · exact ⟨_, rfl, _, rfl, w', e.1, e.2, rfl, ge, hw0, hw4, T', fun H8 op S8 _ gop => ⟨op, rfl, S8, gop⟩⟩
      rintro σ4 H8 ⟨op, rfl, S8, gop⟩
      obtain ⟨r2, er2⟩ : ∃ r2, r2 = tabOf w' (bkR w' e.2) := ⟨_, rfl⟩
      rw [← er2] at gop
      have R2 : r2.length = w' := by rw [er2]; simp [tabOf]
      have bf := back_fits hw0 R N.wk
      rw [← ejs2, ← er2] at bf
      have S48 := S47.trans S8
      have gk8 := S48 _ _ gk4
      have dk8 := dpAll_mono S48 _ _ dk4
      have gj8 := S48 _ _ gj
      have dj8 := dpAll_mono S48 _ _ dj
      -- fits
      refine ⟨fun σ' H' => ∃ u3, σ' = [some (.int w'), some (.ref kp), some (.ref d), u3, some (.ref b), some (.ref jp), some (.ref lp), some (.ref e.1), some (.ref op), some (.bl (fitE ls e)), none, none, none, none] ∧ Same H8 H', ?_, ?_⟩
      · refine ⟨_, rfl, kp, rfl, ⟨_, SqL.of gk8⟩, fun D hD => ?_⟩
        refine lc_list (K := K) (a := kp) (xs := kv) (fun j H' => Same H8 H' ∧ ∃ ys, H' D = some (.lst ys) ∧ ys.length ≤ j ∧ DpAll K H' ys ((notSo e.2 (ls.take j)).map encL)) ⟨same_upd hD, [], upd_same, Nat.le_refl _, .nil⟩ (fun j H' _ ⟨S, _⟩ => SqL.of (S _ _ gk8)) ?_ ?_
        · rintro j y H9 hj ⟨S9, ys, gy, hyl, dys⟩
          obtain ⟨dd, hdi, hdy⟩ := dpAll_get dk8 hj
          obtain ⟨l, hl, rfl⟩ := map_at hdi
          have hlm := List.mem_of_getElem? hl
          have hjl : j < ls.length := (List.getElem?_eq_some_iff.mp hl).1
          have hdy9 := dp_mono S9 _ _ hdy
          have e2 := notSo_snoc (r := e.2) hl
          refine ⟨rfl, _, rfl, _, rfl, _, rfl, e.1, y, e.2, l, by rw [R.len]; rfl, S9 _ _ (S8 _ _ ge), by rw [R.len]; exact hw0, by rw [R.len]; omega, hdy9, N.wk l hlm, hx150 (hx l hlm), _, rfl, ?_⟩
          cases c : isSo e.2 l with
          | true =>
            rw [c] at e2
            refine iteF ⟨S9, ys, gy, by omega, ?_⟩
            rw [e2]
            simpa using dys
          | false =>
            rw [c] at e2
            refine iteT ⟨_, rfl, ys, gy, small1000 (by omega), same_set S9 hD, _, upd_same, by simp; omega, ?_⟩
            rw [e2]
            show DpAll K _ _ (List.map encL (_ ++ [l]))
            rw [List.map_append]
            exact acc_step gy (noLs_map noL_encL _) rfl dys hdy9
        rintro H9 ⟨S9, ys, gy, hyl, dys⟩
        rw [List.take_of_length_le (by omega)] at dys
        refine ⟨(by show 0 ≤ sizeLine; decide), fun q hq => ?_⟩
        have Sq := same_upd (o := HO.lst []) hq
        have gq : (upd H9 q (.lst [])) q = some (.lst []) := upd_same
        have S10 := S9.trans Sq
        have gy5 := Sq _ _ gy
        have dys5 := dpAll_mono Sq _ _ dys
        generalize upd H9 q (.lst []) = H10 at gq S10 gy5 dys5 ⊢
        refine ⟨_, _, .lst (SqL.of gy5) dys5, .lst (SqL.of gq) .nil, shaped_looks (fun l hl => N.wk l (List.mem_filter.mp hl).1), rfl, ?_⟩
        rw [eqv_nil, notSo_nil]
        exact ⟨_, rfl, S10⟩
      rintro σ5 H9 ⟨u3, rfl, S9⟩
      have gj9 := S9 _ _ gj8
      have dj9 := dpAll_mono S9 _ _ dj8
      have gop9 := S9 _ _ gop
      -- if fits != ..
      refine ⟨fun σ' H' => ∃ u3, σ' = [some (.int w'), some (.ref kp), some (.ref d), u3, some (.ref b), some (.ref jp), some (.ref lp), some (.ref e.1), some (.ref op), some (.bl (fitE ls e)), none, none, none, none] ∧ Same H9 H', ?_, ?_⟩
      · refine ⟨_, rfl, _, rfl, jp, rfl, ⟨_, SqL.of gj9⟩, fun D hD => ?_⟩
        refine lc_list (K := K) (a := jp) (xs := jv) (fun j H' => Same H9 H' ∧ ∃ ys, H' D = some (.lst ys) ∧ ys.length ≤ j ∧ DpAll K H' ys ((notSo r2 (js.take j)).map encL)) ⟨same_upd hD, [], upd_same, Nat.le_refl _, .nil⟩ (fun j H' _ ⟨S, _⟩ => SqL.of (S _ _ gj9)) ?_ ?_
        · rintro j y H10 hj ⟨S10, ys, gy, hyl, dys⟩
          obtain ⟨dd, hdi, hdy⟩ := dpAll_get dj9 hj
          obtain ⟨l, hl, rfl⟩ := map_at hdi
          have hlm := List.mem_of_getElem? hl
          have hjl : j < js.length := (List.getElem?_eq_some_iff.mp hl).1
          have hdy9 := dp_mono S10 _ _ hdy
          have e2 := notSo_snoc (r := r2) hl
          refine ⟨rfl, _, rfl, _, rfl, _, rfl, op, y, r2, l, by rw [R2]; rfl, S10 _ _ gop9, by rw [R2]; exact hw0, by rw [R2]; omega, hdy9, wkj l hlm, xj l hlm, _, rfl, ?_⟩
          cases c : isSo r2 l with
          | true =>
            rw [c] at e2
            refine iteF ⟨S10, ys, gy, by omega, ?_⟩
            rw [e2]
            simpa using dys
          | false =>
            rw [c] at e2
            refine iteT ⟨_, rfl, ys, gy, small1000 (by omega), same_set S10 hD, _, upd_same, by simp; omega, ?_⟩
            rw [e2]
            show DpAll K _ _ (List.map encL (_ ++ [l]))
            rw [List.map_append]
            exact acc_step gy (noLs_map noL_encL _) rfl dys hdy9
        rintro H10 ⟨S10, ys, gy, hyl, dys⟩
        rw [List.take_of_length_le (by omega)] at dys
        refine ⟨(by show 0 ≤ sizeLine; decide), fun q hq => ?_⟩
        have Sq := same_upd (o := HO.lst []) hq
        have gq : (upd H10 q (.lst [])) q = some (.lst []) := upd_same
        have S11 := S10.trans Sq
        have gy5 := Sq _ _ gy
        have dys5 := dpAll_mono Sq _ _ dys
        generalize upd H10 q (.lst []) = H11 at gq S11 gy5 dys5 ⊢
        refine ⟨_, _, .lst (SqL.of gy5) dys5, .lst (SqL.of gq) .nil, shaped_looks (fun l hl => wkj l (List.mem_filter.mp hl).1), rfl, ?_⟩
        rw [eqv_nil, notSo_nil]
        have eb : (js.all fun l => isSo r2 l) = fitE ls e := by
          unfold fitE
          rw [Bool.eq_iff_iff, List.all_eq_true, List.all_eq_true]
          exact bf.symm
        rw [eb]
        refine ⟨.bool (fitE ls e), .bool (fitE ls e), .bl _, .bl _, rfl, rfl, _, rfl, ?_⟩
        have ev : (!PyData.eqv (.bool (fitE ls e)) (.bool (fitE ls e))) = false := by cases fitE ls e <;> rfl
        rw [ev]
        exact iteF ⟨_, rfl, S11⟩
      rintro σ6 H10 ⟨u3, rfl, S10⟩
      -- led + ..
      have S7_10 := (S8.trans S9).trans S10
      have glp10 := S7_10 _ _ glp7
      have gop10 := S10 _ _ gop9
      refine ⟨_, rfl, _, rfl, (by show 1 ≤ sizeLine; decide), fun q hq => ?_⟩
      have Sq := same_upd (o := HO.lst [V.ref op]) hq
      have gq : (upd H10 q (.lst [V.ref op])) q = some (.lst [V.ref op]) := upd_same
      have glp11 := Sq _ _ glp10
      generalize upd H10 q (.lst [V.ref op]) = H11 at Sq gq glp11 ⊢
      refine ⟨_, rfl, .inr ⟨_, rfl, ?_⟩⟩
      refine ⟨q, _, [V.ref op], rfl, rfl, gq, one_lo _, one_hi _, one_sz _, fun p hp => ?_⟩
      have eflat : (List.replicate (if fitE ls e = true then (1 : Int) else 0).toNat [V.ref op]).flatten = refs (adr (if fitE ls e = true then [((op, r2) : Ro)] else [])) := by
        cases fitE ls e <;> rfl
      rw [eflat]
      have Sp := same_upd (o := HO.lst (refs (adr (if fitE ls e = true then [((op, r2) : Ro)] else [])))) hp
      have gp : (upd H11 p (.lst (refs (adr (if fitE ls e = true then [((op, r2) : Ro)] else []))))) p = some (.lst (refs (adr (if fitE ls e = true then [((op, r2) : Ro)] else [])))) := upd_same
      have glp12 := Sp _ _ glp11
      generalize upd H11 p (.lst (refs (adr (if fitE ls e = true then [((op, r2) : Ro)] else [])))) = H12 at Sp gp glp12 ⊢
      obtain ⟨fs', efs'⟩ : ∃ fs', fs' = (if fitE ls e = true then [((op, r2) : Ro)] else []) := ⟨_, rfl⟩
      rw [← efs'] at gp
      have hf1 : fs'.length ≤ 1 := by rw [efs']; split <;> simp
      refine ⟨lp, p, _, _, rfl, rfl, glp12, gp, Nat.le_of_lt (big (by rw [adr_len, adr_len]; omega)), fun c hc => ?_⟩
      have Sc := same_upd (o := HO.lst (refs (adr fs) ++ refs (adr fs'))) hc
      have S13 := (((S7_10.trans Sq).trans Sp).trans Sc)
      have S10c := (Sq.trans Sp).trans Sc
      refine ⟨_, _, _, _, c, fs ++ fs', rfl, S7.trans S13, by rw [upd_same]; simp [refs, adr], fun x hx' => ?_, ?_⟩
      · rcases List.mem_append.mp hx' with h | h
        · exact S13 _ _ (ro7 x h)
        · rw [efs'] at h
          split at h
          · rw [List.mem_singleton] at h; subst h
            exact S10c _ _ gop10
          · cases h
      · have ev : vals (fs ++ fs') = vals fs ++ vals fs' := by unfold vals; rw [List.map_append]
        rw [ev, hv7, take_snoc he, List.filter_append, List.map_append]
        congr 1
        rw [efs', er2]
        cases c : fitE ls e <;> simp [c, vals]
    rintro σ' H7 ⟨u3, u7, u8, u9, lp, fs, rfl, S7, glp7, ro7, hv7⟩
    rw [List.take_of_length_le (by rw [adr_len]; exact Nat.le_refl _)] at hv7
    have S47 := (S5.trans S6).trans S7
    have D7 := D4.same S47
    have gk7 := S47 _ _ gk4
    have dk7 := dpAll_mono S47 _ _ dk4
    have fex : ∀ {q : List Int}, (∃ e ∈ fs, e.2 = q) ↔ ∃ r ∈ fitsOf (w' : Int) w' ls, tabOf w' (bkR w' r) = q := fun {q} => by
      have h1 : (∃ e ∈ fs, e.2 = q) ↔ q ∈ vals fs := by unfold vals; rw [List.mem_map]
      rw [h1, hv7, List.mem_map]
      constructor
      · rintro ⟨e, he, rfl⟩; exact ⟨e.2, (fits_ex hvals).mpr ⟨e, he, rfl⟩, rfl⟩
      · rintro ⟨r, hr, rfl⟩
        obtain ⟨e, he, rfl⟩ := (fits_ex hvals).mp hr
        exact ⟨e, he, rfl⟩
    have f0 : 0 < fs.length := by
      obtain ⟨r, hr⟩ := N.some
      obtain ⟨e, he, _⟩ := fex.mpr ⟨r, hr, rfl⟩
      exact List.length_pos_iff.mpr fun z => by rw [z] at he; cases he
    have hfl : fs.length ≤ 5000 := by
      have h1 : fs.length = (vals fs).length := by simp [vals]
      rw [h1, hv7, List.length_map]
      exact Nat.le_trans (List.length_filter_le _ _) hes
    have flen : ∀ e ∈ fs, e.2.length = w' := fun e he => by
      obtain ⟨r, _, hr⟩ := fex.mp ⟨e, he, rfl⟩
      rw [← hr]; simp [tabOf]
    -- goals
    refine ⟨_, rfl, (w' : Int), rfl, by omega, by omega, ?_⟩
    refine for_range (lo := 0) (n := (w' : Int).toNat) (fun s σ' H' => ∃ (u3 u7 u10 u11 u12 u13 : Option V), σ' = [some (.int w'), some (.ref kp), some (.ref d), u3, some (.ref b), some (.ref jp), some (.ref lp), u7, u8, u9, u10, u11, u12, u13] ∧ Same H7 H') ⟨_, _, _, _, _, _, rfl, fun _ _ e => e⟩ ?_ ?_
    rotate_left
    · rintro σ' H8 ⟨u3, u7, u10, u11, u12, u13, rfl, S8⟩
      exact k H8 ((S04.trans S47).trans S8)
    rintro s σ' H8 hs' ⟨u3, u7, u10, u11, u12, u13, rfl, S8⟩
    have hsw : s < w' := by omega
    have S78 := S8
    obtain ⟨led, eled⟩ : ∃ led, led = fs.map fun e => e.2.getD s 0 := ⟨_, rfl⟩
    have hled0 : 0 < led.length := by rw [eled, List.length_map]; exact f0
    have hled : ∀ {z : Int}, z ∈ led ↔ ∃ r ∈ fitsOf (w' : Int) w' ls, bkR w' r s = z := fun {z} => by
      rw [eled, List.mem_map]
      constructor
      · rintro ⟨e, he, rfl⟩
        obtain ⟨r, hr, e2⟩ := fex.mp ⟨e, he, rfl⟩
        exact ⟨r, hr, by rw [← e2, tabOf_at hsw]⟩
      · rintro ⟨r, hr, rfl⟩
        obtain ⟨e, he, e2⟩ := fex.mpr ⟨r, hr, rfl⟩
        exact ⟨e, he, by rw [e2, tabOf_at hsw]⟩
    have colAt : ∀ {H9 : Hp}, Same H7 H9 → ∀ (D : Addr), H9 D = none → ∀ (R : Hp → Prop), (∀ H', Same H9 H' → H' D = some (.lst (led.map V.int)) → R H') → True := fun _ _ _ _ _ => trivial
    clear colAt
    -- some
    refine ⟨fun σ' H' => ∃ (q : Addr) (m1 m2 : Int) (H6 : Hp), (∃ u7, σ' = [some (.int w'), some (.ref kp), some (.ref d), u3, some (.ref b), some (.ref jp), some (.ref lp), u7, u8, u9, some (.int (0 + (s : Nat))), some (.ref q), u12, u13]) ∧ Same H8 H6 ∧ H6 q = none ∧ H' = upd H6 q (.lst [V.int m1, .int m2]) ∧ (m1 ∈ led ∧ ∀ z ∈ led, m1 ≤ z) ∧ (m2 ∈ led ∧ ∀ z ∈ led, z ≤ m2), ?_, ?_⟩
    · refine ⟨_, rfl, lp, rfl, ⟨_, SqL.of (S8 _ _ glp7)⟩, fun D hD => ?_⟩
      refine lc_list (K := K) (a := lp) (xs := refs (adr fs)) (fun i H' => Same H8 H' ∧ H' D = some (.lst (((fs.take i).map fun e => e.2.getD s 0).map V.int))) ⟨same_upd hD, upd_same⟩ (fun i H' _ ⟨S, _⟩ => SqL.of (S _ _ (S8 _ _ glp7))) ?_ ?_
      · rintro i y H9 hi ⟨S9, gD⟩
        obtain ⟨e, he, rfl⟩ := adr_at hi
        have hem := List.mem_of_getElem? he
        have ge := S9 _ _ (S8 _ _ (ro7 e hem))
        have hil : i < fs.length := (List.getElem?_eq_some_iff.mp he).1
        have hat : atI (e.2.map V.int) (0 + ((s : Nat) : Int)) = some (.int (e.2.getD s 0)) := by
          rw [at_row (by omega) (by rw [flen e hem]; omega), show (0 + ((s : Nat) : Int)).toNat = s by omega]
        refine ⟨rfl, yes_ite ?_⟩
        refine ⟨_, rfl, _, rfl, e.1, _, _, _, rfl, rfl, SqL.of ge, hat, _, gD, big (by simp; omega), same_set S9 hD, ?_⟩
        rw [take_snoc he, upd_same]; simp
      rintro H9 ⟨S9, gD⟩
      rw [List.take_of_length_le (by rw [adr_len]; exact Nat.le_refl _), ← eled] at gD
      refine ⟨D, led, rfl, SqL.of gD, hled0, fun m1 a1 a2 => ?_⟩
      have S89 := S8.trans S9
      refine ⟨_, rfl, lp, rfl, ⟨_, SqL.of (S89 _ _ glp7)⟩, fun D' hD' => ?_⟩
      refine lc_list (K := K) (a := lp) (xs := refs (adr fs)) (fun i H' => Same H9 H' ∧ H' D' = some (.lst (((fs.take i).map fun e => e.2.getD s 0).map V.int))) ⟨same_upd hD', upd_same⟩ (fun i H' _ ⟨S, _⟩ => SqL.of (S _ _ (S89 _ _ glp7))) ?_ ?_
      · rintro i y H10 hi ⟨S10, gD2⟩
        obtain ⟨e, he, rfl⟩ := adr_at hi
        have hem := List.mem_of_getElem? he
        have ge := S10 _ _ (S89 _ _ (ro7 e hem))
        have hil : i < fs.length := (List.getElem?_eq_some_iff.mp he).1
        have hat : atI (e.2.map V.int) (0 + ((s : Nat) : Int)) = some (.int (e.2.getD s 0)) := by
          rw [at_row (by omega) (by rw [flen e hem]; omega), show (0 + ((s : Nat) : Int)).toNat = s by omega]
        refine ⟨rfl, yes_ite ?_⟩
        refine ⟨_, rfl, _, rfl, e.1, _, _, _, rfl, rfl, SqL.of ge, hat, _, gD2, big (by simp; omega), same_set S10 hD', ?_⟩
        rw [take_snoc he, upd_same]; simp
      rintro H10 ⟨S10, gD2⟩
      rw [List.take_of_length_le (by rw [adr_len]; exact Nat.le_refl _), ← eled] at gD2
      exact ⟨D', led, rfl, SqL.of gD2, hled0, fun m2 b1 b2 => ⟨(by show 2 ≤ sizeLine; decide), fun q hq => ⟨q, m1, m2, _, ⟨_, rfl⟩, S9.trans S10, hq, rfl, ⟨a1, a2⟩, b1, b2⟩⟩⟩
    rintro σ4 H9 ⟨q, m1, m2, H6', ⟨u7, rfl⟩, S86, hq6, rfl, ⟨a1, a2⟩, b1, b2⟩
    have Z7 := S86.trans (same_upd (o := HO.lst [V.int m1, .int m2]) hq6)
    have gq7 : (upd H6' q (.lst [V.int m1, .int m2])) q = some (.lst [V.int m1, .int m2]) := upd_same
    have hq5 : H8 q = none := S86.free hq6
    generalize upd H6' q (.lst [V.int m1, .int m2]) = G7 at Z7 gq7 ⊢
    -- for at, other
    refine ⟨(by show 2 ≤ sizeLine; decide), fun t1 h1 => ⟨(by show 2 ≤ sizeLine; decide), fun t2 h2 => ⟨(by show 2 ≤ sizeLine; decide), fun ql hql => ?_⟩⟩⟩
    have T1 := same_upd (o := HO.tup [V.int 0, .str "from"]) h1
    have T2 := same_upd (o := HO.tup [V.int 1, .str "upto"]) h2
    have T3 := same_upd (o := HO.lst [V.ref t1, .ref t2]) hql
    have e1 := T3 _ _ (T2 _ _ (show (upd G7 t1 (HO.tup [V.int 0, .str "from"])) t1 = some (.tup [V.int 0, .str "from"]) from upd_same))
    have e2 := T3 _ _ (show (upd (upd G7 t1 (HO.tup [V.int 0, .str "from"])) t2 (HO.tup [V.int 1, .str "upto"])) t2 = some (.tup [V.int 1, .str "upto"]) from upd_same)
    have e3 : (upd (upd (upd G7 t1 (HO.tup [V.int 0, .str "from"])) t2 (HO.tup [V.int 1, .str "upto"])) ql (HO.lst [V.ref t1, .ref t2])) ql = some (.lst [V.ref t1, .ref t2]) := upd_same
    have ST := (T1.trans T2).trans T3
    have Z8 := Z7.trans ST
    have gq8 := ST _ _ gq7
    have hqql : ql ≠ q := Ne.symm (ne_of_none ((T1.trans T2) _ _ gq7) hql)
    generalize upd (upd (upd G7 t1 (HO.tup [V.int 0, .str "from"])) t2 (HO.tup [V.int 1, .str "upto"])) ql (HO.lst [V.ref t1, .ref t2]) = G8 at e1 e2 e3 Z8 gq8 ⊢
    have ht1q : t1 ≠ q := fun z => by rw [z, gq8] at e1; cases e1
    have ht2q : t2 ≠ q := fun z => by rw [z, gq8] at e2; cases e2
    have lists_q : ∀ {b : Addr} {o : HO}, H8 b = some o → b ≠ q := fun {b o} hb z => by rw [z, hq5] at hb; cases hb
    refine ⟨ql, rfl, ⟨_, SqL.of e3⟩, ?_⟩
    refine for_list (K := K) (a := ql) (xs := [V.ref t1, .ref t2]) (fun i σ' H' => ∃ (u3 u12 u13 : Option V), σ' = [some (.int w'), some (.ref kp), some (.ref d), u3, some (.ref b), some (.ref jp), some (.ref lp), u7, u8, u9, some (.int (0 + (s : Nat))), some (.ref q), u12, u13] ∧ H' q = some (.lst (dueV ls m1 m2 i)) ∧ ∀ b o, G8 b = some o → b ≠ q → H' b = some o) ⟨_, _, _, rfl, by rw [gq8]; simp [dueV], fun _ _ e _ => e⟩ (fun i σ' H' _ ⟨_, _, _, _, _, kq⟩ => SqL.of (kq _ _ e3 hqql)) ?_ ?_
    · rintro i y σ' G9 hi ⟨u3, u12, u13, rfl, gq9, kq⟩
      have hi2 : i < 2 := (List.getElem?_eq_some_iff.mp hi).1
      obtain ⟨oth, sd, hos, ho0, ho1, hd1, hd2⟩ := due_step (m1 := m1) (m2 := m2) N.wk hi2
      obtain ⟨x, rfl, gx⟩ : ∃ x, y = .ref x ∧ G9 x = some (.tup [V.int (i : Nat), .str oth]) := by
        have : i = 0 ∨ i = 1 := by omega
        rcases this with rfl | rfl
        · rw [ho0 rfl]; exact ⟨t1, (Option.some.inj hi).symm, kq _ _ e1 ht1q⟩
        · rw [ho1 rfl]; exact ⟨t2, (Option.some.inj hi).symm, kq _ _ e2 ht2q⟩
      refine ⟨_, _, rfl, SqT.of gx, rfl, _, _, rfl, _, _, rfl, rfl, ?_⟩
      have gk5 := S8 _ _ gk7
      have gk9 : G9 kp = some (.lst kv) := kq _ _ (Z8 _ _ gk5) (lists_q gk5)
      have tu9 : Tups H8 G9 := fun b zs hb => by
        rcases hb with h | ⟨z, h⟩
        · exact .inl (kq _ _ (Z8 _ _ h) (lists_q h))
        · exact .inr ⟨z, kq _ _ (Z8 _ _ h) (lists_q h)⟩
      have dk9 := dpAll_tups tu9 _ _ (noLs_map noL_encL ls) (dpAll_mono S8 _ _ dk7)
      refine ⟨_, rfl, kp, rfl, ⟨_, SqL.of gk9⟩, fun D hD => ?_⟩
      refine lc_list (K := K) (a := kp) (xs := kv) (fun j H' => Same G9 H' ∧ ∃ ys, H' D = some (.lst ys) ∧ ys.length ≤ j ∧ DpAll K H' ys (((ls.take j).filter fun l => decide (l.1 ≠ oth)).map encL)) ⟨same_upd hD, [], upd_same, Nat.le_refl _, .nil⟩ (fun j H' _ ⟨S, _⟩ => SqL.of (S _ _ gk9)) ?_ ?_
      · rintro j y G10 hj ⟨Z10, ys, gy, hyl, dys⟩
        obtain ⟨dd, hdi, hdy⟩ := dpAll_get dk9 hj
        obtain ⟨l, hl, rfl⟩ := map_at hdi
        have hjl : j < ls.length := (List.getElem?_eq_some_iff.mp hl).1
        have hdy10 := dp_mono Z10 _ _ hdy
        obtain ⟨p, rfl, hp⟩ := dp_look hdy10
        have e4 : (ls.take (j + 1)).filter (fun l => decide (l.1 ≠ oth)) = (ls.take j).filter (fun l => decide (l.1 ≠ oth)) ++ (if decide (l.1 ≠ oth) = true then [l] else []) := by
          rw [take_snoc hl, List.filter_append]
          by_cases c : l.1 = oth <;> simp [c]
        refine ⟨rfl, _, rfl, _, _, _, _, rfl, rfl, hp, rfl, _, rfl, rfl, _, rfl, ite2 (fun c => ?_) (fun c => ?_)⟩
        · have c1 : l.1 ≠ oth := by simpa using c
          rw [if_pos (decide_eq_true c1)] at e4
          refine ⟨_, rfl, ys, gy, small1000 (by omega), same_set Z10 hD, _, upd_same, by simp; omega, ?_⟩
          rw [e4, List.map_append]
          exact acc_step gy (noLs_map noL_encL _) rfl dys hdy10
        · have c1 : ¬ l.1 ≠ oth := by simpa using c
          rw [if_neg (by simpa using c1)] at e4
          refine ⟨Z10, ys, gy, by omega, ?_⟩
          rw [e4]
          simpa using dys
      rintro G10 ⟨Z10, ys, gy, hyl, dys⟩
      rw [List.take_of_length_le (by omega), side_by hos] at dys
      refine ⟨(by show 0 ≤ sizeLine; decide), fun q2 hq2 => ?_⟩
      have Sq := same_upd (o := HO.lst []) hq2
      have gq2 : (upd G10 q2 (.lst [])) q2 = some (.lst []) := upd_same
      have Z11 := Z10.trans Sq
      have gy5 := Sq _ _ gy
      have dys5 := dpAll_mono Sq _ _ dys
      generalize upd G10 q2 (.lst []) = G11 at gq2 Z11 gy5 dys5 ⊢
      refine ⟨_, _, .lst (SqL.of gy5) dys5, .lst (SqL.of gq2) .nil, shaped_looks (fun l hl => N.wk l (mem_side.mp hl).1), rfl, _, rfl, ?_⟩
      rw [eqv_nil]
      have gq11 := Z11 _ _ gq9
      cases c : decide ((sideOf sd ls).map encL = []) with
      | true =>
        have c0 : sideOf sd ls = [] := List.map_eq_nil_iff.mp (of_decide_eq_true c)
        have hix : ixN (dueV ls m1 m2 i).length ((i : Nat) : Int) = some i := by
          have : (dueV ls m1 m2 i).length = 2 := rfl
          rw [this]
          unfold ixN
          rw [if_pos (by omega)]
          simp; omega
        refine iteT ⟨_, rfl, _, rfl, q, _, _, i, rfl, rfl, gq11, hix, _, _, _, rfl, by rw [upd_same, hd1 c0], fun b o e n => (upd_ne n).trans (Z11 _ _ (kq b o e n))⟩
      | false =>
        have c0 : sideOf sd ls ≠ [] := fun z => by rw [z] at c; simp at c
        refine iteF ⟨_, _, _, rfl, by rw [hd2 c0]; exact gq11, fun b o e n => Z11 _ _ (kq b o e n)⟩
    rintro σ' G9 ⟨u3, u12, u13, rfl, gq9, kq⟩
    have k59 : ∀ c o, H8 c = some o → G9 c = some o := fun c o e => kq _ _ (Z8 _ _ e) (lists_q e)
    have E9 : DarkAt Z K G9 b w' js := (D7.same S8).same k59
    obtain ⟨dx, la, vs, g1, _, _⟩ := id E9.ex
    have hx4 : (0 + ((s : Nat) : Int)).natAbs < 2 ^ 400 := Nat.lt_of_le_of_lt (by omega : _ ≤ 4) (by decide)
    refine ⟨_, rfl, b, dx, _, rfl, g1, df_no _ _ (by decide +kernel) (by decide +kernel), _, rfl, b, w', js, _, rfl, E9, hx4, fun v1 G10 Z10 tv1 => ?_⟩
    refine ⟨_, rfl, b, dx, _, rfl, Z10 _ _ g1, df_no _ _ (by decide +kernel) (by decide +kernel), _, rfl, b, w', js, _, rfl, E9.same Z10, hx4, fun v2 G11 Z11 tv2 => ?_⟩
    refine ⟨(by show 2 ≤ sizeLine; decide), fun p hp => ?_⟩
    have Sp := same_upd (o := HO.lst [v1, v2]) hp
    have ev1 : v1 = if sideOf "fast" ls = [] then V.non else .int m1 := by
      have tv1' := tv1
      rw [Int.zero_add, ejs2] at tv1'
      have bs := back_side (w := w') (sd := "fast") (.inr rfl) N.wk
      rw [oth_fast] at bs
      rcases tv1' with ⟨e, rfl⟩ | ⟨m, rfl, bb⟩
      · rw [if_pos (bs.mp e)]
      · obtain ⟨⟨r0, hr0, e0⟩, hmin⟩ := N.backLeast bb
        have hne : sideOf "fast" ls ≠ [] := fun z => by
          obtain ⟨⟨l, hl, _⟩, _⟩ := bb
          rw [bs.mpr z] at hl; cases hl
        rw [if_neg hne]
        obtain ⟨r1, hr1, er1⟩ := hled.mp a1
        have h3 := a2 m (hled.mpr ⟨r0, hr0, e0⟩)
        have h4 := hmin r1 hr1
        congr 1
        omega
    have ev2 : v2 = if sideOf "slow" ls = [] then V.non else .int m2 := by
      have tv2' := tv2
      rw [Int.zero_add, ejs2] at tv2'
      have bs := back_side (w := w') (sd := "slow") (.inl rfl) N.wk
      rw [oth_slow] at bs
      rcases tv2' with ⟨e, rfl⟩ | ⟨m, rfl, bb⟩
      · rw [if_pos (bs.mp e)]
      · obtain ⟨⟨r0, hr0, e0⟩, hmax⟩ := N.backGreatest bb
        have hne : sideOf "slow" ls ≠ [] := fun z => by
          obtain ⟨⟨l, hl, _⟩, _⟩ := bb
          rw [bs.mpr z] at hl; cases hl
        rw [if_neg hne]
        obtain ⟨r1, hr1, er1⟩ := hled.mp b1
        have h3 := b2 m (hled.mpr ⟨r0, hr0, e0⟩)
        have h4 := hmax r1 hr1
        congr 1
        omega
    have edue : dueV ls m1 m2 [V.ref t1, V.ref t2].length = [v1, v2] := by
      rw [ev1, ev2]; simp [dueV]
    rw [edue] at gq9
    obtain ⟨d1, w1, x1, y1⟩ := flat_dp (tells_flat' tv1)
    obtain ⟨d2, w2, x2, y2⟩ := flat_dp (tells_flat' tv2)
    have gq12 := Sp _ _ (Z11 _ _ (Z10 _ _ gq9))
    refine ⟨_, rfl, .ref p, .ref q, .list [d1, d2], rfl, .lst (SqL.of upd_same) (.cons (y1 _ _) (.cons (y2 _ _) .nil)), .lst (SqL.of gq12) (.cons (y1 _ _) (.cons (y2 _ _) .nil)), by simp [fewD, fewD.fewDs, w1, w2], by simp [PyData.depth, PyData.depthAll, x1, x2], _, rfl, iteF ⟨_, _, _, _, _, _, rfl, ?_⟩⟩
    exact ((S8.trans k59).trans (Z10.trans Z11)).trans Sp
theorem ok_law (T : Tx K w mg Z) : FnOk P w K mg base CX0 8 Z.a_law Z.d_law P_law (spLaw K) := by
  refine T.F_law.ok sclaw (fun vs H Q E h => ?_) (fun cdv A outer s H vs Q E hr h => ?_)
  · obtain ⟨a, ns, rfl, _⟩ := h
    rfl
  · obtain ⟨a, ns, rfl, hS, hlen, k⟩ := h
    refine ⟨_, (pss_cons (ps_set (i := 1) sclaw.nd rfl (Or.inl rfl) (pe_call (ok_law_tray T) (hr.mono (by decide)) (by rfl) T.g_law_tray T.F_law_tray.kp T.bb_law_tray .nil pass0 (pa_cons (pv 0) pa_nil)))
      (pss_cons (ps_for PassesOwn.never rfl (pi_range1 (by rfl) T.b_range (pa_cons (pe_op op_add pe_int (pe_callB (lenK (K := K)) (by rfl) T.b_len (by decide +kernel) (pa_cons (pe_slice (slL (K := K)) (pv 0) po_none (po_some pe_int)) pa_nil))) pa_nil)) (pg_name (i := 2) sclaw.nd rfl (Or.inl rfl)) (C8.pss_cut (ps_set (i := 3) sclaw.nd rfl (Or.inl rfl) (pe_op op_add pe_int (pe_call (ok_law_draw T) (hr.mono (by decide)) (by rfl) T.g_law_draw T.F_law_draw.kp T.bb_law_draw .nil pass0 (pa_cons (pv 1) (pa_cons pe_int pa_nil)))))
      (pss_one (ps_if (pt_not (pt_val (pe_call (ok_law_right T) (hr.mono (by decide)) (by rfl) T.g_law_right T.F_law_right.kp T.bb_law_right .nil pass0 (pa_cons (pv 3) (pa_cons (pe_call (ok_law_heard T) (hr.mono (by decide)) (by rfl) T.g_law_heard T.F_law_heard.kp T.bb_law_heard .nil pass0 (pa_cons (pv 1) (pa_cons (pv 3) pa_nil))) pa_nil))))) (pss_one (ps_ret pe_bl)) pss_nil))))
      (pss_one (ps_ret pe_bl)))), ?_⟩
    refine ⟨_, rfl, a, ns, rfl, hS, hlen, fun H0 t g T0 S0 ht hg => ?_⟩
    refine ⟨_, rfl, _, rfl, a, _, rfl, Same.sqL S0 hS, fun q hq => ⟨q, _, rfl, .inl (SqL.of upd_same), _, _, rfl, rfl, ?_⟩⟩
    have hcut : ((cutV (ns.map V.int) none (some 4)).length : Int) ≤ 63 := by
      have e : (cutV (ns.map V.int) none (some (4 : Int))).length ≤ 63 := Nat.le_trans (cutV_length _ _ _) (by rw [List.length_map]; exact hlen)
      exact_mod_cast e
    have hcut0 : (0 : Int) ≤ ((cutV (ns.map V.int) none (some 4)).length : Int) := Int.natCast_nonneg _
    generalize ((cutV (ns.map V.int) none (some 4)).length : Int) = cut at hcut hcut0 ⊢
    have A0 : At H0 (upd H0 q (.lst (cutV (ns.map V.int) none (some 4)))) t g 0 := ⟨T0.same (same_upd hq), Keep.of_same (same_upd hq)⟩
    generalize upd H0 q (.lst (cutV (ns.map V.int) none (some 4))) = H0' at A0 ⊢
    refine ⟨3 + cut, rfl, by omega, by omega, ?_⟩
    refine for_range (n := (3 + cut).toNat) (fun i σ' H' => ∃ (u2 u3 : Option V), σ' = [some (.ref a), some (.ref t), u2, u3] ∧ Tray H' t g (1000 * i)) ⟨_, _, rfl, A0.T⟩ ?_ ?_
    rotate_left
    · rintro σ' H' ⟨_, _, rfl, _⟩
      exact k H'
    rintro i σ' H1 hi ⟨u2, u3, rfl, T1⟩
    have hi13 : i < 67 := by omega
    have hn : ∀ m, m ≤ 1000 * i + 1000 → m < 2 ^ 43 := fun m hm => Nat.lt_of_le_of_lt (by omega : m ≤ 1000000) (by decide)
    -- size
    refine ⟨fun σ' H' => ∃ w' : Nat, σ' = [some (.ref a), some (.ref t), some (.int (0 + (i : Nat))), some (.int w')] ∧ 0 < w' ∧ w' ≤ 4 ∧ Tray H' t g (1000 * i + 1), ?_, ?_⟩
    · refine ⟨_, rfl, t, g, 1000 * i, 3, rfl, T1, by decide, by decide, Nat.lt_trans (hn _ (by omega)) (by decide), fun H2 c c0 c1 T2 k2 => ⟨_, _, rfl, rfl, (1 + c).toNat, ?_, by omega, by omega, T2⟩⟩
      have : (((1 + c).toNat : Nat) : Int) = 1 + c := by omega
      rw [this]; rfl
    rintro σ1 H2 ⟨w', rfl, hw0, hw4, T2⟩
    refine ⟨_, rfl, _, rfl, _, rfl, t, g, 1000 * i + 1, w', rfl, T2, hn _ (by omega), hw0, hw4, fun H4 kp ls hkp A4 lk N hx hl6 => ?_⟩
    exact ⟨kp, w', ls, rfl, hw0, hw4, lk, N, hx, hl6, fun H5 S5 => ⟨_, rfl, iteF ⟨_, _, rfl, (A4.T.same S5).up (by omega)⟩⟩⟩

end
end KA
namespace KA
open PySem PySem.Spec PyProof.Rows L2 DP
theorem g11_of {α : Type} : ∀ {us ws : List α}, (g11 us ws).length = 2 → ∃ a b, us = [a] ∧ ws = [b]
  | [a], [b], _ => ⟨a, b, rfl, rfl⟩
  | [], _, h => nomatch (show (0 : Nat) = 2 from h)
  | [_], [], h => nomatch (show (0 : Nat) = 2 from h)
  | [_], _ :: _ :: _, h => nomatch (show (0 : Nat) = 2 from h)
  | _ :: _ :: _, _, h => nomatch (show (0 : Nat) = 2 from h)
theorem sqt2 {K : PySem.W.Frag} {H : Hp} {t : Addr} {x y : Str} {o : Option Addr} {u v : Tok} {n : Nat} {s : Array (Option Value)} (l : K.lookup t = some ⟨.type "tuple", o, .seq #[.str x u, .str y v] n, s⟩) : SqT K H t [.str x, .str y] :=
  .inr ⟨_, _, n, l, rfl, rfl, (by show 2 ≤ sizeLine; decide), .cons ⟨u, rfl⟩ (.cons ⟨v, rfl⟩ .nil)⟩
theorem sqt3 {K : PySem.W.Frag} {H : Hp} {t : Addr} {x y z : Str} {o : Option Addr} {u v q : Tok} {n : Nat} {s : Array (Option Value)} (l : K.lookup t = some ⟨.type "tuple", o, .seq #[.str x u, .str y v, .str z q] n, s⟩) : SqT K H t [.str x, .str y, .str z] :=
  .inr ⟨_, _, n, l, rfl, rfl, (by show 3 ≤ sizeLine; decide), .cons ⟨u, rfl⟩ (.cons ⟨v, rfl⟩ (.cons ⟨q, rfl⟩ .nil))⟩
theorem all_mk {l : PySem.W.OpenLaw} {w : World} {K : PySem.W.Frag} {h : Heap} {mg : Str → Option Value} {fa : Addr} (X : K.In h) (G : h.Ns mainGlobals mg) (hfa : mg "law" = some (.ref fa))
    {C : Addr}
    {f0 : Addr} {od0 an0 : Option Addr} {sl0 : Array (Option Value)} {oc0 kV0 dc0 pm0 cd0 ct0 : Value}
    {f1 : Addr} {od1 an1 : Option Addr} {sl1 : Array (Option Value)} {oc1 kV1 dc1 pm1 cd1 ct1 : Value}
    {f2 : Addr} {od2 an2 : Option Addr} {sl2 : Array (Option Value)} {oc2 kV2 dc2 pm2 cd2 ct2 : Value}
    {f3 : Addr} {od3 an3 : Option Addr} {sl3 : Array (Option Value)} {oc3 kV3 dc3 pm3 cd3 ct3 : Value}
    {f4 : Addr} {od4 an4 : Option Addr} {sl4 : Array (Option Value)} {oc4 kV4 dc4 pm4 cd4 ct4 : Value}
    {f5 : Addr} {od5 an5 : Option Addr} {sl5 : Array (Option Value)} {oc5 kV5 dc5 pm5 cd5 ct5 : Value}
    {f6 : Addr} {od6 an6 : Option Addr} {sl6 : Array (Option Value)} {oc6 kV6 dc6 pm6 cd6 ct6 : Value}
    {f7 : Addr} {od7 an7 : Option Addr} {sl7 : Array (Option Value)} {oc7 kV7 dc7 pm7 cd7 ct7 : Value}
    {f8 : Addr} {od8 an8 : Option Addr} {sl8 : Array (Option Value)} {oc8 kV8 dc8 pm8 cd8 ct8 : Value}
    {f9 : Addr} {od9 an9 : Option Addr} {sl9 : Array (Option Value)} {oc9 kV9 dc9 pm9 cd9 ct9 : Value}
    {f10 : Addr} {od10 an10 : Option Addr} {sl10 : Array (Option Value)} {oc10 kV10 dc10 pm10 cd10 ct10 : Value}
    {f11 : Addr} {od11 an11 : Option Addr} {sl11 : Array (Option Value)} {oc11 kV11 dc11 pm11 cd11 ct11 : Value}
    {f12 : Addr} {od12 an12 : Option Addr} {sl12 : Array (Option Value)} {oc12 kV12 dc12 pm12 cd12 ct12 : Value}
    {f13 : Addr} {od13 an13 : Option Addr} {sl13 : Array (Option Value)} {oc13 kV13 dc13 pm13 cd13 ct13 : Value}
    {f14 : Addr} {od14 an14 : Option Addr} {sl14 : Array (Option Value)} {oc14 kV14 dc14 pm14 cd14 ct14 : Value}
    {f15 : Addr} {od15 an15 : Option Addr} {sl15 : Array (Option Value)} {oc15 kV15 dc15 pm15 cd15 ct15 : Value}
    {f16 : Addr} {od16 an16 : Option Addr} {sl16 : Array (Option Value)} {oc16 kV16 dc16 pm16 cd16 ct16 : Value}
    {f17 : Addr} {od17 an17 : Option Addr} {sl17 : Array (Option Value)} {oc17 kV17 dc17 pm17 cd17 ct17 : Value}
    {f18 : Addr} {od18 an18 : Option Addr} {sl18 : Array (Option Value)} {oc18 kV18 dc18 pm18 cd18 ct18 : Value}
    {f19 : Addr} {od19 an19 : Option Addr} {sl19 : Array (Option Value)} {oc19 kV19 dc19 pm19 cd19 ct19 : Value}
    {f20 : Addr} {od20 an20 : Option Addr} {sl20 : Array (Option Value)} {oc20 kV20 dc20 pm20 cd20 ct20 : Value}
    {f21 : Addr} {od21 an21 : Option Addr} {sl21 : Array (Option Value)} {oc21 kV21 dc21 pm21 cd21 ct21 : Value}
    {f22 : Addr} {od22 an22 : Option Addr} {sl22 : Array (Option Value)} {oc22 kV22 dc22 pm22 cd22 ct22 : Value}
    {f23 : Addr} {od23 an23 : Option Addr} {sl23 : Array (Option Value)} {oc23 kV23 dc23 pm23 cd23 ct23 : Value}
    {f24 : Addr} {od24 an24 : Option Addr} {sl24 : Array (Option Value)} {oc24 kV24 dc24 pm24 cd24 ct24 : Value}
    {f25 : Addr} {od25 an25 : Option Addr} {sl25 : Array (Option Value)} {oc25 kV25 dc25 pm25 cd25 ct25 : Value}
    {tSLOW : Tok}
    {tFAST : Tok}
    {aW aL tS tF : Addr} {es : Array DictEntry} {nW n1 n2 n3 : Nat} {o1 o2 o3 : Option Addr} {s1 s2 s3 : Array (Option Value)} {u1 u2 u3 u4 u5 u6 u7 : Tok}
    (aC : PySem.W.nsIn K mainGlobals "Dark" = some (some (.ref C)))
    (a0 : PySem.W.nsIn K mainGlobals "_law_tray" = some (some (.ref f0)))
    (l0 : K.lookup f0 = some ⟨oc0, od0, .func (PySem.W.fnOf "_law_tray" "_law_tray" (defArgs slaw_tray) (defBody slaw_tray) (defScope slaw_tray) .none kV0 dc0 pm0 an0 cd0 ct0), sl0⟩)
    (c0 : PySem.W.codeIn K cd0 "_law_tray" = true)
    (k0 : PySem.W.keepIn K (.ref f0) = true)
    (a1 : PySem.W.nsIn K mainGlobals "_law_draw" = some (some (.ref f1)))
    (l1 : K.lookup f1 = some ⟨oc1, od1, .func (PySem.W.fnOf "_law_draw" "_law_draw" (defArgs slaw_draw) (defBody slaw_draw) (defScope slaw_draw) .none kV1 dc1 pm1 an1 cd1 ct1), sl1⟩)
    (c1 : PySem.W.codeIn K cd1 "_law_draw" = true)
    (k1 : PySem.W.keepIn K (.ref f1) = true)
    (a2 : PySem.W.nsIn K mainGlobals "_law_alike" = some (some (.ref f2)))
    (l2 : K.lookup f2 = some ⟨oc2, od2, .func (PySem.W.fnOf "_law_alike" "_law_alike" (defArgs slaw_alike) (defBody slaw_alike) (defScope slaw_alike) .none kV2 dc2 pm2 an2 cd2 ct2), sl2⟩)
    (c2 : PySem.W.codeIn K cd2 "_law_alike" = true)
    (k2 : PySem.W.keepIn K (.ref f2) = true)
    (a3 : PySem.W.nsIn K mainGlobals "_law_apart" = some (some (.ref f3)))
    (l3 : K.lookup f3 = some ⟨oc3, od3, .func (PySem.W.fnOf "_law_apart" "_law_apart" (defArgs slaw_apart) (defBody slaw_apart) (defScope slaw_apart) .none kV3 dc3 pm3 an3 cd3 ct3), sl3⟩)
    (c3 : PySem.W.codeIn K cd3 "_law_apart" = true)
    (k3 : PySem.W.keepIn K (.ref f3) = true)
    (a4 : PySem.W.nsIn K mainGlobals "_law_any_look" = some (some (.ref f4)))
    (l4 : K.lookup f4 = some ⟨oc4, od4, .func (PySem.W.fnOf "_law_any_look" "_law_any_look" (defArgs slaw_any_look) (defBody slaw_any_look) (defScope slaw_any_look) .none kV4 dc4 pm4 an4 cd4 ct4), sl4⟩)
    (c4 : PySem.W.codeIn K cd4 "_law_any_look" = true)
    (k4 : PySem.W.keepIn K (.ref f4) = true)
    (a5 : PySem.W.nsIn K mainGlobals "_law_hands" = some (some (.ref f5)))
    (l5 : K.lookup f5 = some ⟨oc5, od5, .func (PySem.W.fnOf "_law_hands" "_law_hands" (defArgs slaw_hands) (defBody slaw_hands) (defScope slaw_hands) .none kV5 dc5 pm5 an5 cd5 ct5), sl5⟩)
    (c5 : PySem.W.codeIn K cd5 "_law_hands" = true)
    (k5 : PySem.W.keepIn K (.ref f5) = true)
    (a6 : PySem.W.nsIn K mainGlobals "_law_is_as" = some (some (.ref f6)))
    (l6 : K.lookup f6 = some ⟨oc6, od6, .func (PySem.W.fnOf "_law_is_as" "_law_is_as" (defArgs slaw_is_as) (defBody slaw_is_as) (defScope slaw_is_as) .none kV6 dc6 pm6 an6 cd6 ct6), sl6⟩)
    (c6 : PySem.W.codeIn K cd6 "_law_is_as" = true)
    (k6 : PySem.W.keepIn K (.ref f6) = true)
    (a7 : PySem.W.nsIn K mainGlobals "_law_back_row" = some (some (.ref f7)))
    (l7 : K.lookup f7 = some ⟨oc7, od7, .func (PySem.W.fnOf "_law_back_row" "_law_back_row" (defArgs slaw_back_row) (defBody slaw_back_row) (defScope slaw_back_row) .none kV7 dc7 pm7 an7 cd7 ct7), sl7⟩)
    (c7 : PySem.W.codeIn K cd7 "_law_back_row" = true)
    (k7 : PySem.W.keepIn K (.ref f7) = true)
    (a8 : PySem.W.nsIn K mainGlobals "_law_heard" = some (some (.ref f8)))
    (l8 : K.lookup f8 = some ⟨oc8, od8, .func (PySem.W.fnOf "_law_heard" "_law_heard" (defArgs slaw_heard) (defBody slaw_heard) (defScope slaw_heard) .none kV8 dc8 pm8 an8 cd8 ct8), sl8⟩)
    (c8 : PySem.W.codeIn K cd8 "_law_heard" = true)
    (k8 : PySem.W.keepIn K (.ref f8) = true)
    (a9 : PySem.W.nsIn K mainGlobals "_law_right" = some (some (.ref f9)))
    (l9 : K.lookup f9 = some ⟨oc9, od9, .func (PySem.W.fnOf "_law_right" "_law_right" (defArgs slaw_right) (defBody slaw_right) (defScope slaw_right) .none kV9 dc9 pm9 an9 cd9 ct9), sl9⟩)
    (c9 : PySem.W.codeIn K cd9 "_law_right" = true)
    (k9 : PySem.W.keepIn K (.ref f9) = true)
    (a10 : PySem.W.nsIn K mainGlobals "side_looks" = some (some (.ref f10)))
    (l10 : K.lookup f10 = some ⟨oc10, od10, .func (PySem.W.fnOf "side_looks" "side_looks" (defArgs sside_looks) (defBody sside_looks) (defScope sside_looks) .none kV10 dc10 pm10 an10 cd10 ct10), sl10⟩)
    (c10 : PySem.W.codeIn K cd10 "side_looks" = true)
    (k10 : PySem.W.keepIn K (.ref f10) = true)
    (a11 : PySem.W.nsIn K mainGlobals "place_by" = some (some (.ref f11)))
    (l11 : K.lookup f11 = some ⟨oc11, od11, .func (PySem.W.fnOf "place_by" "place_by" (defArgs splace_by) (defBody splace_by) (defScope splace_by) .none kV11 dc11 pm11 an11 cd11 ct11), sl11⟩)
    (c11 : PySem.W.codeIn K cd11 "place_by" = true)
    (k11 : PySem.W.keepIn K (.ref f11) = true)
    (a12 : PySem.W.nsIn K mainGlobals "best_step" = some (some (.ref f12)))
    (l12 : K.lookup f12 = some ⟨oc12, od12, .func (PySem.W.fnOf "best_step" "best_step" (defArgs sbest_step) (defBody sbest_step) (defScope sbest_step) .none kV12 dc12 pm12 an12 cd12 ct12), sl12⟩)
    (c12 : PySem.W.codeIn K cd12 "best_step" = true)
    (k12 : PySem.W.keepIn K (.ref f12) = true)
    (a13 : PySem.W.nsIn K mainGlobals "too_far" = some (some (.ref f13)))
    (l13 : K.lookup f13 = some ⟨oc13, od13, .func (PySem.W.fnOf "too_far" "too_far" (defArgs stoo_far) (defBody stoo_far) (defScope stoo_far) .none kV13 dc13 pm13 an13 cd13 ct13), sl13⟩)
    (c13 : PySem.W.codeIn K cd13 "too_far" = true)
    (k13 : PySem.W.keepIn K (.ref f13) = true)
    (a14 : PySem.W.nsIn K mainGlobals "clash" = some (some (.ref f14)))
    (l14 : K.lookup f14 = some ⟨oc14, od14, .func (PySem.W.fnOf "clash" "clash" (defArgs sclash) (defBody sclash) (defScope sclash) .none kV14 dc14 pm14 an14 cd14 ct14), sl14⟩)
    (c14 : PySem.W.codeIn K cd14 "clash" = true)
    (k14 : PySem.W.keepIn K (.ref f14) = true)
    (a15 : PySem.W.findIn K (.ref C) "__init__" = some (some (.ref f15)))
    (i15 : PySem.W.isFn K (.ref f15) = true)
    (l15 : K.lookup f15 = some ⟨oc15, od15, .func (PySem.W.fnOf "__init__" "Dark.__init__" (defArgs sDark_init) (defBody sDark_init) (defScope sDark_init) .none kV15 dc15 pm15 an15 cd15 ct15), sl15⟩)
    (c15 : PySem.W.codeIn K cd15 "Dark.__init__" = true)
    (k15 : PySem.W.keepIn K (.ref f15) = true)
    (a16 : PySem.W.findIn K (.ref C) "hear" = some (some (.ref f16)))
    (i16 : PySem.W.isFn K (.ref f16) = true)
    (l16 : K.lookup f16 = some ⟨oc16, od16, .func (PySem.W.fnOf "hear" "Dark.hear" (defArgs sDark_hear) (defBody sDark_hear) (defScope sDark_hear) .none kV16 dc16 pm16 an16 cd16 ct16), sl16⟩)
    (c16 : PySem.W.codeIn K cd16 "Dark.hear" = true)
    (k16 : PySem.W.keepIn K (.ref f16) = true)
    (a17 : PySem.W.findIn K (.ref C) "looks" = some (some (.ref f17)))
    (i17 : PySem.W.isFn K (.ref f17) = true)
    (l17 : K.lookup f17 = some ⟨oc17, od17, .func (PySem.W.fnOf "looks" "Dark.looks" (defArgs sDark_looks) (defBody sDark_looks) (defScope sDark_looks) .none kV17 dc17 pm17 an17 cd17 ct17), sl17⟩)
    (c17 : PySem.W.codeIn K cd17 "Dark.looks" = true)
    (k17 : PySem.W.keepIn K (.ref f17) = true)
    (a18 : PySem.W.findIn K (.ref C) "least" = some (some (.ref f18)))
    (i18 : PySem.W.isFn K (.ref f18) = true)
    (l18 : K.lookup f18 = some ⟨oc18, od18, .func (PySem.W.fnOf "least" "Dark.least" (defArgs sDark_least) (defBody sDark_least) (defScope sDark_least) .none kV18 dc18 pm18 an18 cd18 ct18), sl18⟩)
    (c18 : PySem.W.codeIn K cd18 "Dark.least" = true)
    (k18 : PySem.W.keepIn K (.ref f18) = true)
    (a19 : PySem.W.findIn K (.ref C) "greatest" = some (some (.ref f19)))
    (i19 : PySem.W.isFn K (.ref f19) = true)
    (l19 : K.lookup f19 = some ⟨oc19, od19, .func (PySem.W.fnOf "greatest" "Dark.greatest" (defArgs sDark_greatest) (defBody sDark_greatest) (defScope sDark_greatest) .none kV19 dc19 pm19 an19 cd19 ct19), sl19⟩)
    (c19 : PySem.W.codeIn K cd19 "Dark.greatest" = true)
    (k19 : PySem.W.keepIn K (.ref f19) = true)
    (a20 : PySem.W.findIn K (.ref C) "led_back" = some (some (.ref f20)))
    (i20 : PySem.W.isFn K (.ref f20) = true)
    (l20 : K.lookup f20 = some ⟨oc20, od20, .func (PySem.W.fnOf "led_back" "Dark.led_back" (defArgs sDark_led_back) (defBody sDark_led_back) (defScope sDark_led_back) .none kV20 dc20 pm20 an20 cd20 ct20), sl20⟩)
    (c20 : PySem.W.codeIn K cd20 "Dark.led_back" = true)
    (k20 : PySem.W.keepIn K (.ref f20) = true)
    (a21 : PySem.W.findIn K (.ref C) "_check_word" = some (some (.ref f21)))
    (i21 : PySem.W.isFn K (.ref f21) = true)
    (l21 : K.lookup f21 = some ⟨oc21, od21, .func (PySem.W.fnOf "_check_word" "Dark._check_word" (defArgs sDarkcheck_word) (defBody sDarkcheck_word) (defScope sDarkcheck_word) .none kV21 dc21 pm21 an21 cd21 ct21), sl21⟩)
    (c21 : PySem.W.codeIn K cd21 "Dark._check_word" = true)
    (k21 : PySem.W.keepIn K (.ref f21) = true)
    (a22 : PySem.W.findIn K (.ref C) "_home" = some (some (.ref f22)))
    (i22 : PySem.W.isFn K (.ref f22) = true)
    (l22 : K.lookup f22 = some ⟨oc22, od22, .func (PySem.W.fnOf "_home" "Dark._home" (defArgs sDarkhome) (defBody sDarkhome) (defScope sDarkhome) .none kV22 dc22 pm22 an22 cd22 ct22), sl22⟩)
    (c22 : PySem.W.codeIn K cd22 "Dark._home" = true)
    (k22 : PySem.W.keepIn K (.ref f22) = true)
    (a23 : PySem.W.findIn K (.ref C) "_clashing" = some (some (.ref f23)))
    (i23 : PySem.W.isFn K (.ref f23) = true)
    (l23 : K.lookup f23 = some ⟨oc23, od23, .func (PySem.W.fnOf "_clashing" "Dark._clashing" (defArgs sDarkclashing) (defBody sDarkclashing) (defScope sDarkclashing) .none kV23 dc23 pm23 an23 cd23 ct23), sl23⟩)
    (c23 : PySem.W.codeIn K cd23 "Dark._clashing" = true)
    (k23 : PySem.W.keepIn K (.ref f23) = true)
    (a24 : PySem.W.findIn K (.ref C) "_bound" = some (some (.ref f24)))
    (i24 : PySem.W.isFn K (.ref f24) = true)
    (l24 : K.lookup f24 = some ⟨oc24, od24, .func (PySem.W.fnOf "_bound" "Dark._bound" (defArgs sDarkbound) (defBody sDarkbound) (defScope sDarkbound) .none kV24 dc24 pm24 an24 cd24 ct24), sl24⟩)
    (c24 : PySem.W.codeIn K cd24 "Dark._bound" = true)
    (k24 : PySem.W.keepIn K (.ref f24) = true)
    (a25 : PySem.W.nsIn K mainGlobals "law" = some (some (.ref f25)))
    (l25 : K.lookup f25 = some ⟨oc25, od25, .func (PySem.W.fnOf "law" "law" (defArgs slaw) (defBody slaw) (defScope slaw) .none kV25 dc25 pm25 an25 cd25 ct25), sl25⟩)
    (c25 : PySem.W.codeIn K cd25 "law" = true)
    (k25 : PySem.W.keepIn K (.ref f25) = true)
    (pg : PySem.W.plainGet K C Str.empty = true)
    (hd : PySem.W.hasDictIn K C = true)
    (po : PySem.W.plainOver K C = true)
    (sa : PySem.W.findIn K (.ref C) "__setattr__" = some (some (.builtin "object.__setattr__")))
    (mk : PySem.W.makesIn K C = true)
    (kc : PySem.W.keepIn K (.ref C) = true)
    (n_length : PySem.W.findIn K (.ref C) "_length" = some none)
    (n_looks : PySem.W.findIn K (.ref C) "_looks" = some none)
    (b_max : PySem.W.nsIn K mainGlobals "max" = some none)
    (b_min : PySem.W.nsIn K mainGlobals "min" = some none)
    (b_len : PySem.W.nsIn K mainGlobals "len" = some none)
    (b_range : PySem.W.nsIn K mainGlobals "range" = some none)
    (b_sorted : PySem.W.nsIn K mainGlobals "sorted" = some none)
    (b_isinstance : PySem.W.nsIn K mainGlobals "isinstance" = some none)
    (b_list : PySem.W.nsIn K mainGlobals "list" = some none)
    (b_tuple : PySem.W.nsIn K mainGlobals "tuple" = some none)
    (b_bool : PySem.W.nsIn K mainGlobals "bool" = some none)
    (b_int : PySem.W.nsIn K mainGlobals "int" = some none)
    (b_str : PySem.W.nsIn K mainGlobals "str" = some none)
    (b_super : PySem.W.nsIn K mainGlobals "super" = some none)
    (gSLOW : PySem.W.nsIn K mainGlobals "SLOW" = some (some (.str "slow" tSLOW)))
    (gFAST : PySem.W.nsIn K mainGlobals "FAST" = some (some (.str "fast" tFAST)))
    (gW : PySem.W.nsIn K mainGlobals "WORDS" = some (some (.ref aW)))
    (lW : K.lookup aW = some ⟨.type "dict", none, .dict es nW, #[]⟩)
    (keys : PySem.W.KeysLit w.params es.toList)
    (low : (aW == sysModules) = false)
    (wS : PySem.W.nsIn K aW "slow" = some (some (.ref tS)))
    (wF : PySem.W.nsIn K aW "fast" = some (some (.ref tF)))
    (lS : K.lookup tS = some ⟨.type "tuple", o1, .seq #[.str "at" u1, .str "from" u2] n1, s1⟩)
    (lF : K.lookup tF = some ⟨.type "tuple", o2, .seq #[.str "at" u3, .str "upto" u4] n2, s2⟩)
    (gL : PySem.W.nsIn K mainGlobals "LOOK_WORDS" = some (some (.ref aL)))
    (lL : K.lookup aL = some ⟨.type "tuple", o3, .seq #[.str "at" u5, .str "from" u6, .str "upto" u7] n3, s3⟩) :
    ∃ fd : FuncData, (∀ (s : Shared) (v : Value), BindsTo s fd ⟨[v], []⟩ [("script", v)]) ∧ ∀ base : Heap, K.In base → base.Ns mainGlobals mg → FnOk l.prog w K mg base CX0 8 fa fd ["script"] (spLaw K) := by
  have e := hfa.symm.trans (PySem.W.mg_of X G a25)
  cases e
  have F0 := fun_mk (st := slaw_tray) l0 c0 k0
  have F1 := fun_mk (st := slaw_draw) l1 c1 k1
  have F2 := fun_mk (st := slaw_alike) l2 c2 k2
  have F3 := fun_mk (st := slaw_apart) l3 c3 k3
  have F4 := fun_mk (st := slaw_any_look) l4 c4 k4
  have F5 := fun_mk (st := slaw_hands) l5 c5 k5
  have F6 := fun_mk (st := slaw_is_as) l6 c6 k6
  have F7 := fun_mk (st := slaw_back_row) l7 c7 k7
  have F8 := fun_mk (st := slaw_heard) l8 c8 k8
  have F9 := fun_mk (st := slaw_right) l9 c9 k9
  have F10 := fun_mk (st := sside_looks) l10 c10 k10
  have F11 := fun_mk (st := splace_by) l11 c11 k11
  have F12 := fun_mk (st := sbest_step) l12 c12 k12
  have F13 := fun_mk (st := stoo_far) l13 c13 k13
  have F14 := fun_mk (st := sclash) l14 c14 k14
  have F15 := fun_mk (st := sDark_init) l15 c15 k15
  have F16 := fun_mk (st := sDark_hear) l16 c16 k16
  have F17 := fun_mk (st := sDark_looks) l17 c17 k17
  have F18 := fun_mk (st := sDark_least) l18 c18 k18
  have F19 := fun_mk (st := sDark_greatest) l19 c19 k19
  have F20 := fun_mk (st := sDark_led_back) l20 c20 k20
  have F21 := fun_mk (st := sDarkcheck_word) l21 c21 k21
  have F22 := fun_mk (st := sDarkhome) l22 c22 k22
  have F23 := fun_mk (st := sDarkclashing) l23 c23 k23
  have F24 := fun_mk (st := sDarkbound) l24 c24 k24
  have F25 := fun_mk (st := slaw) l25 c25 k25
  let Z : Ad := {
    a_law_tray := f0,
    d_law_tray := PySem.W.fnOf "_law_tray" "_law_tray" (defArgs slaw_tray) (defBody slaw_tray) (defScope slaw_tray) .none kV0 dc0 pm0 an0 cd0 ct0,
    a_law_draw := f1,
    d_law_draw := PySem.W.fnOf "_law_draw" "_law_draw" (defArgs slaw_draw) (defBody slaw_draw) (defScope slaw_draw) .none kV1 dc1 pm1 an1 cd1 ct1,
    a_law_alike := f2,
    d_law_alike := PySem.W.fnOf "_law_alike" "_law_alike" (defArgs slaw_alike) (defBody slaw_alike) (defScope slaw_alike) .none kV2 dc2 pm2 an2 cd2 ct2,
    a_law_apart := f3,
    d_law_apart := PySem.W.fnOf "_law_apart" "_law_apart" (defArgs slaw_apart) (defBody slaw_apart) (defScope slaw_apart) .none kV3 dc3 pm3 an3 cd3 ct3,
    a_law_any_look := f4,
    d_law_any_look := PySem.W.fnOf "_law_any_look" "_law_any_look" (defArgs slaw_any_look) (defBody slaw_any_look) (defScope slaw_any_look) .none kV4 dc4 pm4 an4 cd4 ct4,
    a_law_hands := f5,
    d_law_hands := PySem.W.fnOf "_law_hands" "_law_hands" (defArgs slaw_hands) (defBody slaw_hands) (defScope slaw_hands) .none kV5 dc5 pm5 an5 cd5 ct5,
    a_law_is_as := f6,
    d_law_is_as := PySem.W.fnOf "_law_is_as" "_law_is_as" (defArgs slaw_is_as) (defBody slaw_is_as) (defScope slaw_is_as) .none kV6 dc6 pm6 an6 cd6 ct6,
    a_law_back_row := f7,
    d_law_back_row := PySem.W.fnOf "_law_back_row" "_law_back_row" (defArgs slaw_back_row) (defBody slaw_back_row) (defScope slaw_back_row) .none kV7 dc7 pm7 an7 cd7 ct7,
    a_law_heard := f8,
    d_law_heard := PySem.W.fnOf "_law_heard" "_law_heard" (defArgs slaw_heard) (defBody slaw_heard) (defScope slaw_heard) .none kV8 dc8 pm8 an8 cd8 ct8,
    a_law_right := f9,
    d_law_right := PySem.W.fnOf "_law_right" "_law_right" (defArgs slaw_right) (defBody slaw_right) (defScope slaw_right) .none kV9 dc9 pm9 an9 cd9 ct9,
    a_side_looks := f10,
    d_side_looks := PySem.W.fnOf "side_looks" "side_looks" (defArgs sside_looks) (defBody sside_looks) (defScope sside_looks) .none kV10 dc10 pm10 an10 cd10 ct10,
    a_place_by := f11,
    d_place_by := PySem.W.fnOf "place_by" "place_by" (defArgs splace_by) (defBody splace_by) (defScope splace_by) .none kV11 dc11 pm11 an11 cd11 ct11,
    a_best_step := f12,
    d_best_step := PySem.W.fnOf "best_step" "best_step" (defArgs sbest_step) (defBody sbest_step) (defScope sbest_step) .none kV12 dc12 pm12 an12 cd12 ct12,
    a_too_far := f13,
    d_too_far := PySem.W.fnOf "too_far" "too_far" (defArgs stoo_far) (defBody stoo_far) (defScope stoo_far) .none kV13 dc13 pm13 an13 cd13 ct13,
    a_clash := f14,
    d_clash := PySem.W.fnOf "clash" "clash" (defArgs sclash) (defBody sclash) (defScope sclash) .none kV14 dc14 pm14 an14 cd14 ct14,
    a_Dark_init := f15,
    d_Dark_init := PySem.W.fnOf "__init__" "Dark.__init__" (defArgs sDark_init) (defBody sDark_init) (defScope sDark_init) .none kV15 dc15 pm15 an15 cd15 ct15,
    a_Dark_hear := f16,
    d_Dark_hear := PySem.W.fnOf "hear" "Dark.hear" (defArgs sDark_hear) (defBody sDark_hear) (defScope sDark_hear) .none kV16 dc16 pm16 an16 cd16 ct16,
    a_Dark_looks := f17,
    d_Dark_looks := PySem.W.fnOf "looks" "Dark.looks" (defArgs sDark_looks) (defBody sDark_looks) (defScope sDark_looks) .none kV17 dc17 pm17 an17 cd17 ct17,
    a_Dark_least := f18,
    d_Dark_least := PySem.W.fnOf "least" "Dark.least" (defArgs sDark_least) (defBody sDark_least) (defScope sDark_least) .none kV18 dc18 pm18 an18 cd18 ct18,
    a_Dark_greatest := f19,
    d_Dark_greatest := PySem.W.fnOf "greatest" "Dark.greatest" (defArgs sDark_greatest) (defBody sDark_greatest) (defScope sDark_greatest) .none kV19 dc19 pm19 an19 cd19 ct19,
    a_Dark_led_back := f20,
    d_Dark_led_back := PySem.W.fnOf "led_back" "Dark.led_back" (defArgs sDark_led_back) (defBody sDark_led_back) (defScope sDark_led_back) .none kV20 dc20 pm20 an20 cd20 ct20,
    a_Darkcheck_word := f21,
    d_Darkcheck_word := PySem.W.fnOf "_check_word" "Dark._check_word" (defArgs sDarkcheck_word) (defBody sDarkcheck_word) (defScope sDarkcheck_word) .none kV21 dc21 pm21 an21 cd21 ct21,
    a_Darkhome := f22,
    d_Darkhome := PySem.W.fnOf "_home" "Dark._home" (defArgs sDarkhome) (defBody sDarkhome) (defScope sDarkhome) .none kV22 dc22 pm22 an22 cd22 ct22,
    a_Darkclashing := f23,
    d_Darkclashing := PySem.W.fnOf "_clashing" "Dark._clashing" (defArgs sDarkclashing) (defBody sDarkclashing) (defScope sDarkclashing) .none kV23 dc23 pm23 an23 cd23 ct23,
    a_Darkbound := f24,
    d_Darkbound := PySem.W.fnOf "_bound" "Dark._bound" (defArgs sDarkbound) (defBody sDarkbound) (defScope sDarkbound) .none kV24 dc24 pm24 an24 cd24 ct24,
    a_law := fa,
    d_law := PySem.W.fnOf "law" "law" (defArgs slaw) (defBody slaw) (defScope slaw) .none kV25 dc25 pm25 an25 cd25 ct25,
    C := C,
    v_SLOW := .str "slow" tSLOW,
    v_FAST := .str "fast" tFAST,
    a_WORDS := aW,
    a_LW := aL,
    t_slow := tS,
    t_fast := tF }
  have T : Tx K w mg Z := {
    F_law_tray := F0,
    bb_law_tray := F0.binds (ps := P_law_tray) fun _ _ _ _ _ _ us hl => match us, hl with | [_], _ => rfl,
    g_law_tray := PySem.W.mg_of X G a0,
    F_law_draw := F1,
    bb_law_draw := F1.binds (ps := P_law_draw) fun _ _ _ _ _ _ us hl => match us, hl with | [_, _], _ => rfl,
    g_law_draw := PySem.W.mg_of X G a1,
    F_law_alike := F2,
    bb_law_alike := F2.binds (ps := P_law_alike) fun _ _ _ _ _ _ us hl => match us, hl with | [_, _], _ => rfl,
    g_law_alike := PySem.W.mg_of X G a2,
    F_law_apart := F3,
    bb_law_apart := F3.binds (ps := P_law_apart) fun _ _ _ _ _ _ us hl => match us, hl with | [_, _, _], _ => rfl,
    g_law_apart := PySem.W.mg_of X G a3,
    F_law_any_look := F4,
    bb_law_any_look := F4.binds (ps := P_law_any_look) fun _ _ _ _ _ _ us hl => match us, hl with | [_, _], _ => rfl,
    g_law_any_look := PySem.W.mg_of X G a4,
    F_law_hands := F5,
    bb_law_hands := F5.binds (ps := P_law_hands) fun _ _ _ _ _ _ us hl => match us, hl with | [_], _ => rfl,
    g_law_hands := PySem.W.mg_of X G a5,
    F_law_is_as := F6,
    bb_law_is_as := F6.binds (ps := P_law_is_as) fun _ _ _ _ _ _ us hl => match us, hl with | [_, _, _], _ => rfl,
    g_law_is_as := PySem.W.mg_of X G a6,
    F_law_back_row := F7,
    bb_law_back_row := F7.binds (ps := P_law_back_row) fun _ _ _ _ _ _ us hl => match us, hl with | [_, _], _ => rfl,
    g_law_back_row := PySem.W.mg_of X G a7,
    F_law_heard := F8,
    bb_law_heard := F8.binds (ps := P_law_heard) fun _ _ _ _ _ _ us hl => match us, hl with | [_, _], _ => rfl,
    g_law_heard := PySem.W.mg_of X G a8,
    F_law_right := F9,
    bb_law_right := F9.binds (ps := P_law_right) fun _ _ _ _ _ _ us hl => match us, hl with | [_, _], _ => rfl,
    g_law_right := PySem.W.mg_of X G a9,
    F_side_looks := F10,
    bb_side_looks := F10.binds (ps := P_side_looks) fun _ _ _ _ _ _ us hl => match us, hl with | [_, _], _ => rfl,
    g_side_looks := PySem.W.mg_of X G a10,
    F_place_by := F11,
    bb_place_by := F11.binds (ps := P_place_by) fun _ _ _ _ _ _ us hl => match us, hl with | [_, _, _, _], _ => rfl,
    g_place_by := PySem.W.mg_of X G a11,
    F_best_step := F12,
    bb_best_step := F12.binds (ps := P_best_step) fun _ _ _ _ _ _ us hl => match us, hl with | [_, _, _, _], _ => rfl,
    g_best_step := PySem.W.mg_of X G a12,
    F_too_far := F13,
    bb_too_far := F13.binds (ps := P_too_far) fun _ _ _ _ _ _ us hl => match us, hl with | [_, _, _], _ => rfl,
    g_too_far := PySem.W.mg_of X G a13,
    F_clash := F14,
    bb_clash := F14.binds (ps := P_clash) fun _ _ _ _ _ _ us hl => match us, hl with | [_, _, _], _ => rfl,
    g_clash := PySem.W.mg_of X G a14,
    F_Dark_init := F15,
    bb_Dark_init := F15.binds (ps := P_Dark_init) fun _ _ _ _ _ _ us hl => match us, hl with | [_, _], _ => rfl,
    F_Dark_hear := F16,
    bb_Dark_hear := F16.binds (ps := P_Dark_hear) fun _ _ _ _ _ _ us hl => match us, hl with | [_, _, _, _], _ => rfl,
    m_Dark_hear := ⟨a16, i16, k16⟩,
    F_Dark_looks := F17,
    bb_Dark_looks := F17.binds (ps := P_Dark_looks) fun _ _ _ _ _ _ us hl => match us, hl with | [_], _ => rfl,
    m_Dark_looks := ⟨a17, i17, k17⟩,
    F_Dark_least := F18,
    bb_Dark_least := F18.binds (ps := P_Dark_least) fun _ _ _ _ _ _ us hl => match us, hl with | [_, _], _ => rfl,
    m_Dark_least := ⟨a18, i18, k18⟩,
    F_Dark_greatest := F19,
    bb_Dark_greatest := F19.binds (ps := P_Dark_greatest) fun _ _ _ _ _ _ us hl => match us, hl with | [_, _], _ => rfl,
    m_Dark_greatest := ⟨a19, i19, k19⟩,
    F_Dark_led_back := F20,
    bb_Dark_led_back := F20.binds (ps := P_Dark_led_back) fun _ _ _ _ _ _ us hl => match us, hl with | [_], _ => rfl,
    m_Dark_led_back := ⟨a20, i20, k20⟩,
    F_Darkcheck_word := F21,
    bb_Darkcheck_word := F21.binds (ps := P_Darkcheck_word) fun _ _ _ _ _ _ us hl => match us, hl with | [_, _], _ => rfl,
    m_Darkcheck_word := ⟨a21, i21, k21⟩,
    F_Darkhome := F22,
    bb_Darkhome := F22.binds (ps := P_Darkhome) fun _ _ _ _ _ _ us hl => match us, hl with | [_, _, _, _], _ => rfl,
    m_Darkhome := ⟨a22, i22, k22⟩,
    F_Darkclashing := F23,
    bb_Darkclashing := F23.binds (ps := P_Darkclashing) fun _ _ _ _ _ _ us hl => match us, hl with | [_, _], _ => rfl,
    m_Darkclashing := ⟨a23, i23, k23⟩,
    F_Darkbound := F24,
    bb_Darkbound := F24.binds (ps := P_Darkbound) fun _ _ _ _ _ _ us hl => match us, hl with | [_, _, _], _ => rfl,
    m_Darkbound := ⟨a24, i24, k24⟩,
    F_law := F25,
    bb_law := F25.binds (ps := P_law) fun _ _ _ _ _ _ us hl => match us, hl with | [_], _ => rfl,
    g_law := PySem.W.mg_of X G a25,
    cl := ⟨pg, hd, po, sa⟩,
    g_Dark := PySem.W.mg_of X G aC,
    mk_Dark := ⟨mk, a15, i15, kc⟩,
    n_length := n_length,
    n_looks := n_looks,
    b_max := PySem.W.mg_none_of X G b_max,
    b_min := PySem.W.mg_none_of X G b_min,
    b_len := PySem.W.mg_none_of X G b_len,
    b_range := PySem.W.mg_none_of X G b_range,
    b_sorted := PySem.W.mg_none_of X G b_sorted,
    b_isinstance := PySem.W.mg_none_of X G b_isinstance,
    b_list := PySem.W.mg_none_of X G b_list,
    b_tuple := PySem.W.mg_none_of X G b_tuple,
    b_bool := PySem.W.mg_none_of X G b_bool,
    b_int := PySem.W.mg_none_of X G b_int,
    b_str := PySem.W.mg_none_of X G b_str,
    b_super := PySem.W.mg_none_of X G b_super,
    g_SLOW := PySem.W.mg_of X G gSLOW,
    r_SLOW := ⟨tSLOW, rfl⟩,
    g_FAST := PySem.W.mg_of X G gFAST,
    r_FAST := ⟨tFAST, rfl⟩,
    g_WORDS := PySem.W.mg_of X G gW,
    kd_WORDS := ⟨es, nW, lW, keys, low⟩,
    w_slow := wS,
    w_fast := wF,
    q_slow := fun _ => sqt2 lS,
    q_fast := fun _ => sqt2 lF,
    g_LOOK_WORDS := PySem.W.mg_of X G gL,
    q_LW := fun _ => sqt3 lL }
  exact ⟨PySem.W.fnOf "law" "law" (defArgs slaw) (defBody slaw) (defScope slaw) .none kV25 dc25 pm25 an25 cd25 ct25, fun s v => .of_eq rfl, fun base _ _ => ok_law T⟩
theorem walk {l : PySem.W.OpenLaw} {q : Program} {loose : List Str} {XP : (Str → Option Value) → Heap → Prop} {YP : World → Heap → Prop} {d : DefRec} {K : Params → PySem.W.Frag} (hn : l.most = some 63) (hdf : d.params.defaults = [])
    (hY : ∀ (w : World) (h : Heap), YP w h → (K w.params).In h)
    (F : ∀ (w : World) (mg : Str → Option Value) (fa : Addr) (h : Heap), (K w.params).In h → h.Ns mainGlobals mg → mg d.name = some (.ref fa) →
      ∃ fd : FuncData, (∀ (s : Shared) (u : Value), BindsTo s fd ⟨[u], []⟩ [("script", u)]) ∧ ∀ base : Heap, (K w.params).In base → base.Ns mainGlobals mg → FnOk l.prog w (K w.params) mg base CX0 8 fa fd ["script"] (spLaw (K w.params))) :
    PySem.W.WalkO q loose XP YP l.row.toRowW d [] (fun f vs => PySem.call f vs) :=
  L2.walk_of (n := 63) (k := 8) (x := "script") (CX := fun _ => CX0) (sp := fun w => spLaw (K w.params)) hn (by decide) hdf ⟨rfl, by decide, by decide⟩ hY F (fun _ _ a ns hl _ hS => ⟨a, ns, rfl, hS, hl, fun _ => rfl⟩) fun _ _ _ _ _ z => z
end KA
open PySem PySem.W PyProof.Rows
set_option maxRecDepth 100000 in
set_option maxHeartbeats 0 in
theorem PySem.Challenge.cw_darkpace_k58_whole_all_hands_led_back_holds : PySem.Challenge.rw_darkpace_k58_whole_all_hands_led_back.Holds := by
  w_on; o_law; k_head; (case hw => w_witness2)
  k_fill
  refine KA.walk (l := PySem.Challenge.rw_darkpace_k58_whole_all_hands_led_back) rfl rfl (fun w h Y => PySem.W.kIn_of Y) ?F
  case F =>
    intro w mg fa h KX G hmg
    refine' KA.all_mk KX G hmg ?aC ?a0 ?l0 ?c0 ?k0 ?a1 ?l1 ?c1 ?k1 ?a2 ?l2 ?c2 ?k2 ?a3 ?l3 ?c3 ?k3 ?a4 ?l4 ?c4 ?k4 ?a5 ?l5 ?c5 ?k5 ?a6 ?l6 ?c6 ?k6 ?a7 ?l7 ?c7 ?k7 ?a8 ?l8 ?c8 ?k8 ?a9 ?l9 ?c9 ?k9 ?a10 ?l10 ?c10 ?k10 ?a11 ?l11 ?c11 ?k11 ?a12 ?l12 ?c12 ?k12 ?a13 ?l13 ?c13 ?k13 ?a14 ?l14 ?c14 ?k14 ?a15 ?i15 ?l15 ?c15 ?k15 ?a16 ?i16 ?l16 ?c16 ?k16 ?a17 ?i17 ?l17 ?c17 ?k17 ?a18 ?i18 ?l18 ?c18 ?k18 ?a19 ?i19 ?l19 ?c19 ?k19 ?a20 ?i20 ?l20 ?c20 ?k20 ?a21 ?i21 ?l21 ?c21 ?k21 ?a22 ?i22 ?l22 ?c22 ?k22 ?a23 ?i23 ?l23 ?c23 ?k23 ?a24 ?i24 ?l24 ?c24 ?k24 ?a25 ?l25 ?c25 ?k25 ?pg ?hd ?po ?sa ?mk ?kc ?n_length ?n_looks ?b_max ?b_min ?b_len ?b_range ?b_sorted ?b_isinstance ?b_list ?b_tuple ?b_bool ?b_int ?b_str ?b_super ?gSLOW ?gFAST ?gW ?lW ?keys ?low ?wS ?wF ?lS ?lF ?gL ?lL
    (case aC => k_is)
    (case a0 => k_is)
    (case l0 => k_is)
    (case c0 => k_is)
    (case k0 => k_is)
    (case a1 => k_is)
    (case l1 => k_is)
    (case c1 => k_is)
    (case k1 => k_is)
    (case a2 => k_is)
    (case l2 => k_is)
    (case c2 => k_is)
    (case k2 => k_is)
    (case a3 => k_is)
    (case l3 => k_is)
    (case c3 => k_is)
    (case k3 => k_is)
    (case a4 => k_is)
    (case l4 => k_is)
    (case c4 => k_is)
    (case k4 => k_is)
    (case a5 => k_is)
    (case l5 => k_is)
    (case c5 => k_is)
    (case k5 => k_is)
    (case a6 => k_is)
    (case l6 => k_is)
    (case c6 => k_is)
    (case k6 => k_is)
    (case a7 => k_is)
    (case l7 => k_is)
    (case c7 => k_is)
    (case k7 => k_is)
    (case a8 => k_is)
    (case l8 => k_is)
    (case c8 => k_is)
    (case k8 => k_is)
    (case a9 => k_is)
    (case l9 => k_is)
    (case c9 => k_is)
    (case k9 => k_is)
    (case a10 => k_is)
    (case l10 => k_is)
    (case c10 => k_is)
    (case k10 => k_is)
    (case a11 => k_is)
    (case l11 => k_is)
    (case c11 => k_is)
    (case k11 => k_is)
    (case a12 => k_is)
    (case l12 => k_is)
    (case c12 => k_is)
    (case k12 => k_is)
    (case a13 => k_is)
    (case l13 => k_is)
    (case c13 => k_is)
    (case k13 => k_is)
    (case a14 => k_is)
    (case l14 => k_is)
    (case c14 => k_is)
    (case k14 => k_is)
    (case a15 => k_is)
    (case i15 => k_is)
    (case l15 => k_is)
    (case c15 => k_is)
    (case k15 => k_is)
    (case a16 => k_is)
    (case i16 => k_is)
    (case l16 => k_is)
    (case c16 => k_is)
    (case k16 => k_is)
    (case a17 => k_is)
    (case i17 => k_is)
    (case l17 => k_is)
    (case c17 => k_is)
    (case k17 => k_is)
    (case a18 => k_is)
    (case i18 => k_is)
    (case l18 => k_is)
    (case c18 => k_is)
    (case k18 => k_is)
    (case a19 => k_is)
    (case i19 => k_is)
    (case l19 => k_is)
    (case c19 => k_is)
    (case k19 => k_is)
    (case a20 => k_is)
    (case i20 => k_is)
    (case l20 => k_is)
    (case c20 => k_is)
    (case k20 => k_is)
    (case a21 => k_is)
    (case i21 => k_is)
    (case l21 => k_is)
    (case c21 => k_is)
    (case k21 => k_is)
    (case a22 => k_is)
    (case i22 => k_is)
    (case l22 => k_is)
    (case c22 => k_is)
    (case k22 => k_is)
    (case a23 => k_is)
    (case i23 => k_is)
    (case l23 => k_is)
    (case c23 => k_is)
    (case k23 => k_is)
    (case a24 => k_is)
    (case i24 => k_is)
    (case l24 => k_is)
    (case c24 => k_is)
    (case k24 => k_is)
    (case a25 => k_is)
    (case l25 => k_is)
    (case c25 => k_is)
    (case k25 => k_is)
    (case pg => k_is)
    (case hd => k_is)
    (case po => k_is)
    (case sa => k_is)
    (case mk => k_is)
    (case kc => k_is)
    (case n_length => k_is)
    (case n_looks => k_is)
    (case b_max => k_is)
    (case b_min => k_is)
    (case b_len => k_is)
    (case b_range => k_is)
    (case b_sorted => k_is)
    (case b_isinstance => k_is)
    (case b_list => k_is)
    (case b_tuple => k_is)
    (case b_bool => k_is)
    (case b_int => k_is)
    (case b_str => k_is)
    (case b_super => k_is)
    (case gSLOW => k_is)
    (case gFAST => k_is)
    (case gW => k_is)
    (case lW => k_is)
    (case keys => k_keys)
    (case low => decide +kernel)
    (case wS => k_is)
    (case wF => k_is)
    (case lS => k_is)
    (case lF => k_is)
    (case gL => k_is)
    (case lL => k_is)
