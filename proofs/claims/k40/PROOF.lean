import PyProof.Rows.All
import Wide.All
import OpenK.AllK
import Wide.FinOn
import HandS.ForMost
import HandS.Wide
import HandS.Deep
import HandS.IsInst
import HandS.Strs
import HandS.Codes
import HandS.Gcd
import KE.SortData
import KE.DataMinMax
import HandS.SetFor
import HandS.Defaults
import HandS.MakeKwOnly
import PySem.Challenge.RW_darkpace_k40_neighbours_told
set_option Elab.async false
set_option linter.all false
set_option maxRecDepth 100000
set_option exponentiation.threshold 3000
set_option maxHeartbeats 16000000
/-! Rules of our own: data under a growing heap, sorted and max and min of data, set of ints, a written dict's item, a method called with a keyword. -/
namespace DP
open PySem PySem.Spec PyProof.Rows L2

theorem rooms {A : Around} {k : Nat} (hr : Room k A) : A.units + 65 < cLine := by have := hr.un; omega

theorem Same.rd {H H' : Hp} {a : Addr} {u : HO} (S : Same H H') (h : Rd H a u) : Rd H' a u := by
  rcases h with h | ⟨o, h⟩
  · exact Or.inl (S _ _ h)
  · exact Or.inr ⟨o, S _ _ h⟩
theorem Same.sqT {K : PySem.W.Frag} {H H' : Hp} {a : Addr} {xs : List V} (S : Same H H') (h : SqT K H a xs) : SqT K H' a xs := by
  rcases h with h | h
  · exact Or.inl (Same.rd S h)
  · exact Or.inr h
theorem Same.sqL {K : PySem.W.Frag} {H H' : Hp} {a : Addr} {xs : List V} (S : Same H H') (h : SqL K H a xs) : SqL K H' a xs := by
  rcases h with h | h
  · exact Or.inl (Same.rd S h)
  · exact Or.inr h
mutual
theorem dp_mono {K : PySem.W.Frag} {H H' : Hp} (S : Same H H') : ∀ (d : PyData) (v : V), Dp K H v d → Dp K H' v d
  | .none, _, h => by cases h; exact .non
  | .bool b, _, h => by cases h; exact .bl _
  | .int b, _, h => by cases h; exact .int _
  | .str b, _, h => by cases h; exact .str _
  | .list ds, _, h => by
    cases h with
    | lst s a => exact .lst (Same.sqL S s) (dpAll_mono S ds _ a)
  | .tuple ds, _, h => by
    cases h with
    | tup s a => exact .tup (Same.sqT S s) (dpAll_mono S ds _ a)
  | .dict _, _, h => by cases h
theorem dpAll_mono {K : PySem.W.Frag} {H H' : Hp} (S : Same H H') : ∀ (ds : List PyData) (vs : List V), DpAll K H vs ds → DpAll K H' vs ds
  | [], _, h => by cases h; exact .nil
  | d :: ds, _, h => by
    cases h with
    | cons a b => exact .cons (dp_mono S d _ a) (dpAll_mono S ds _ b)
end
section
variable {K : PySem.W.Frag} {H : Hp}
theorem dpAll_len : ∀ {vs : List V} {ds : List PyData}, DpAll K H vs ds → vs.length = ds.length
  | _, _, .nil => rfl
  | _, _, .cons _ t => by rw [List.length_cons, List.length_cons, dpAll_len t]
theorem dpAll_get : ∀ {vs : List V} {ds : List PyData} {i : Nat} {v : V}, DpAll K H vs ds → vs[i]? = some v → ∃ d, ds[i]? = some d ∧ Dp K H v d
  | _, _, _, _, .nil, e => by simp at e
  | _, _, 0, _, .cons r _, e => by simp at e; subst e; exact ⟨_, rfl, r⟩
  | _, _, i + 1, v, .cons _ t, e => by
    obtain ⟨d, h1, h2⟩ := dpAll_get (i := i) (v := v) t (by simpa using e)
    exact ⟨d, by simpa using h1, h2⟩
theorem dpAll_get' : ∀ {vs : List V} {ds : List PyData} {i : Nat} {d : PyData}, DpAll K H vs ds → ds[i]? = some d → ∃ v, vs[i]? = some v ∧ Dp K H v d
  | _, _, _, _, .nil, e => by simp at e
  | _, _, 0, _, .cons r _, e => by simp at e; subst e; exact ⟨_, rfl, r⟩
  | _, _, i + 1, v, .cons _ t, e => by
    obtain ⟨d, h1, h2⟩ := dpAll_get' (i := i) (d := v) t (by simpa using e)
    exact ⟨d, by simpa using h1, h2⟩
theorem dpAll_snoc : ∀ {vs : List V} {ds : List PyData} {v : V} {d : PyData}, DpAll K H vs ds → Dp K H v d → DpAll K H (vs ++ [v]) (ds ++ [d])
  | _, _, _, _, .nil, r => .cons r .nil
  | _, _, _, _, .cons q t, r => .cons q (dpAll_snoc t r)
theorem dpAll_app : ∀ {vs ws : List V} {ds es : List PyData}, DpAll K H vs ds → DpAll K H ws es → DpAll K H (vs ++ ws) (ds ++ es)
  | _, _, _, _, .nil, r => r
  | _, _, _, _, .cons q t, r => .cons q (dpAll_app t r)
theorem dpAll_ints : ∀ ns : List Int, DpAll K H (ns.map V.int) (ns.map PyData.int)
  | [] => .nil
  | n :: ns => .cons (.int n) (dpAll_ints ns)
theorem dpAll_int : ∀ {vs : List V} {ns : List Int}, DpAll K H vs (ns.map PyData.int) → vs = ns.map V.int
  | _, [], h => by cases h; rfl
  | _, n :: ns, h => by
    have h' : DpAll K H _ (PyData.int n :: ns.map PyData.int) := h
    cases h' with
    | cons a b =>
      cases a
      rw [dpAll_int b]; rfl
theorem same_upd {H : Hp} {p : Addr} {o : HO} (h : H p = none) : Same H (upd H p o) := fun b u e => by rw [upd_ne (ne_of_none e h)]; exact e
end

section
variable {X : Cx}
/-- sorted(xs): xs a list of alike data, of any length; P is what is known of each -/
def rSortD (K : PySem.W.Frag) {β : Type} (enc : β → PyData) : List V → Hp → VK → Prop := fun vs H Q => ∃ (a : Addr) (xs : List V) (bs : List β), vs = [V.ref a] ∧ SqL K H a xs ∧ DpAll K H xs (bs.map enc) ∧
  PySem.W.AllAlike (bs.map enc) ∧ PySem.W.Sortable (bs.map enc) ∧ (∀ b ∈ bs, (enc b).depth ≤ 60) ∧
  ∀ (p : Addr) (ys : List V) H', H p = none → Same H H' → H' p = some (.lst ys) → DpAll K H' ys ((bs.mergeSort (PySem.W.dataLe false enc)).map enc) → Q (.ref p) H'
theorem each_vals {K : PySem.W.Frag} {H : Hp} {β : Type} {enc : β → PyData} : ∀ {xs : List V} {us : List Value} {bs : List β}, Vals xs us → DpAll K H xs (bs.map enc) → PySem.W.EachIs (fun u b => ∃ x, RelV x u ∧ Dp K H x (enc b)) us bs
  | _, _, [], r, d => by
    have d' : DpAll K H _ [] := d
    cases d'
    cases r
    exact .nil
  | _, _, b :: bs, r, d => by
    have d' : DpAll K H _ (enc b :: bs.map enc) := d
    cases d' with
    | cons d1 d2 =>
      cases r with
      | cons r1 r2 => exact .cons ⟨_, r1, d1⟩ (each_vals r2 d2)
theorem vals_each {K : PySem.W.Frag} {H : Hp} {β : Type} {enc : β → PyData} : ∀ {us : List Value} {bs : List β}, PySem.W.EachIs (fun u b => ∃ x, RelV x u ∧ Dp K H x (enc b)) us bs → ∃ xs, Vals xs us ∧ DpAll K H xs (bs.map enc)
  | _, _, .nil => ⟨[], .nil, .nil⟩
  | _, _, .cons ⟨x, r, d⟩ t => by
    obtain ⟨xs, h1, h2⟩ := vals_each t
    exact ⟨x :: xs, .cons r h1, .cons d h2⟩
theorem cr_sortD {β : Type} (enc : β → PyData) (hu : X.A.units + 65 < cLine) : CallR X (.builtin "sorted") (rSortD X.K enc) := by
  intro pins s σ H vs us Q I r h
  obtain ⟨a, xs, bs, rfl, hs, hd, hal, hk, hdep, q⟩ := h
  obtain ⟨its, rv, hl, hz⟩ := I.list hs
  rw [Vals.ref1 r]
  have hlen : its.length = bs.length := by rw [← rv.length, dpAll_len hd, List.length_map]
  have e := each_vals rv hd
  obtain ⟨as, ra⟩ := Dp.readsAll I _ _ _ hd rv
  refine PySem.W.sorted_data (enc := enc) (bs := bs) (vs := its) hl.isList e (PySem.W.readsAll_each enc ra) hal hk (by rw [← hlen, ← rv.length]; exact hz) (fun b hb => ?_) fun out ho eo => ?_
  · have := hdep b hb
    omega
  · obtain ⟨ys, h1, h2⟩ := vals_each eo
    obtain ⟨ep, he'⟩ := PyProof.Rows.sortedAll_at s.heap its (List.toArray out)
    have hn : H (s.heap.objs.size + 1) = none := I.hok.fresh (Nat.le_succ _)
    have hyl : ys.length ≤ sizeLine := by
      rw [h1.length, ho, ← hlen, ← rv.length]; exact hz
    refine ⟨.ref _, upd H (s.heap.objs.size + 1) (.lst ys), I.laid (t' := s.toks) (fun _ _ => PyProof.Rows.sortedAll_old) (Nat.le_succ _) ⟨hyl, out, ep, h1, he'⟩, rfl, q _ ys _ hn (same_upd hn) upd_same ?_⟩
    exact dpAll_mono (same_upd hn) _ _ h2

/-- max(xs), min(xs): xs a list of alike data -/
def rBestD (K : PySem.W.Frag) (best : PyData → List PyData → PyData) : List V → Hp → VK → Prop := fun vs H Q => ∃ (a : Addr) (xs : List V) (d : PyData) (ds : List PyData), vs = [V.ref a] ∧ SqL K H a xs ∧ DpAll K H xs (d :: ds) ∧
  PySem.W.AlikeAll (d :: ds) ∧ PyData.canLayAll0 (d :: ds) = true ∧ PyData.depthAll (d :: ds) ≤ 60 ∧
  ∀ (x : V), Dp K H x (best d ds) → Q x H
theorem best_end {pins : List (Addr × Obj)} {s : Shared} {σ : L2.St} {H : Hp} {Q : VK} (I : Inv X pins σ H s) {xs : List V} {its : List Value} {as : List Addr} {ds : List PyData} (rv : Vals xs its) (hd : DpAll X.K H xs ds) (ra : ReadsAll s.heap its ds as) (hc : PyData.canLayAll0 ds = true) {i : Nat} {v : Value} {h' : Heap} {tk : Nat} {bs : List Addr} {e : PyData} (hi : its.toArray[i]? = some v)
    (hr : Reads h' v e bs) (he : e.canLay0 = true) (hk : ∀ b o, s.heap.get? b = some o → h'.get? b = some o) (q : ∀ x, Dp X.K H x e → Q x H) : EP X pins σ Q v { heap := h', gens := s.gens, drawn := s.drawn, toks := tk, os := s.os } := by
  have hi' : its[i]? = some v := by simpa using hi
  have hlt : i < its.length := by
    rcases Nat.lt_or_ge i its.length with h | h
    · exact h
    · rw [List.getElem?_eq_none h] at hi'; cases hi'
  obtain ⟨x, hx⟩ : ∃ x, xs[i]? = some x := ⟨xs[i]'(by rw [rv.length]; exact hlt), List.getElem?_eq_getElem _⟩
  obtain ⟨u, hu, ru⟩ := rv.get hx
  have euv : u = v := Option.some.inj (hu.symm.trans hi')
  subst euv
  obtain ⟨d, hdi, hdx⟩ := dpAll_get hd hx
  obtain ⟨as', rx⟩ := Dp.reads I d x u hdx ru
  have rx' : Reads h' u d as' := PyProof.Rows.Reads.keeps hk rx
  have hcd : d.canLay0 = true := by
    have : ∀ (ds : List PyData) (i : Nat), PyData.canLayAll0 ds = true → ds[i]? = some d → d.canLay0 = true := by
      intro ds
      induction ds with
      | nil => intro i _ h; simp at h
      | cons a r ih =>
        intro i h1 h2
        rw [PyData.canLayAll0, Bool.and_eq_true] at h1
        cases i with
        | zero => simp at h2; rw [← h2]; exact h1.1
        | succ i => exact ih i h1.2 (by simpa using h2)
    exact this ds i hc hdi
  have e1 := SeqAt.readOf_eq hcd rx'
  have e2 := SeqAt.readOf_eq he hr
  have ed : d = e := e1.symm.trans e2
  subst ed
  exact ⟨x, H, I.kept hk, ru, q x hdx⟩
theorem canLay_fold (f : PyData → PyData → Bool) : ∀ (ds : List PyData) (d : PyData), PyData.canLayAll0 (d :: ds) = true → (ds.foldl (fun a y => if f a y then y else a) d).canLay0 = true
  | [], d, h => by
    rw [PyData.canLayAll0, Bool.and_eq_true] at h
    exact h.1
  | e :: ds, d, h => by
    rw [PyData.canLayAll0, PyData.canLayAll0, Bool.and_eq_true, Bool.and_eq_true] at h
    rw [List.foldl_cons]
    refine canLay_fold f ds _ ?_
    rw [PyData.canLayAll0, Bool.and_eq_true]
    refine ⟨?_, h.2.2⟩
    split
    · exact h.2.1
    · exact h.1
theorem cr_maxD (hc : X.calm = true) (hu : X.A.units + 65 < cLine) : CallR X (.builtin "max") (rBestD X.K PySem.W.maxD) := by
  intro pins s σ H vs us Q I r h
  obtain ⟨a, xs, d, ds, rfl, hs, hd, hal, hl0, hdep, q⟩ := h
  obtain ⟨its, rv, hl, hz⟩ := I.list hs
  rw [Vals.ref1 r]
  obtain ⟨as, ra⟩ := Dp.readsAll I _ _ _ hd rv
  exact PySem.W.max_list_data (I.ok.hd hc) hl.isList (by simpa using ra) hal (by omega) fun i v h' tk bs hi hr hk => best_end I rv hd ra hl0 hi hr (canLay_fold _ ds d hl0) hk q
theorem cr_minD (hc : X.calm = true) (hu : X.A.units + 65 < cLine) : CallR X (.builtin "min") (rBestD X.K PySem.W.minD) := by
  intro pins s σ H vs us Q I r h
  obtain ⟨a, xs, d, ds, rfl, hs, hd, hal, hl0, hdep, q⟩ := h
  obtain ⟨its, rv, hl, hz⟩ := I.list hs
  rw [Vals.ref1 r]
  obtain ⟨as, ra⟩ := Dp.readsAll I _ _ _ hd rv
  exact PySem.W.min_list_data (I.ok.hd hc) hl.isList (by simpa using ra) hal (by omega) fun i v h' tk bs hi hr hk => best_end I rv hd ra hl0 hi hr (canLay_fold (fun a y => PySem.W.dataLt y a) ds d hl0) hk q
end
end DP
/-! set(xs) of a list of whole numbers, sorted then. -/
namespace DP
open PySem PySem.Spec PyProof.Rows L2
/-- a fresh set -/
abbrev newSet (w : World) : Obj := { cls := .type "set", dict := none, data := .set #[] 0 (.fresh 0 0 (!w.params.followText "set-order")) }
theorem set_of_ints {P : Program} {w : World} {A : Around} {E : Value → Shared → Prop} {s : Shared} {l : Addr} {items : Array Value} (ns : List Int) {Q : Value → Shared → Prop} (hh : A.handled = none) (hl : s.heap.IsList l items) (hit : IntsAre items.toList ns) (hb : ns.length + 1 < scanBound)
    (h : ∀ (h' : Heap) (tk c : Nat), SetR w h' s.heap.objs.size (fun j => decide (j ∈ ns)) c → c ≤ ns.length → (∀ b o, s.heap.get? b = some o → h'.get? b = some o) → Q (.ref s.heap.objs.size) { s with heap := h', toks := tk }) :
    wpAny (model P w) A (call (.type "set") [.ref l]) Q E s := by
  have hisz : items.size = ns.length := (Array.length_toList (xs := items)).symm.trans (IntsAre.length hit)
  have C := F.called_set
  obtain ⟨c, tl, hmro⟩ := C.mro
  have hmade := C.made; have hsub := C.sub
  refine wpAny_call (codeAny_of_tree ?_)
  show wpAny _ _ (callAny (.type "set") _) _ _ _
  refine wpAny_pure ⟨Code.quiet_builtin _ (by decide +kernel), codeAny_builtin F.entry_type_call ?_⟩
  rw [Around.under_plain (weight_type_call_type "set" [.ref l] []) rfl]
  have h1 := C.notType; have h2 := C.canCreate
  have hct := F.typeCall_set_1 (.ref l)
  repeat (any_goals (first | assumption | wp_step))
  refine codeAny_mono (code_set_led1 (.ref l) (E := E) (Q₁ := fun obj s₁ => obj = .ref s.heap.objs.size ∧ s₁ = { s with heap := s.heap.push (newSet w) }) ⟨rfl, rfl⟩) fun r s₁ hr => ?_
  cases r with
  | error e => exact hr
  | ok fl =>
  cases fl with
  | ret obj =>
    obtain ⟨rfl, rfl⟩ := hr
    have hS : (s.heap.push (newSet w)).get? s.heap.objs.size = some (newSet w) := Heap.get?_push_size _ rfl
    have hT : Shared.TypeIs { s with heap := s.heap.push (newSet w) } (.ref s.heap.objs.size) "set" := ⟨_, hS, rfl⟩
    have hli := C.init.lookup; have hbi := C.init.bind (.ref s.heap.objs.size)
    repeat (any_goals (first | assumption | wp_step))
    refine codeAny_mono (codeAny_call_builtin (R := wants (fun r s₂ => r = .none ∧ ∃ h' tk c, s₂ = { s with heap := h', toks := tk } ∧ SetR w h' s.heap.objs.size (fun j => decide (j ∈ ns)) c ∧ c ≤ ns.length ∧ ∀ b o, s.heap.get? b = some o → h'.get? b = some o) E) C.init.plain F.entry_set_init (check_set_init_1 hT ?_)) fun r₂ s₂ hr₂ => ?_
    · obtain ⟨⟨ocls, odict, odata, oslots⟩, hol, hcl, nl, hdl⟩ := hl
      simp only at hcl hdl
      subst hcl hdl
      have hol' : (s.heap.push (newSet w)).get? l = some { cls := .type "list", dict := odict, data := .seq items nl, slots := oslots } := Heap.get?_push_of_some _ hol
      have hsls := F.sub_list_set; have hslf := F.sub_list_frozenset
      have hne : (Value.type "list" == Value.type "dict") = false := by decide
      have hl1 : (s.heap.push (newSet w)).IsList l items := ⟨_, hol', rfl, nl, rfl⟩
      unfold Builtin.«set.__init__» noKeywords Builtin.Frozenset.updateFrom
      generalize hPI : pyIter = PI
      wp_walk
      subst hPI
      refine wpAny_pyIter_list hl1 (wpAny_bind (wpAny_runValue ?_))
      have hlS : l < s.heap.objs.size := Heap.lt_size hol
      have hh3 : A.in1.in1.in1.handled = none := by simp [hh]
      have hz : (s.heap.push (newSet w)).objs.size = s.heap.objs.size + 1 := Heap.size_push ..
      have hneI : l ≠ (s.heap.push (newSet w)).objs.size := by rw [hz]; exact Nat.ne_of_lt (Nat.lt_succ_of_lt hlS)
      have hSf : s.heap.objs.size ∉ [(s.heap.push (newSet w)).objs.size, l] := by
        rw [hz]; simp only [List.mem_cons, List.not_mem_nil, or_false, not_or]; exact ⟨Nat.ne_of_lt (Nat.lt_succ_self _), Nat.ne_of_gt hlS⟩
      have hval : ∀ (i : Nat) (v : Value), items[i]? = some v → ∃ k t, ns[i]? = some k ∧ v = .int k t := fun i v hv => by
        have hi : i < ns.length := hisz ▸ (Array.getElem?_eq_some_iff.mp hv).1
        obtain ⟨t, e⟩ := PyProof.Rows.IntsAre.int_at hit i v (by rw [Array.getElem?_toList]; exact hv)
        exact ⟨ns[i], t, List.getElem?_eq_getElem hi, by rw [e, List.getD_eq_getElem?_getD, List.getElem?_eq_getElem hi]; rfl⟩
      refine set_update_ints ((Walks.list hh3 _ l hneI items).toS) s.heap.objs.size hSf ns hisz hb hval (items.size - 0) 0 _ (by omega) (Nat.zero_le _) ⟨⟨_, Heap.get?_push_size _ rfl, rfl, rfl⟩, (hl1.push _)⟩ ?z0 ?zR
      case z0 => exact ⟨0, Nat.le_refl 0, setR_new_at (Heap.get?_push_of_some _ hS)⟩
      case zR =>
        intro s' c' hm hc' hS'
        obtain ⟨h', g2, d', tk', os'⟩ := s'
        have eg : g2 = s.gens := hm.gens
        have ed : d' = s.drawn := hm.drawn
        have eo : os' = s.os := hm.os
        subst eg ed eo
        rw [hisz] at hc'
        refine wpAny_pure (?_ : wpAny _ _ (ret Value.none) _ _ _)
        refine wpAny_pure ⟨rfl, h', tk', c', rfl, hS', hc', fun b o e => ?_⟩
        have hb0 : b < s.heap.objs.size := Heap.lt_size e
        refine hm.heap b o ?_ (Heap.get?_push_of_some _ (Heap.get?_push_of_some _ e))
        simp only [List.mem_cons, List.not_mem_nil, or_false, not_or]
        exact ⟨Nat.ne_of_lt hb0, by rw [hz]; exact Nat.ne_of_lt (Nat.lt_succ_of_lt hb0)⟩
    · cases r₂ with
      | error e => exact hr₂
      | ok fl₂ =>
      cases fl₂ with
      | ret r =>
        obtain ⟨rfl, h', tk, c', rfl, hS', hc', hk'⟩ := hr₂
        repeat (any_goals (first | assumption | wp_step))
        exact h _ _ _ hS' hc' hk'
      | _ => exact hr₂.elim
  | _ => exact hr.elim
section
variable {X : Cx}
/-- set(xs), xs a list of whole numbers -/
def rSetI (K : PySem.W.Frag) (w : World) : List V → Hp → VK → Prop := fun vs H Q => ∃ (l : Addr) (ns : List Int), vs = [V.ref l] ∧ SqL K H l (ns.map V.int) ∧ ns.length ≤ 60 ∧
  ∀ (a : Addr) (c : Nat), c ≤ ns.length → H a = none → Q (.ref a) (upd H a (SetO w a (fun j => decide (j ∈ ns)) c))
theorem cr_setI (hc : X.calm = true) : CallR X (.type "set") (rSetI X.K X.w) := by
  intro pins s σ H vs us Q I r h
  obtain ⟨l, ns, rfl, hs, hlen, q⟩ := h
  obtain ⟨its, rv, pl, hz⟩ := I.list hs
  rw [Vals.ref1 r]
  have hi : IntsAre its.toArray.toList ns := by simpa using rv.ints
  refine set_of_ints ns (I.ok.hd hc) pl.isList hi (by unfold scanBound; omega) fun h' tk c R hcl hk => ?_
  exact ⟨.ref _, upd H s.heap.objs.size (SetO X.w s.heap.objs.size (fun j => decide (j ∈ ns)) c), I.laid (t' := tk) hk (Nat.le_refl _) (setO_new R), rfl, q _ c hcl (I.hok.fresh (Nat.le_refl _))⟩
/-- d[k], d a written dict -/
theorem ix_kd {d : Addr} {es : Array DictEntry} {n : Nat} (D : KDict X.K X.w d es n) : IxR X (fun x y H Q => ∃ (z : Str) (u0 : Value) (v0 : V), x = .ref d ∧ y = .str z ∧ PySem.W.nsIn X.K d z = some (some u0) ∧ RelV v0 u0 ∧ Q v0 H) := by
  intro value slice pins s σ H x y v u Q I rx ry h hs
  obtain ⟨z, u0, v0, ex, ey, e, r, q⟩ := h
  subst ex ey
  cases rx
  obtain ⟨t, rfl⟩ := ry
  have fin : EP X pins σ Q u0 s := ⟨v0, H, I, r, q⟩
  exact subscriptTail_builtinR (x := u0) (kd_type D I) PySem.F.slot_dict_getitem.lookup
    (wpAny_getItem_of (PySem.strKind_is X.prog X.w z t) (PySem.W.mapOf_K (prog := X.prog) I.kIn D.at_ D.lit) (PySem.W.find_K D.at_ e) ⟨rfl, ⟨v0, H, I.tok _, r, q⟩⟩) hs
end
end DP
/-! The rules with the written part named, for comprehensions; a method called with keywords. -/
namespace DP
open PySem PySem.Spec PyProof.Rows L2
section
variable {X : Cx} {K : PySem.W.Frag}
theorem ixT (h : X.K = K := by rfl) : IxR X (rIxT K) := by subst h; exact ix_tup
theorem ixL (h : X.K = K := by rfl) : IxR X (rIxL K) := by subst h; exact ix_list
theorem inS (h : X.K = K := by rfl) : OpR X (compareOp .In) (rIn K false) := by subst h; exact op_in_seq
theorem notInS (h : X.K = K := by rfl) : OpR X (compareOp .NotIn) (rIn K true) := by subst h; exact op_notIn_seq
theorem eqDK (hu : X.A.units + 64 < cLine) (h : X.K = K := by rfl) : OpR X (compareOp .Eq) (rEqD K) := by subst h; exact op_eqD hu
theorem neDK (hu : X.A.units + 64 < cLine) (h : X.K = K := by rfl) : OpR X (compareOp .NotEq) (rNeD K) := by subst h; exact op_neD hu
theorem inDK (hu : X.A.units + 65 < cLine) (h : X.K = K := by rfl) : OpR X (compareOp .In) (rInD K) := by subst h; exact op_inD hu
theorem notInDK (hu : X.A.units + 65 < cLine) (h : X.K = K := by rfl) : OpR X (compareOp .NotIn) (rNotInD K) := by subst h; exact op_notInD hu
def rLenK (K : PySem.W.Frag) : List V → Hp → VK → Prop := fun xs H Q => ∃ p ys, xs = [V.ref p] ∧ (SqL K H p ys ∨ SqT K H p ys) ∧ Q (.int ys.length) H
theorem lenK (h : X.K = K := by rfl) : CallR X (.builtin "len") (rLenK K) := by subst h; exact call_len_seq
def rListK (K : PySem.W.Frag) : List V → Hp → VK → Prop := fun xs H Q => ∃ p ys, xs = [V.ref p] ∧ (SqL K H p ys ∨ SqT K H p ys) ∧ ∀ l, H l = none → Q (.ref l) (upd H l (.lst ys))
theorem listK (h : X.K = K := by rfl) : CallR X (.type "list") (rListK K) := by subst h; exact call_list_of
theorem maxK (hc : X.calm = true) (h : X.K = K := by rfl) : CallR X (.builtin "max") (rMax K) := by subst h; exact cr_max hc
theorem minK (hc : X.calm = true) (h : X.K = K := by rfl) : CallR X (.builtin "min") (rMin K) := by subst h; exact cr_min hc
theorem maxDK (hc : X.calm = true) (hu : X.A.units + 65 < cLine) (h : X.K = K := by rfl) : CallR X (.builtin "max") (rBestD K PySem.W.maxD) := by subst h; exact cr_maxD hc hu
theorem minDK (hc : X.calm = true) (hu : X.A.units + 65 < cLine) (h : X.K = K := by rfl) : CallR X (.builtin "min") (rBestD K PySem.W.minD) := by subst h; exact cr_minD hc hu
theorem sortK (h : X.K = K := by rfl) : CallR X (.builtin "sorted") (rSorted K) := by subst h; exact cr_sorted
theorem sortDK {β : Type} (enc : β → PyData) (hu : X.A.units + 65 < cLine) (h : X.K = K := by rfl) : CallR X (.builtin "sorted") (rSortD K enc) := by subst h; exact cr_sortD enc hu
theorem setIK {w : World} (hc : X.calm = true) (h : X.K = K := by rfl) (hw : X.w = w := by rfl) : CallR X (.type "set") (rSetI K w) := by subst h hw; exact cr_setI hc
theorem sortedSetK {w : World} (hc : X.calm = true) (hw : X.w = w := by rfl) : CallR X (.builtin "sorted") (rSortedSet w) := by subst hw; exact cr_sortedSet hc
theorem slL (h : X.K = K := by rfl) : SlR X (rSlL K) := by subst h; exact sl_list
theorem isiK (h : X.K = K := by rfl) : CallR X (.builtin "isinstance") (rIsi K) := by subst h; exact call_isi
theorem fldK {o : Expr} {ta : TE} {f : Str} {pos : Pos} (he : PE X o ta) (hb : attributeBase o f X.env (eval o X.env) = eval o X.env := by rfl) (h : X.K = K := by rfl) : PE X (.Attribute o f pos) (tFld K ta f) := by subst h; exact pe_fld he hb
theorem tupK {es : List Expr} {k : Nat} {t : TGs} {n : Nat} {pos : Pos} (hc : X.calm = true) (h1 : PGs X es t) (hn : (assignEach es X.env).length = n := by rfl) (hst : (assignEach es X.env).findIdx? (·.1) = none := by rfl) (h : X.K = K := by rfl) :
    PG X (.Tuple es k pos) (gTup K n t) := by subst h; exact pg_tup hc h1 hn hst
end
section
variable {X : Cx} {CX : CXT} {k : Nat} {f C : Addr} {fd : FuncData} {ps ks : List Str} {sp : Sp} {E : XK} {m : Str} {pos apos : Pos} {o : Expr} {kws : List Keyword} {ta : TE} {tk : TA} {g : List Value → List Value → List Value} {gV : List V → List V → List V}
/-- o.m(k = v, ..) -/
def tMethK (C : Addr) (m : Str) (sp : Sp) (gV : List V → List V → List V) (E : XK) (ta : TE) (tk : TA) : TE := fun σ H Q => ta σ H fun x H1 => ∃ a dx fs, x = .ref a ∧ H1 a = some (.ins C dx fs) ∧ fs.lookup m = none ∧ tk σ H1 fun zs H2 => sp (gV [.ref a] zs) H2 Q E
theorem pe_methK0 {pl : Sem Bool} (he : PE X o ta) (c : Cls X.K C) (hm : Meth X.K C m f) (F : FnOk X.prog X.w X.K X.mg X.base CX k f fd ps sp) (hr : Room k X.A) (hb : KBinds X.K fd ps ks g gV) (hx : Passes CX X E) (hkw : PK X kws tk)
    (hall : (backToKw pos (keywordEach kws X.env)).all (·.1.isSome) = true := by rfl) (hks : (backToKw pos (keywordEach kws X.env)).filterMap (·.1) = ks := by rfl)
    (hpl : ((backTo pos (starEach [] X.env)).any (·.1) || (backToKw pos (keywordEach kws X.env)).any (·.1.isNone)) = false := by rfl)
    (ht : eval (.Call (.Attribute o m apos) [] kws pos) X.env = (do
      let ov ← eval o X.env
      standAt apos.atName
      let (f, first) ← holding [ov] (getMethod ov m pl)
      callWith pos f first (backTo pos (starEach [] X.env)) (backToKw pos (keywordEach kws X.env))) := by rfl) :
    PE X (.Call (.Attribute o m apos) [] kws pos) (tMethK C m sp gV E ta tk) := by
  refine ⟨fun pins s σ H Q I h => ?_⟩
  refine PySem.W.methodCall_KW (pl := pl) (thn (he.run pins s σ H _ I h) fun u s1 ⟨x, H1, I1, rx, a, dx, fs, ex, ea, l, q⟩ => ?_) ht
  subst ex
  obtain rfl : u = Value.ref a := rx
  refine getmeth_ok I1 ea c hm l ?_
  refine PySem.W.callWith_KW0 (first := [.ref a]) (h₀ := X.base) I.ok.mod.kin hm.kp hall ?_ hpl
  refine thn (hkw.run pos pins s1 σ H1 _ I1 q) fun ws s2 ⟨zs, H2, I2, rz, q2⟩ => ⟨I2.kIn, ?_⟩
  rw [hks]
  exact run_fnk (us := [.ref a]) (vs := [.ref a]) F hr hb hx I2 (.cons rfl .nil) rz q2
end
/-- one positional value, one keyword -/
def g11 {α : Type} : List α → List α → List α
  | [a], [b] => [a, b]
  | _, _ => []
theorem g11_rel {vs : List V} {us : List Value} {zs : List V} {ws : List Value} (r : Vals vs us) (q : Vals zs ws) : Vals (g11 vs zs) (g11 us ws) := by
  cases r with
  | nil => exact .nil
  | cons a t =>
    cases t with
    | cons _ _ => exact .nil
    | nil =>
      cases q with
      | nil => exact .nil
      | cons b t =>
        cases t with
        | cons _ _ => exact .nil
        | nil => exact .cons a (.cons b .nil)
end DP
/-! Calls by keywords, in any order, with defaults: functions, methods, classes. -/
namespace KW
open PySem PySem.Spec PyProof.Rows L2 DP
/-- those of a list that stand at these places -/
def pick {α : Type} (is : List Nat) (l : List α) : List α := is.filterMap fun i => l[i]?
theorem vals_at : ∀ {vs : List V} {us : List Value} (r : Vals vs us) (i : Nat), (vs[i]? = none ∧ us[i]? = none) ∨ ∃ v u, vs[i]? = some v ∧ us[i]? = some u ∧ RelV v u
  | _, _, .nil, i => .inl ⟨by simp, by simp⟩
  | _, _, .cons h t, 0 => .inr ⟨_, _, rfl, rfl, h⟩
  | _, _, .cons h t, i + 1 => by simpa using vals_at t i
theorem pick_rel {vs : List V} {us : List Value} (r : Vals vs us) : ∀ is : List Nat, Vals (pick is vs) (pick is us)
  | [] => .nil
  | i :: is => by
    unfold pick
    rw [List.filterMap_cons, List.filterMap_cons]
    rcases vals_at r i with ⟨e1, e2⟩ | ⟨v, u, e1, e2, h⟩
    · rw [e1, e2]; exact pick_rel r is
    · rw [e1, e2]; exact .cons h (pick_rel r is)
/-- positional values, then the rest out of the keywords' values and the defaults -/
def gk {α : Type} (is : List Nat) (ds us ws : List α) : List α := us ++ pick is (ws ++ ds)
theorem gk_rel {is : List Nat} {dv vs zs : List V} {ds us ws : List Value} (rd : Vals dv ds) (r : Vals vs us) (rz : Vals zs ws) : Vals (gk is dv vs zs) (gk is ds us ws) := r.append (pick_rel (rz.append rd) is)
/-- all parameters are given -/
theorem kbn0 {K : PySem.W.Frag} {fd : FuncData} {ps ks : List Str} {n : Nat} (is : List Nat) (h : ∀ us ws : List Value, us.length = n → ws.length = ks.length → bindArgs fd ⟨us, ks.zip ws⟩ = pure (ps.zip (gk is [] us ws))) : KBn K fd ps n ks (gk is []) (gk is []) :=
  ⟨fun s us ws _ h1 h2 => .of_eq (h us ws h1 h2), fun r rz => gk_rel .nil r rz⟩
section
variable {K : PySem.W.Frag} {x qual : Str} {params : Arguments} {body : List Stmt} {scope : Scope} {dvs : List V} {f : Addr} {fd : FuncData} {ps : List Str}
/-- the lacking ones stand among the defaults -/
theorem kbnD (F : FunD K x qual params body scope dvs [] f fd) (n : Nat) (ks : List Str) (is : List Nat) (hd : dvs ≠ [])
    (h : ∀ (T : Addr) (kV doc pm : Value) (an : Option Addr) (cdv ct : Value) (us its ws : List Value), us.length = n → its.length = dvs.length → ws.length = ks.length →
      ∃ k, bindArgs (PySem.W.fnOf x qual params body scope (.ref T) kV doc pm an cdv ct) ⟨us, ks.zip ws⟩ = seqItems? (.ref T) >>= k ∧ k (some its.toArray) = pure (ps.zip (gk is its us ws))) : ∃ its : List Value, KBn K fd ps n ks (gk is its) (gk is dvs) := by
  obtain ⟨oc, od, dV, kV, doc, pm, an, cdv, ct, osl, rfl, lk, hcd, hD, hK⟩ := F.ex
  rcases hD with ⟨e, _⟩ | ⟨_, T, o, its, m, rfl, lT, oT, rT⟩
  · exact absurd e hd
  · refine ⟨its, fun s us ws X l1 l2 => ?_, fun r rz => gk_rel rT r rz⟩
    obtain ⟨k, e1, e2⟩ := h T kV doc pm an cdv ct us its ws l1 rT.length.symm l2
    refine BindsTo.of_looks fun M => ?_
    rw [e1]
    exact looks_items X lT oT (.of_pure e2)
end
section
variable {X : Cx} {CX : CXT} {k : Nat} {f C : Addr} {fd : FuncData} {ps ks : List Str} {sp : Sp} {E : XK} {x m : Str} {p pos apos : Pos} {o : Expr} {kws : List Keyword} {ta : TE} {tk : TA} {g : List Value → List Value → List Value} {gV : List V → List V → List V}
def tCallN0 (c : Nat) (sp : Sp) (gV : List V → List V → List V) (E : XK) (tk : TA) : TE := fun σ H Q => tk σ H fun zs H2 => zs.length = c ∧ sp (gV [] zs) H2 Q E
/-- f(k = v, ..) -/
theorem pe_callN0 (F : FnOk X.prog X.w X.K X.mg X.base CX k f fd ps sp) (hr : Room k X.A) (hg : Gl X x) (hm : X.mg x = some (.ref f)) (hk : PySem.W.keepIn X.K (.ref f) = true) (hb : KBn X.K fd ps 0 ks g gV) (hx : Passes CX X E) (hkw : PK X kws tk)
    (hall : (backToKw pos (keywordEach kws X.env)).all (·.1.isSome) = true := by rfl) (hks : (backToKw pos (keywordEach kws X.env)).filterMap (·.1) = ks := by rfl) (hdb : (x == ("__debug__" : Str)) = false := by decide)
    (hpl : ((backTo pos (starEach [] X.env)).any (·.1) || (backToKw pos (keywordEach kws X.env)).any (·.1.isNone)) = false := by rfl) :
    PE X (.Call (.Name x p) [] kws pos) (tCallN0 ks.length sp gV E tk) := by
  refine ⟨fun pins s σ H Q I h => ?_⟩
  refine wpAny_Call_Name_kw (ld_glob I hg hm ?_ hdb)
  refine PySem.W.callWith_KW0 (h₀ := X.base) I.ok.mod.kin hk hall ?_ hpl
  refine thn (hkw.run pos pins s σ H _ I h) fun ws s2 ⟨zs, H2, I2, rz, l2, q2⟩ => ⟨I2.kIn, ?_⟩
  rw [hks]
  exact run_fnN (us := []) (vs := []) F hr hb hx I2 .nil rz rfl l2 q2
def tMethN (C : Addr) (m : Str) (c : Nat) (sp : Sp) (gV : List V → List V → List V) (E : XK) (ta : TE) (tk : TA) : TE := fun σ H Q => ta σ H fun x H1 => ∃ a dx fs, x = .ref a ∧ H1 a = some (.ins C dx fs) ∧ fs.lookup m = none ∧ tk σ H1 fun zs H2 => zs.length = c ∧ sp (gV [.ref a] zs) H2 Q E
/-- o.m(k = v, ..) -/
theorem pe_methN {pl : Sem Bool} (he : PE X o ta) (c : Cls X.K C) (hm : Meth X.K C m f) (F : FnOk X.prog X.w X.K X.mg X.base CX k f fd ps sp) (hr : Room k X.A) (hb : KBn X.K fd ps 1 ks g gV) (hx : Passes CX X E) (hkw : PK X kws tk)
    (hall : (backToKw pos (keywordEach kws X.env)).all (·.1.isSome) = true := by rfl) (hks : (backToKw pos (keywordEach kws X.env)).filterMap (·.1) = ks := by rfl)
    (hpl : ((backTo pos (starEach [] X.env)).any (·.1) || (backToKw pos (keywordEach kws X.env)).any (·.1.isNone)) = false := by rfl)
    (ht : eval (.Call (.Attribute o m apos) [] kws pos) X.env = (do
      let ov ← eval o X.env
      standAt apos.atName
      let (f, first) ← holding [ov] (getMethod ov m pl)
      callWith pos f first (backTo pos (starEach [] X.env)) (backToKw pos (keywordEach kws X.env))) := by rfl) :
    PE X (.Call (.Attribute o m apos) [] kws pos) (tMethN C m ks.length sp gV E ta tk) := by
  refine ⟨fun pins s σ H Q I h => ?_⟩
  refine PySem.W.methodCall_KW (pl := pl) (thn (he.run pins s σ H _ I h) fun u s1 ⟨x, H1, I1, rx, a, dx, fs, ex, ea, l, q⟩ => ?_) ht
  subst ex
  obtain rfl : u = Value.ref a := rx
  refine getmeth_ok I1 ea c hm l ?_
  refine PySem.W.callWith_KW0 (first := [.ref a]) (h₀ := X.base) I.ok.mod.kin hm.kp hall ?_ hpl
  refine thn (hkw.run pos pins s1 σ H1 _ I1 q) fun ws s2 ⟨zs, H2, I2, rz, l2, q2⟩ => ⟨I2.kIn, ?_⟩
  rw [hks]
  exact run_fnN (us := [.ref a]) (vs := [.ref a]) F hr hb hx I2 (.cons rfl .nil) rz rfl l2 q2
end
section
variable {P : Program} {w : World} {K : PySem.W.Frag} {mg : Str → Option Value} {base : Heap} {x qual : Str} {st : Stmt} {dvs : List V} {f : Addr} {fd : FuncData}
/-- a def with defaults, by its body -/
theorem FunD.okN {N ps : List Str} {k : Nat} {sp : Sp} (F : FunD K x qual (defArgs st) (defBody st) (defScope st) dvs [] f fd) (S : FnScope N ps (defScope st)) (len : ∀ vs H Q E, sp vs H Q E → vs.length = ps.length)
    (hbody : ∀ (cdv : Value) (A : Around) (outer : List Env) (s : Shared) (H : Hp) (vs : List V) (Q : VK) (E : XK), Room k (A.deeper (envOfC qual (defScope st) s.heap.objs.size f cdv)) → sp vs H Q E →
      ∃ t, PSs (cxOf CX0 P w K mg base N qual (defScope st) f cdv A outer s H E).nox (defBody st) t ∧ t { nx := fun _ H' => Q .non H', rt := Q } (start N vs) H) : FnOk P w K mg base CX0 (k + 1) f fd ps sp :=
  F.ok S len fun cdv A outer s H vs Q E hr hsp => by
    obtain ⟨t, h, q⟩ := hbody cdv A outer s H vs Q E hr hsp
    exact ⟨t, h.nox, q⟩
end
end KW
namespace KA
open PySem PySem.Spec PyProof.Rows L2 DP
def top (i : Nat) : Stmt := PySem.Challenge.pw_darkpace_k40_neighbours_told.main.body.getD i (.Pass ⟨0, 0, 0, 0⟩)
abbrev slaw_bag : Stmt := top 8
abbrev N_law_bag : List Str := ["script", "fold", "great", "cell"]
abbrev P_law_bag : List Str := ["script"]
theorem sclaw_bag : FnScope N_law_bag P_law_bag (defScope slaw_bag) := ⟨rfl, rfl, rfl, by decide +kernel, rfl, by decide +kernel, by decide +kernel⟩
abbrev slaw_draw : Stmt := top 9
abbrev N_law_draw : List Str := ["bag", "many", "drawn", "turn", "mixed"]
abbrev P_law_draw : List Str := ["bag", "many"]
theorem sclaw_draw : FnScope N_law_draw P_law_draw (defScope slaw_draw) := ⟨rfl, rfl, rfl, by decide +kernel, rfl, by decide +kernel, by decide +kernel⟩
abbrev slaw_divisor : Stmt := top 10
abbrev N_law_divisor : List Str := ["one", "other"]
abbrev P_law_divisor : List Str := ["one", "other"]
theorem sclaw_divisor : FnScope N_law_divisor P_law_divisor (defScope slaw_divisor) := ⟨rfl, rfl, rfl, by decide +kernel, rfl, by decide +kernel, by decide +kernel⟩
abbrev slaw_lowest : Stmt := top 11
abbrev N_law_lowest : List Str := ["top", "under", "divisor"]
abbrev P_law_lowest : List Str := ["top", "under"]
theorem sclaw_lowest : FnScope N_law_lowest P_law_lowest (defScope slaw_lowest) := ⟨rfl, rfl, rfl, by decide +kernel, rfl, by decide +kernel, by decide +kernel⟩
abbrev slaw_below : Stmt := top 12
abbrev N_law_below : List Str := ["one", "other"]
abbrev P_law_below : List Str := ["one", "other"]
theorem sclaw_below : FnScope N_law_below P_law_below (defScope slaw_below) := ⟨rfl, rfl, rfl, by decide +kernel, rfl, by decide +kernel, by decide +kernel⟩
abbrev slaw_sides : Stmt := top 13
abbrev N_law_sides : List Str := ["pace", "most", "lower", "upper", "under", "down", "top", "one"]
abbrev P_law_sides : List Str := ["pace", "most"]
theorem sclaw_sides : FnScope N_law_sides P_law_sides (defScope slaw_sides) := ⟨rfl, rfl, rfl, by decide +kernel, rfl, by decide +kernel, by decide +kernel⟩
abbrev sdistance : Stmt := top 6
abbrev N_distance : List Str := ["one", "fraction"]
abbrev P_distance : List Str := ["one", "fraction"]
theorem scdistance : FnScope N_distance P_distance (defScope sdistance) := ⟨rfl, rfl, rfl, by decide +kernel, rfl, by decide +kernel, by decide +kernel⟩
abbrev snearer : Stmt := top 5
abbrev N_nearer : List Str := ["mover", "other", "fraction", "bottom", "often"]
abbrev P_nearer : List Str := ["mover", "other", "fraction", "bottom"]
theorem scnearer : FnScope N_nearer P_nearer (defScope snearer) := ⟨rfl, rfl, rfl, by decide +kernel, rfl, by decide +kernel, by decide +kernel⟩
abbrev sneighbours : Stmt := top 4
abbrev N_neighbours : List Str := ["fraction", "bottom", "top", "own_bottom", "lower", "upper"]
abbrev P_neighbours : List Str := ["fraction", "bottom"]
theorem scneighbours : FnScope N_neighbours P_neighbours (defScope sneighbours) := ⟨rfl, rfl, rfl, by decide +kernel, rfl, by decide +kernel, by decide +kernel⟩
abbrev slaw : Stmt := top 14
abbrev N_law : List Str := ["script", "bag", "turn", "top", "under", "pace", "most", "due"]
abbrev P_law : List Str := ["script"]
theorem sclaw : FnScope N_law P_law (defScope slaw) := ⟨rfl, rfl, rfl, by decide +kernel, rfl, by decide +kernel, by decide +kernel⟩
structure Ad where
  a_law_bag : Addr
  d_law_bag : FuncData
  a_law_draw : Addr
  d_law_draw : FuncData
  a_law_divisor : Addr
  d_law_divisor : FuncData
  a_law_lowest : Addr
  d_law_lowest : FuncData
  a_law_below : Addr
  d_law_below : FuncData
  a_law_sides : Addr
  d_law_sides : FuncData
  a_distance : Addr
  d_distance : FuncData
  a_nearer : Addr
  d_nearer : FuncData
  a_neighbours : Addr
  d_neighbours : FuncData
  a_law : Addr
  d_law : FuncData
structure Tx (K : PySem.W.Frag) (w : World) (mg : Str → Option Value) (Z : Ad) : Prop where
  F_law_bag : Fun K "_law_bag" "_law_bag" slaw_bag Z.a_law_bag Z.d_law_bag
  bb_law_bag : Binds K Z.d_law_bag P_law_bag []
  g_law_bag : mg "_law_bag" = some (.ref Z.a_law_bag)
  F_law_draw : Fun K "_law_draw" "_law_draw" slaw_draw Z.a_law_draw Z.d_law_draw
  bb_law_draw : Binds K Z.d_law_draw P_law_draw []
  g_law_draw : mg "_law_draw" = some (.ref Z.a_law_draw)
  F_law_divisor : Fun K "_law_divisor" "_law_divisor" slaw_divisor Z.a_law_divisor Z.d_law_divisor
  bb_law_divisor : Binds K Z.d_law_divisor P_law_divisor []
  g_law_divisor : mg "_law_divisor" = some (.ref Z.a_law_divisor)
  F_law_lowest : Fun K "_law_lowest" "_law_lowest" slaw_lowest Z.a_law_lowest Z.d_law_lowest
  bb_law_lowest : Binds K Z.d_law_lowest P_law_lowest []
  g_law_lowest : mg "_law_lowest" = some (.ref Z.a_law_lowest)
  F_law_below : Fun K "_law_below" "_law_below" slaw_below Z.a_law_below Z.d_law_below
  bb_law_below : Binds K Z.d_law_below P_law_below []
  g_law_below : mg "_law_below" = some (.ref Z.a_law_below)
  F_law_sides : Fun K "_law_sides" "_law_sides" slaw_sides Z.a_law_sides Z.d_law_sides
  bb_law_sides : Binds K Z.d_law_sides P_law_sides []
  g_law_sides : mg "_law_sides" = some (.ref Z.a_law_sides)
  F_distance : Fun K "distance" "distance" sdistance Z.a_distance Z.d_distance
  bb_distance : Binds K Z.d_distance P_distance []
  g_distance : mg "distance" = some (.ref Z.a_distance)
  F_nearer : Fun K "nearer" "nearer" snearer Z.a_nearer Z.d_nearer
  bb_nearer : Binds K Z.d_nearer P_nearer []
  g_nearer : mg "nearer" = some (.ref Z.a_nearer)
  F_neighbours : Fun K "neighbours" "neighbours" sneighbours Z.a_neighbours Z.d_neighbours
  bb_neighbours : Binds K Z.d_neighbours P_neighbours []
  g_neighbours : mg "neighbours" = some (.ref Z.a_neighbours)
  F_law : Fun K "law" "law" slaw Z.a_law Z.d_law
  bb_law : Binds K Z.d_law P_law []
  g_law : mg "law" = some (.ref Z.a_law)
  kn_neighbours_bottom_fraction : KBn K Z.d_neighbours P_neighbours 0 ["bottom", "fraction"] (KW.gk [1, 0] []) (KW.gk [1, 0] [])
  b_len : mg "len" = none
  b_range : mg "range" = none
  b_abs : mg "abs" = none
  b_min : mg "min" = none
end KA
/-! Looks in plain Lean. -/
namespace KA
open PySem PySem.Spec PyProof.Rows L2 DP
/-- a look: word, x, y -/
abbrev Lk := Str × Int × Int
def encL (l : Lk) : PyData := .tuple [.str l.1, .int l.2.1, .int l.2.2]
def WordOk (x : Str) : Prop := x = "at" ∨ x = "from" ∨ x = "upto"
def SideOk (x : Str) : Prop := x = "slow" ∨ x = "fast"
/-- the words of a side, by truth -/
def onSide (sd x : Str) : Bool := if sd = "slow" then (decide (x = "at") || decide (x = "from")) else (decide (x = "at") || decide (x = "upto"))
/-- where a look alone tells that x is led -/
def plc (sd : Str) (l : Lk) (x L : Int) : Int := if sd = "slow" then l.2.2 + (x - l.2.1) / L * L else l.2.2 - (l.2.1 - x) / L * L
def Sized (n : Nat) (l : Lk) : Prop := l.2.1.natAbs < 2 ^ n ∧ l.2.2.natAbs < 2 ^ n
theorem slow_ne : ¬ (("fast" : Str) = "slow") := by decide +kernel
theorem plc_slow (l : Lk) (x L : Int) : plc "slow" l x L = l.2.2 + (x - l.2.1) / L * L := if_pos rfl
theorem plc_fast (l : Lk) (x L : Int) : plc "fast" l x L = l.2.2 - (l.2.1 - x) / L * L := if_neg slow_ne
def tooFar (a b : Lk) (L : Int) : Bool := onSide "slow" a.1 && onSide "fast" b.1 && decide (b.2.2 < plc "slow" a b.2.1 L)
def clashB (a b : Lk) (L : Int) : Bool := tooFar a b L || tooFar b a L
/-- brought home -/
def home (L : Int) (l : Lk) : Lk := (l.1, l.2.1 - l.2.1 / L * L, l.2.2 - l.2.1 / L * L)
theorem nat_div {a L : Int} (h : 0 < L) : (a / L).natAbs ≤ a.natAbs + 1 := Nat.le_succ_of_le (Int.natAbs_ediv_le_natAbs a L)
theorem sub_lt {a b : Int} {n : Nat} (ha : a.natAbs < 2 ^ n) (hb : b.natAbs < 2 ^ n) : (a - b).natAbs < 2 ^ (n + 1) := by
  rw [Nat.pow_succ]; omega
theorem add_lt {a b : Int} {n : Nat} (ha : a.natAbs < 2 ^ n) (hb : b.natAbs < 2 ^ n) : (a + b).natAbs < 2 ^ (n + 1) := by
  rw [Nat.pow_succ]; omega
theorem div_lt {a L : Int} {n : Nat} (h : 0 < L) (ha : a.natAbs < 2 ^ n) : (a / L).natAbs < 2 ^ (n + 1) := by
  have := nat_div (a := a) h
  have h1 : 1 ≤ 2 ^ n := Nat.one_le_two_pow
  rw [Nat.pow_succ]; omega
theorem lt_up {a : Int} {m n : Nat} (ha : a.natAbs < 2 ^ m) (h : m ≤ n) : a.natAbs < 2 ^ n := Nat.lt_of_lt_of_le ha (Nat.pow_le_pow_right (by decide) h)
section
variable {K : PySem.W.Frag} {H : Hp}
theorem dp_look {v : V} {l : Lk} (h : Dp K H v (encL l)) : ∃ a, v = .ref a ∧ SqT K H a [.str l.1, .int l.2.1, .int l.2.2] := by
  have h' : Dp K H v (.tuple [.str l.1, .int l.2.1, .int l.2.2]) := h
  cases h' with
  | tup s a =>
    cases a with
    | cons a1 a =>
      cases a with
      | cons a2 a =>
        cases a with
        | cons a3 a =>
          cases a; cases a1; cases a2; cases a3
          exact ⟨_, rfl, s⟩
theorem dp_list {v : V} {ds : List PyData} (h : Dp K H v (.list ds)) : ∃ a xs, v = .ref a ∧ SqL K H a xs ∧ DpAll K H xs ds := by
  cases h with
  | lst s a => exact ⟨_, _, rfl, s, a⟩
end
theorem decl_words {x : Str} (h : WordOk x) : inV (.str x) [.str "at", .str "from"] = onSide "slow" x ∧ inV (.str x) [.str "at", .str "upto"] = onSide "fast" x ∧ inV (.str x) [.str "at", .str "from", .str "upto"] = true := by
  rcases h with e | e | e <;> subst e <;> decide +kernel
theorem yes_ite {σ : L2.St} {H : Hp} {A B : Hp → Prop} (h : A H) : tYes σ H (fun b H3 => if b = true then A H3 else B H3) := by
  show (if true = true then A H else B H)
  rw [if_pos rfl]
  exact h
/-- data without lists: tuples, numbers, texts -/
def noL : PyData → Bool
  | .list _ => false
  | .dict _ => false
  | .tuple xs => noLs xs
  | _ => true
where noLs : List PyData → Bool
  | [] => true
  | x :: xs => noL x && noLs xs
/-- tuples stand -/
def Tups (H H' : Hp) : Prop := ∀ b xs, Rd H b (.tup xs) → Rd H' b (.tup xs)
theorem Tups.of_same {H H' : Hp} (S : Same H H') : Tups H H' := fun _ _ h => DP.Same.rd S h
theorem Tups.upd_lst {H : Hp} {D : Addr} {ys : List V} {o : HO} (h : H D = some (.lst ys)) : Tups H (upd H D o) := fun b xs hb => by
  have hn : b ≠ D := by
    rintro rfl
    rcases hb with e | ⟨q, e⟩ <;> rw [h] at e <;> cases e
  rcases hb with e | ⟨q, e⟩
  · exact .inl ((upd_ne hn).trans e)
  · exact .inr ⟨q, (upd_ne hn).trans e⟩
theorem Tups.upd_ins {H : Hp} {D C dx : Addr} {fs : List (Str × V)} {o : HO} (h : H D = some (.ins C dx fs)) : Tups H (upd H D o) := fun b xs hb => by
  have hn : b ≠ D := by
    rintro rfl
    rcases hb with e | ⟨q, e⟩ <;> rw [h] at e <;> cases e
  rcases hb with e | ⟨q, e⟩
  · exact .inl ((upd_ne hn).trans e)
  · exact .inr ⟨q, (upd_ne hn).trans e⟩
theorem Tups.trans {H H1 H2 : Hp} (a : Tups H H1) (b : Tups H1 H2) : Tups H H2 := fun c xs h => b c xs (a c xs h)
section
variable {K : PySem.W.Frag} {H H' : Hp}
mutual
theorem dp_tups (S : Tups H H') : ∀ (d : PyData) (v : V), noL d = true → Dp K H v d → Dp K H' v d
  | .none, _, _, h => by cases h; exact .non
  | .bool _, _, _, h => by cases h; exact .bl _
  | .int _, _, _, h => by cases h; exact .int _
  | .str _, _, _, h => by cases h; exact .str _
  | .list _, _, n, _ => by simp [noL] at n
  | .dict _, _, n, _ => by simp [noL] at n
  | .tuple ds, _, n, h => by
    cases h with
    | tup s a =>
      refine .tup ?_ (dpAll_tups S ds _ (by simpa [noL] using n) a)
      rcases s with s | s
      · exact .inl (S _ _ s)
      · exact .inr s
theorem dpAll_tups (S : Tups H H') : ∀ (ds : List PyData) (vs : List V), noL.noLs ds = true → DpAll K H vs ds → DpAll K H' vs ds
  | [], _, _, h => by cases h; exact .nil
  | d :: ds, _, n, h => by
    rw [noL.noLs, Bool.and_eq_true] at n
    cases h with
    | cons a b => exact .cons (dp_tups S d _ n.1 a) (dpAll_tups S ds _ n.2 b)
end
theorem noLs_map {β : Type} {enc : β → PyData} (h : ∀ b, noL (enc b) = true) : ∀ bs : List β, noL.noLs (bs.map enc) = true
  | [] => rfl
  | b :: bs => by
    show noL.noLs (enc b :: bs.map enc) = true
    rw [noL.noLs, h b, noLs_map h bs]; rfl
theorem noL_encL (l : Lk) : noL (encL l) = true := rfl
/-- one more at the list that a comprehension makes -/
theorem acc_step {D : Addr} {ys : List V} {ds : List PyData} {y : V} {d : PyData} (hD : H D = some (.lst ys)) (hn : noL.noLs ds = true) (hd : noL d = true) (h : DpAll K H ys ds) (hy : Dp K H y d) :
    DpAll K (upd H D (.lst (ys ++ [y]))) (ys ++ [y]) (ds ++ [d]) :=
  dpAll_snoc (dpAll_tups (Tups.upd_lst hD) _ _ hn h) (dp_tups (Tups.upd_lst hD) _ _ hd hy)
end
theorem same_set {H : Hp} {p : Addr} {o : HO} {H1 : Hp} (S : Same H H1) (hn : H p = none) : Same H (upd H1 p o) := fun b u e => by rw [upd_ne (ne_of_none e hn)]; exact S b u e
theorem take_snoc {α : Type} : ∀ {l : List α} {i : Nat} {x : α}, l[i]? = some x → l.take (i + 1) = l.take i ++ [x]
  | [], i, x, h => by simp at h
  | a :: l, 0, x, h => by
    have e : a = x := Option.some.inj h
    subst e
    rfl
  | a :: l, i + 1, x, h => by
    have ih := take_snoc (l := l) (i := i) (x := x) h
    show a :: l.take (i + 1) = a :: l.take i ++ [x]
    rw [ih]; rfl
theorem map_at {α β : Type} {f : α → β} {l : List α} {i : Nat} {y : β} (h : (l.map f)[i]? = some y) : ∃ x, l[i]? = some x ∧ y = f x := by
  rw [List.getElem?_map] at h
  cases e : l[i]? with
  | none => rw [e] at h; cases h
  | some x => rw [e] at h; exact ⟨x, rfl, (Option.some.inj h).symm⟩
end KA
namespace KA
open PySem PySem.Spec PyProof.Rows L2 DP
/-- what stood stands, but at t and g -/
def Keep (t g : Addr) (H H' : Hp) : Prop := ∀ b o, H b = some o → b ≠ t → b ≠ g → H' b = some o
theorem Keep.refl (t g : Addr) (H : Hp) : Keep t g H H := fun _ _ h _ _ => h
theorem Keep.trans {t g : Addr} {H H1 H2 : Hp} (a : Keep t g H H1) (b : Keep t g H1 H2) : Keep t g H H2 := fun c o h x y => b c o (a c o h x y) x y
/-- the bag's pairs -/
def bagK (g : Addr) (l c f : Int) : List (Key × V) := [(.inr "great", .ref g), (.inr "left", .int l), (.inr "turn", .int c), (.inr "fold", .int f)]
/-- the bag: at t, its great numbers at g; no more than n draws so far went by the fold -/
structure Tray (H : Hp) (t g : Addr) (n : Nat) : Prop where
  ex : ∃ (gs : List Int) (f : Int × Int) (c : Int), H t = some (.dK (bagK g f.1 c f.2)) ∧ H g = some (.lst (gs.map V.int)) ∧ gs.length ≤ 63 ∧ (∀ x ∈ gs, 0 ≤ x) ∧ 0 ≤ f.1 ∧ 0 ≤ f.2 ∧ f.2 < 2 ^ 61 ∧ 0 ≤ c ∧ c ≤ (n : Int)
  ne : t ≠ g
theorem Tray.same {H H' : Hp} {t g : Addr} {n : Nat} (T : Tray H t g n) (S : Same H H') : Tray H' t g n := by
  obtain ⟨⟨gs, f, c, h1, h2, r⟩, hne⟩ := T
  exact ⟨⟨gs, f, c, S _ _ h1, S _ _ h2, r⟩, hne⟩
theorem Keep.of_same {t g : Addr} {H H' : Hp} (S : Same H H') : Keep t g H H' := fun b o e _ _ => S b o e
theorem pow_lt {i : Int} {a n : Nat} (h : i.natAbs < 2 ^ a) (h0 : n ≠ 0) : (i ^ n).natAbs < 2 ^ (a * n) := by
  rw [Int.natAbs_pow, Nat.pow_mul]
  exact Nat.pow_lt_pow_left h h0
theorem while_post {c : TT} {tb : TS} {D : Ends} {σ : L2.St} {H : Hp} (Pv : L2.St → Hp → Prop) (μ : L2.St → Hp → Nat) (Po : L2.St → Hp → Prop) (h0 : Pv σ H)
    (hs : ∀ σ H, Pv σ H → c σ H fun b H1 => if b = true then tb { D with nx := fun σ' H' => Pv σ' H' ∧ μ σ' H' < μ σ H, ct := fun σ' H' => Pv σ' H' ∧ μ σ' H' < μ σ H, bk := D.nx } σ H1 else Po σ H1)
    (hd : ∀ σ H, Po σ H → D.nx σ H) (mono : ∀ σ H Q Q', (∀ b H1, Q b H1 → Q' b H1) → c σ H Q → c σ H Q') : tWhile c tb D σ H :=
  while_by Pv μ h0 (fun σ1 H1 p => mono σ1 H1 _ _ (fun b H2 q => by
    cases b with
    | true => exact q
    | false => exact hd _ _ q) (hs σ1 H1 p)) mono
theorem Tray.up {H : Hp} {t g : Addr} {m n : Nat} (T : Tray H t g m) (h : m ≤ n) : Tray H t g n := by
  obtain ⟨⟨gs, f, c, h1, h2, hl, hge, hf0, hf1, hf2, hc0, hc1⟩, hne⟩ := T
  exact ⟨⟨gs, f, c, h1, h2, hl, hge, hf0, hf1, hf2, hc0, by omega⟩, hne⟩
theorem seqIx0 {n : Nat} (h : 0 < n) : seqIndex? 0 n = some 0 := by
  unfold seqIndex?
  simp
  omega
/-! ### the bag's places -/
theorem kne {a b : Str} (h : ¬ a = b) : ¬ ((Sum.inr a : Key) = .inr b) := fun e => h (Sum.inr.inj e)
theorem bag_great (g : Addr) (l c f : Int) : valV (bagK g l c f) (.inr "great") = some (.ref g) := valV_pos rfl
theorem bag_left (g : Addr) (l c f : Int) : valV (bagK g l c f) (.inr "left") = some (.int l) := (valV_neg (kne (by decide +kernel))).trans (valV_pos rfl)
theorem bag_turn (g : Addr) (l c f : Int) : valV (bagK g l c f) (.inr "turn") = some (.int c) := (valV_neg (kne (by decide +kernel))).trans ((valV_neg (kne (by decide +kernel))).trans (valV_pos rfl))
theorem bag_fold (g : Addr) (l c f : Int) : valV (bagK g l c f) (.inr "fold") = some (.int f) := (valV_neg (kne (by decide +kernel))).trans ((valV_neg (kne (by decide +kernel))).trans ((valV_neg (kne (by decide +kernel))).trans (valV_pos rfl)))
theorem put_left (g : Addr) (l c f v : Int) : putK (bagK g l c f) (.inr "left") (.int v) = bagK g v c f := by
  unfold putK
  rw [if_pos (by rw [valV_any, bag_left]; rfl)]
  show [if (Sum.inr "great" : Key) = .inr "left" then _ else _, if (Sum.inr "left" : Key) = .inr "left" then _ else _, if (Sum.inr "turn" : Key) = .inr "left" then _ else _, if (Sum.inr "fold" : Key) = .inr "left" then _ else _] = _
  rw [if_neg (kne (by decide +kernel)), if_pos rfl, if_neg (kne (by decide +kernel)), if_neg (kne (by decide +kernel))]
  rfl
theorem put_turn (g : Addr) (l c f v : Int) : putK (bagK g l c f) (.inr "turn") (.int v) = bagK g l v f := by
  unfold putK
  rw [if_pos (by rw [valV_any, bag_turn]; rfl)]
  show [if (Sum.inr "great" : Key) = .inr "turn" then _ else _, if (Sum.inr "left" : Key) = .inr "turn" then _ else _, if (Sum.inr "turn" : Key) = .inr "turn" then _ else _, if (Sum.inr "fold" : Key) = .inr "turn" then _ else _] = _
  rw [if_neg (kne (by decide +kernel)), if_neg (kne (by decide +kernel)), if_pos rfl, if_neg (kne (by decide +kernel))]
  rfl
theorem bag_new (g : Addr) (l c f : Int) : mergeK [] (bagK g l c f) = bagK g l c f := by
  have e1 : ¬ (("great" : Str) = "left") := by decide +kernel
  have e2 : ¬ (("great" : Str) = "turn") := by decide +kernel
  have e3 : ¬ (("great" : Str) = "fold") := by decide +kernel
  have e4 : ¬ (("left" : Str) = "turn") := by decide +kernel
  have e5 : ¬ (("left" : Str) = "fold") := by decide +kernel
  have e6 : ¬ (("turn" : Str) = "fold") := by decide +kernel
  simp [mergeK, bagK, putK, e1, e2, e3, e4, e5, e6]
section
variable {H : Hp} {t g : Addr} {l c f : Int}
theorem get_great (h : H t = some (.dK (bagK g l c f))) : DGet H t (.str "great") (some (.ref g)) := by
  have := DGet.k (k := .inr "great") h
  rwa [bag_great] at this
theorem get_left (h : H t = some (.dK (bagK g l c f))) : DGet H t (.str "left") (some (.int l)) := by
  have := DGet.k (k := .inr "left") h
  rwa [bag_left] at this
theorem get_turn (h : H t = some (.dK (bagK g l c f))) : DGet H t (.str "turn") (some (.int c)) := by
  have := DGet.k (k := .inr "turn") h
  rwa [bag_turn] at this
theorem get_fold (h : H t = some (.dK (bagK g l c f))) : DGet H t (.str "fold") (some (.int f)) := by
  have := DGet.k (k := .inr "fold") h
  rwa [bag_fold] at this
theorem dput_left (h : H t = some (.dK (bagK g l c f))) (v : Int) : DPut H t (.str "left") (.int v) (upd H t (.dK (bagK g v c f))) := by
  have := DPut.k (k := .inr "left") (v := .int v) h (small1000 (by show 4 ≤ 1000; decide))
  rwa [put_left] at this
theorem dput_turn (h : H t = some (.dK (bagK g l c f))) (v : Int) : DPut H t (.str "turn") (.int v) (upd H t (.dK (bagK g l v f))) := by
  have := DPut.k (k := .inr "turn") (v := .int v) h (small1000 (by show 4 ≤ 1000; decide))
  rwa [put_turn] at this
end
def spBag (K : PySem.W.Frag) : Sp := fun vs H Q _ => ∃ (a : Addr) (ns : List Int), vs = [.ref a] ∧ SqL K H a (ns.map V.int) ∧ ns.length ≤ 63 ∧ ∀ (H' : Hp) (t g : Addr), Tray H' t g 0 → Same H H' → H t = none → H g = none → Q (.ref t) H'
def spDraw : Sp := fun vs H Q _ => ∃ (t g : Addr) (n : Nat) (m : Int), vs = [.ref t, .int m] ∧ Tray H t g n ∧ 0 < m ∧ m.natAbs < 2 ^ 1000 ∧ n < 2 ^ 60 ∧
  ∀ (H' : Hp) (r : Int), 0 ≤ r → r < m → Tray H' t g (n + 1) → Keep t g H H' → Q (.int r) H'
section
variable {P : Program} {w : World} {K : PySem.W.Frag} {mg : Str → Option Value} {base : Heap} {Z : Ad}
theorem ok_law_bag (T : Tx K w mg Z) : FnOk P w K mg base CX0 1 Z.a_law_bag Z.d_law_bag P_law_bag (spBag K) := by
  refine T.F_law_bag.ok sclaw_bag (fun vs H Q E h => ?_) (fun cdv A outer s H vs Q E hr h => ?_)
  · obtain ⟨a, ns, rfl, _⟩ := h
    rfl
  · obtain ⟨a, ns, rfl, hS, hlen, k⟩ := h
    refine ⟨_, (pss_cons (ps_par (i := 1) (j := 2) (by rfl) sclaw_bag.nd rfl rfl (by decide) rfl rfl (pa_cons pe_int (pa_cons (pe_lst pa_nil) pa_nil)) (by rfl))
      (pss_cons (ps_for PassesOwn.never rfl (pi_list (pv 0)) (pg_name (i := 3) sclaw_bag.nd rfl (Or.inl rfl)) (pss_cons (ps_set (i := 1) sclaw_bag.nd rfl (Or.inl rfl) (pe_op op_mod (pe_op op_add (pe_op op_mulW (pv 1) pe_int) (pv 3)) pe_int))
      (pss_one (ps_if (pt_cmpR op_ge (pe_callB call_abs (by rfl) T.b_abs (by decide +kernel) (pa_cons (pv 3) pa_nil)) (pe_op op_pow pe_int pe_int) (nomark _)) (pss_one (ps_expr (pe_bm PySem.F.plainAttrs_list PySem.F.slot_list_append PySem.F.type_list_append mt_append (pv 2) (pa_cons (pe_callB call_abs (by rfl) T.b_abs (by decide +kernel) (pa_cons (pv 3) pa_nil)) pa_nil)))) pss_nil))))
      (pss_one (ps_ret (pe_disp (pps_cons pe_str (pv 2) (pps_cons pe_str pe_int (pps_cons pe_str pe_int (pps_cons pe_str (pv 1) pps_nil)))) (by rfl) (by rfl) (by intro h; cases h) (by decide)))))), ?_⟩
    refine ⟨(by show 0 ≤ sizeLine; decide), fun G hG => ⟨_, _, rfl, ?_⟩⟩
    refine ⟨_, rfl, a, rfl, ⟨_, Same.sqL (same_upd hG) hS⟩, ?_⟩
    refine for_list (K := K) (a := a) (xs := ns.map V.int) (fun i σ' H' => ∃ (gs : List Int) (f : Int) (u : Option V), σ' = [some (.ref a), some (.int f), some (.ref G), u] ∧ Same H H' ∧ H' G = some (.lst (gs.map V.int)) ∧ gs.length ≤ i ∧ (∀ x ∈ gs, 0 ≤ x) ∧ 0 ≤ f ∧ f < 2 ^ 61)
      ⟨[], 11, none, rfl, same_upd hG, upd_same, Nat.le_refl _, (fun _ z => absurd z (by simp)), by decide, by decide⟩ (fun i σ' H' _ ⟨_, _, _, _, S, _⟩ => Same.sqL S hS) ?_ ?_
    · rintro i y σ' H' hi ⟨gs, f, u, rfl, S, hg, hgl, hge, hf0, hf1⟩
      obtain ⟨z, hz, rfl⟩ := map_at hi
      have hi63 : i < 63 := by
        have := (List.getElem?_eq_some_iff.mp hz).1
        omega
      have bf : f.natAbs < 2 ^ 61 := by omega
      refine ⟨_, rfl, _, _, rfl, rfl, wide_mul (b := 30) bf (by decide) (by decide) (by decide) (by decide), _, rfl, _, _, rfl, rfl, _, _, rfl, rfl, (by show (0 : Int) < _; decide), ?_⟩
      have hx0 := Int.emod_nonneg (f * 1000003 + z) (show (2305843009213693951 : Int) ≠ 0 by decide)
      have hx1 := Int.emod_lt_of_pos (f * 1000003 + z) (show (0 : Int) < 2305843009213693951 by decide)
      refine ⟨_, rfl, _, rfl, _, _, rfl, rfl, ⟨by decide, by decide, by decide⟩, _, _, rfl, rfl, _, rfl, ?_⟩
      refine ite2 (fun c => ?_) (fun _ => ?_)
      · have c' := of_decide_eq_true c
        refine ⟨_, rfl, .inl ⟨rfl, _, SqL.of hg⟩, _, rfl, _, rfl, G, _, _, rfl, rfl, hg, ?_, ?_⟩
        · exact small1000 (by simp; omega)
        · refine ⟨gs ++ [if z < 0 then -z else z], _, _, rfl, same_set S hG, ?_, ?_, ?_, hx0, by omega⟩
          · rw [List.map_append]; exact upd_same
          · simp; omega
          · intro x hx
            rcases List.mem_append.mp hx with h | h
            · exact hge x h
            · rw [List.mem_singleton] at h
              subst h
              split <;> omega
      · exact ⟨gs, _, _, rfl, S, hg, by omega, hge, hx0, by omega⟩
    · rintro σ' H' ⟨gs, f, u, rfl, S, hg, hgl, hge, hf0, hf1⟩
      refine fun t ht => ?_
      have hgt : G ≠ t := ne_of_none hg ht
      refine ⟨_, rfl, _, rfl, upd_same, bagK G 0 0 f, rfl, (by show 4 ≤ 15; decide), ?_⟩
      rw [bag_new]
      refine k _ t G ⟨⟨gs, (0, f), 0, upd_same, (upd_ne hgt).trans ((upd_ne hgt).trans hg), ?_, hge, Int.le_refl _, hf0, hf1, Int.le_refl _, Int.le_refl _⟩, Ne.symm hgt⟩ (fun b o e => ?_) (S.free ht) hG
      · rw [List.length_map] at hgl
        omega
      · have hb := ne_of_none (S b o e) ht
        exact (upd_ne hb).trans ((upd_ne hb).trans (S b o e))
theorem ok_law_draw (T : Tx K w mg Z) : FnOk P w K mg base CX0 1 Z.a_law_draw Z.d_law_draw P_law_draw (spDraw) := by
  refine T.F_law_draw.ok sclaw_draw (fun vs H Q E h => ?_) (fun cdv A outer s H vs Q E hr h => ?_)
  · obtain ⟨t, g, n, m, rfl, _⟩ := h
    rfl
  · obtain ⟨t, g, n, m, rfl, ⟨⟨gs, f, c, h1, h2, hl, hge, hl0, hf0, hf1, hc0, hc1⟩, hne⟩, hm, hmb, hn, k⟩ := h
    obtain ⟨l, f⟩ := f
    simp only at h1 hl0 hf0 hf1
    refine ⟨_, (C8.pss_cut (ps_if (PW.pt (pw_and (pt_cmpR op_lt (pe_dget (hu_of hr) (pv 0) pe_str (fun _ _ => rfl)) (pv 1) (nomark _)) (pw_and1 (pt_cmpR op_gt (pe_callB (lenK (K := K)) (by rfl) T.b_len (by decide +kernel) (pa_cons (pe_dget (hu_of hr) (pv 0) pe_str (fun _ _ => rfl)) pa_nil)) pe_int (nomark _))))) (pss_one (ps_dput (hu_of hr) (pv 0) pe_str (pe_bm PySem.F.plainAttrs_list PySem.F.slot_list_pop PySem.F.type_list_pop mt_popAt (pe_dget (hu_of hr) (pv 0) pe_str (fun _ _ => rfl)) (pa_cons pe_int pa_nil)) rfl)) pss_nil)
      (C8.pss_cut (ps_if (pt_cmpR op_ge (pe_dget (hu_of hr) (pv 0) pe_str (fun _ _ => rfl)) (pv 1) (nomark _)) (pss_cons (ps_set (i := 2) sclaw_draw.nd rfl (Or.inl rfl) (pe_op op_mod (pe_dget (hu_of hr) (pv 0) pe_str (fun _ _ => rfl)) (pv 1)))
      (pss_cons (ps_dput (hu_of hr) (pv 0) pe_str (pe_op op_fdivW (pe_dget (hu_of hr) (pv 0) pe_str (fun _ _ => rfl)) (pv 1)) rfl)
      (pss_one (ps_ret (pv 2))))) pss_nil)
      (pss_cons (ps_daug (hu_of hr) (pv 0) pe_str pe_int in_add (fun _ _ _ => rfl))
      (pss_cons (ps_set (i := 3) sclaw_draw.nd rfl (Or.inl rfl) (pe_dget (hu_of hr) (pv 0) pe_str (fun _ _ => rfl)))
      (pss_cons (ps_set (i := 4) sclaw_draw.nd rfl (Or.inl rfl) (pe_op op_add (pe_op op_mulW (pe_op op_add (pe_dget (hu_of hr) (pv 0) pe_str (fun _ _ => rfl)) (pe_op op_mulW pe_int (pv 3))) (pe_op op_pow (pe_op op_add (pv 3) pe_int) pe_int)) (pe_op op_mulW pe_int (pv 3))))
      (pss_one (ps_ret (pe_op op_mod (pe_op op_fdivW (pe_op op_mod (pe_op op_pow (pe_op op_mod (pv 4) pe_int) pe_int) (pe_op op_add (pe_op op_pow pe_int pe_int) pe_int)) pe_int) (pv 1))))))))), ?_⟩
    refine ⟨fun σ' H' => σ' = [some (.ref t), some (.int m), none, none, none] ∧ Keep t g H H' ∧ ∃ (gs : List Int) (l : Int), H' t = some (.dK (bagK g l c f)) ∧ H' g = some (.lst (gs.map V.int)) ∧ gs.length ≤ 63 ∧ (∀ x ∈ gs, 0 ≤ x) ∧ 0 ≤ l, ?_, ?_⟩
    · refine ⟨_, rfl, t, _, rfl, get_left h1, _, rfl, _, _, rfl, rfl, _, rfl, ?_⟩
      have stay : [some (V.ref t), some (.int m), none, none, none] = [some (.ref t), some (.int m), none, none, none] ∧ Keep t g H H ∧ ∃ (gs : List Int) (l : Int), H t = some (.dK (bagK g l c f)) ∧ H g = some (.lst (gs.map V.int)) ∧ gs.length ≤ 63 ∧ (∀ x ∈ gs, 0 ≤ x) ∧ 0 ≤ l := ⟨rfl, Keep.refl _ _ _, gs, l, h1, h2, hl, hge, hl0⟩
      refine ite2 (fun _ => ?_) (fun _ => iteF stay)
      refine ⟨_, rfl, t, _, rfl, get_great h1, g, _, rfl, .inl (SqL.of h2), _, _, rfl, rfl, _, rfl, ite2 (fun hlen => ?_) (fun _ => stay)⟩
      cases gs with
      | nil => exact absurd (of_decide_eq_true hlen) (by simp)
      | cons y ys =>
        refine ⟨_, rfl, t, _, rfl, get_great h1, .inl ⟨rfl, _, SqL.of h2⟩, g, _, _, 0, _, rfl, rfl, h2, by decide, by decide, seqIx0 (by simp), rfl, ?_⟩
        have h1' : (upd H g (.lst (ys.map V.int))) t = some (.dK (bagK g l c f)) := (upd_ne hne).trans h1
        refine ⟨_, rfl, t, _, rfl, dput_left h1' y, rfl, fun b o e n1 n2 => (upd_ne n1).trans ((upd_ne n2).trans e), ys, y, upd_same, (upd_ne (Ne.symm hne)).trans upd_same, ?_, fun x hx => hge x (List.mem_cons_of_mem _ hx), hge y List.mem_cons_self⟩
        simp at hl; omega
    · rintro σ1 H1 ⟨rfl, kp, gs, l, h1, h2, hl, hge, hl0⟩
      refine ⟨fun σ' H' => σ' = [some (.ref t), some (.int m), none, none, none] ∧ H' = H1, ?_, ?_⟩
      · refine ⟨_, rfl, t, _, rfl, get_left h1, _, rfl, _, _, rfl, rfl, _, rfl, ?_⟩
        refine ite2 (fun _ => ?_) (fun _ => ⟨rfl, rfl⟩)
        refine ⟨_, rfl, t, _, rfl, get_left h1, _, rfl, _, _, rfl, rfl, hm, ?_⟩
        refine ⟨_, rfl, t, _, rfl, get_left h1, _, rfl, _, _, rfl, rfl, wide_div hm hmb (by decide) (by decide), _, rfl, t, _, rfl, dput_left h1 _, _, rfl, ?_⟩
        exact k _ _ (Int.emod_nonneg _ (by omega)) (Int.emod_lt_of_pos _ hm) ⟨⟨gs, (l / m, f), c, upd_same, (upd_ne (Ne.symm hne)).trans h2, hl, hge, Int.ediv_nonneg hl0 (by omega), hf0, hf1, hc0, by push_cast; omega⟩, hne⟩ fun b o e n1 n2 => (upd_ne n1).trans (kp b o e n1 n2)
      · rintro σ2 H2 ⟨rfl, rfl⟩
        refine ⟨_, rfl, t, _, rfl, get_turn h1, _, _, rfl, rfl, _, dput_turn h1 _, ?_⟩
        have g1 : (upd H2 t (.dK (bagK g l (c + 1) f))) t = some (.dK (bagK g l (c + 1) f)) := upd_same
        have bf : (f + 17 * (c + 1)).natAbs < 2 ^ 66 := by omega
        have bc : (c + 1 + 29).natAbs < 2 ^ 61 := by omega
        have b3 : ((c + 1 + 29) ^ (2 : Int).toNat).natAbs < 2 ^ (61 * 2) := pow_lt bc (by decide)
        refine ⟨_, rfl, t, _, rfl, get_turn g1, ?_⟩
        refine ⟨_, rfl, t, _, rfl, get_fold g1, _, rfl, _, _, rfl, rfl, wide_mul (a := 6) (b := 61) (by decide) (by omega) (by decide) (by decide) (by decide), _, _, rfl, rfl, _, rfl, _, _, rfl, rfl, _, _, rfl, rfl, ⟨by decide, by decide, Nat.lt_trans bc (by decide)⟩, _, _, rfl, rfl, wide_mul bf b3 (by decide) (by decide) (by decide), ?_⟩
        refine ⟨_, rfl, _, _, rfl, rfl, wide_mul (a := 30) (b := 61) (by decide) (by omega) (by decide) (by decide) (by decide), _, _, rfl, rfl, ?_⟩
        have hx0 := Int.emod_nonneg ((f + 17 * (c + 1)) * (c + 1 + 29) ^ (2 : Int).toNat + 7919 * (c + 1)) (show (2305843009213693951 : Int) ≠ 0 by decide)
        have hx1 := Int.emod_lt_of_pos ((f + 17 * (c + 1)) * (c + 1 + 29) ^ (2 : Int).toNat + 7919 * (c + 1)) (show (0 : Int) < 2305843009213693951 by decide)
        refine ⟨_, rfl, _, _, rfl, rfl, (by show (0 : Int) < _; decide), _, _, rfl, rfl, ⟨by decide, by decide, ?_⟩, _, _, rfl, rfl, ⟨by decide, by decide, by decide⟩, _, _, rfl, rfl, _, _, rfl, rfl, (by show (0 : Int) < _; decide), _, _, rfl, rfl, wide_div (b := 10) (by decide) (by decide) (by decide) (by decide), _, rfl, _, _, rfl, rfl, hm, ?_⟩
        · show (((f + 17 * (c + 1)) * (c + 1 + 29) ^ (2 : Int).toNat + 7919 * (c + 1)) % 2305843009213693951).natAbs < 2 ^ 64
          omega
        · exact k _ _ (Int.emod_nonneg _ (by omega)) (Int.emod_lt_of_pos _ hm) ⟨⟨gs, (l, f), c + 1, g1, (upd_ne (Ne.symm hne)).trans h2, hl, hge, hl0, hf0, hf1, by omega, by push_cast; omega⟩, hne⟩ fun b o e n1 n2 => (upd_ne n1).trans (kp b o e n1 n2)
end
end KA
namespace KA
open PySem PySem.Spec PyProof.Rows L2 DP
abbrev Pr := Int × Int
def encP (p : Pr) : PyData := .tuple [.int p.1, .int p.2]
theorem noL_encP (p : Pr) : noL (encP p) = true := rfl
/-- a list of data at p, tracked -/
def LAt (K : PySem.W.Frag) (H : Hp) (p : Addr) (ds : List PyData) : Prop := ∃ vs, H p = some (.lst vs) ∧ DpAll K H vs ds
theorem LAt.dp {K : PySem.W.Frag} {H : Hp} {p : Addr} {ds : List PyData} (h : LAt K H p ds) : Dp K H (.ref p) (.list ds) := by
  obtain ⟨vs, h1, h2⟩ := h
  exact .lst (SqL.of h1) h2
theorem LAt.same {K : PySem.W.Frag} {H H' : Hp} {p : Addr} {ds : List PyData} (h : LAt K H p ds) (S : Same H H') : LAt K H' p ds := by
  obtain ⟨vs, h1, h2⟩ := h
  exact ⟨vs, S _ _ h1, dpAll_mono S _ _ h2⟩
theorem Keep.tups {H H' : Hp} {t g : Addr} {n : Nat} (T : Tray H t g n) (k : Keep t g H H') : Tups H H' := fun b xs hb => by
  obtain ⟨⟨gs, f, c, h1, h2, r⟩, hne⟩ := T
  rcases hb with e | ⟨q, e⟩
  · refine .inl (k b _ e ?_ ?_) <;> rintro rfl
    · rw [h1] at e; cases e
    · rw [h2] at e; cases e
  · refine .inr ⟨q, k b _ e ?_ ?_⟩ <;> rintro rfl
    · rw [h1] at e; cases e
    · rw [h2] at e; cases e
theorem LAt.keep {K : PySem.W.Frag} {H H' : Hp} {t g p : Addr} {n : Nat} {ds : List PyData} (h : LAt K H p ds) (T : Tray H t g n) (k : Keep t g H H') (h1 : p ≠ t) (h2 : p ≠ g) (hn : noL.noLs ds = true) : LAt K H' p ds := by
  obtain ⟨vs, a, b⟩ := h
  exact ⟨vs, k _ _ a h1 h2, dpAll_tups (Keep.tups T k) _ _ hn b⟩
theorem Tray.at_ne {H : Hp} {t g p : Addr} {n : Nat} (T : Tray H t g n) (hp : H p = none) : p ≠ t ∧ p ≠ g := by
  obtain ⟨⟨gs, f, c, h1, h2, r⟩, hne⟩ := T
  exact ⟨Ne.symm (ne_of_none h1 hp), Ne.symm (ne_of_none h2 hp)⟩
theorem dp_pair {K : PySem.W.Frag} {H : Hp} {v : V} {p : Pr} (h : Dp K H v (encP p)) : ∃ a, v = .ref a ∧ SqT K H a [.int p.1, .int p.2] := by
  have h' : Dp K H v (.tuple [.int p.1, .int p.2]) := h
  cases h' with
  | tup s a =>
    cases a with
    | cons a1 a =>
      cases a with
      | cons a2 a =>
        cases a; cases a1; cases a2
        exact ⟨_, rfl, s⟩
theorem small_nat {L : Int} {a : Int} {n : Nat} (h0 : 0 ≤ a) (h1 : a ≤ L) (hL : L.natAbs < 2 ^ n) : a.natAbs < 2 ^ n := Nat.lt_of_le_of_lt (by omega : a.natAbs ≤ L.natAbs) hL
theorem bigL {L : Int} (h0 : 0 < L) (h : L ≤ 10 ^ 30) : L.natAbs < 2 ^ 100 := by
  have e : (10 : Int) ^ 30 = 1000000000000000000000000000000 := by decide
  have e2 : (2 : Nat) ^ 100 = 1267650600228229401496703205376 := by decide
  rw [e] at h; rw [e2]; omega
/-- what the deck's calls keep of the frame: the deck, all else, so far m draws -/
structure At (H Hc : Hp) (t g : Addr) (m : Nat) : Prop where
  T : Tray Hc t g m
  k : Keep t g H Hc
theorem At.step {H H1 H2 : Hp} {t g : Addr} {m m' : Nat} (a : At H H1 t g m) (T : Tray H2 t g m') (k : Keep t g H1 H2) : At H H2 t g m' := ⟨T, a.k.trans k⟩
theorem At.up {H Hc : Hp} {t g : Addr} {m m' : Nat} (a : At H Hc t g m) (h : m ≤ m') : At H Hc t g m' := ⟨a.T.up h, a.k⟩
theorem At.new {H H1 : Hp} {t g p : Addr} {m : Nat} {o : HO} (a : At H H1 t g m) (hp : H1 p = none) : At H (upd H1 p o) t g m := ⟨a.T.same (same_upd hp), a.k.trans (Keep.of_same (same_upd hp))⟩
theorem At.sm {H H1 H2 : Hp} {t g : Addr} {m : Nat} (a : At H H1 t g m) (S : Same H1 H2) : At H H2 t g m := ⟨a.T.same S, a.k.trans (Keep.of_same S)⟩
theorem At.free {H H1 : Hp} {t g p : Addr} {m : Nat} (a : At H H1 t g m) (hp : H1 p = none) : H p = none := by
  obtain ⟨h1, h2⟩ := a.T.at_ne hp
  cases e : H p with
  | none => rfl
  | some o =>
    rw [a.k p o e h1 h2] at hp
    cases hp
/-- a list that a comprehension makes is changed: it is new -/
theorem At.acc {H H1 : Hp} {t g D : Addr} {m : Nat} {o : HO} (a : At H H1 t g m) (hD : H D = none) (h1 : D ≠ t) (h2 : D ≠ g) : At H (upd H1 D o) t g m := by
  obtain ⟨⟨⟨gs, f, c, e1, e2, r⟩, hne⟩, k⟩ := a
  exact ⟨⟨⟨gs, f, c, (upd_ne (Ne.symm h1)).trans e1, (upd_ne (Ne.symm h2)).trans e2, r⟩, hne⟩, fun b o e n1 n2 => (upd_ne (ne_of_none e hD)).trans (k b o e n1 n2)⟩
def spBelowD : Sp := fun vs H Q _ => ∃ (t g : Addr) (n : Nat) (m : Int), vs = [.ref t, .int m] ∧ Tray H t g n ∧ 0 < m ∧ m.natAbs < 2 ^ 1000 ∧ n < 2 ^ 59 ∧
  ∀ (H' : Hp) (r : Int), 0 ≤ r → r < m → Tray H' t g (n + 60) → Keep t g H H' → Q (.int r) H'
def spWide : Sp := fun vs H Q _ => ∃ (t g : Addr) (n : Nat), vs = [.ref t] ∧ Tray H t g n ∧ n < 2 ^ 58 ∧
  ∀ (H' : Hp) (r : Int), 0 < r → r ≤ 10 ^ 30 → Tray H' t g (n + 70) → Keep t g H H' → Q (.int r) H'
end KA
namespace KA
/-- of all fractions with bottoms to n, none above p / q is nearer -/
structure IsLow (p q n : Int) (l : Int × Int) : Prop where
  pos : 0 < l.2
  le : l.2 ≤ n
  cop : Int.gcd l.1 l.2 = 1
  on : l.1 * q ≤ p * l.2
  best : ∀ x y : Int, 0 < y → y ≤ n → x * q ≤ p * y → x * l.2 ≤ l.1 * y
structure IsUp (p q n : Int) (u : Int × Int) : Prop where
  pos : 0 < u.2
  le : u.2 ≤ n
  cop : Int.gcd u.1 u.2 = 1
  on : p * u.2 ≤ u.1 * q
  best : ∀ x y : Int, 0 < y → y ≤ n → p * y ≤ x * q → u.1 * y ≤ x * u.2
theorem lowest_one {a b c d : Int} (h : a * d = c * b) (hb : 0 < b) (hd : 0 < d) (h1 : Int.gcd a b = 1) (h2 : Int.gcd c d = 1) : (a, b) = (c, d) := by
  have e1 := Int.gcd_mul_right a d b
  have e2 := Int.gcd_mul_right c b d
  rw [h1] at e1
  rw [h2] at e2
  rw [h, Int.mul_comm b d] at e1
  rw [e1] at e2
  have e3 : b = d := by omega
  subst e3
  have e4 : a = c := Int.eq_of_mul_eq_mul_right (by omega) h
  rw [e4]
theorem IsLow.one {p q n : Int} {l m : Int × Int} (h : IsLow p q n l) (k : IsLow p q n m) : l = m := by
  have a := h.best m.1 m.2 k.pos k.le k.on
  have b := k.best l.1 l.2 h.pos h.le h.on
  exact lowest_one (by omega) h.pos k.pos h.cop k.cop
theorem IsUp.one {p q n : Int} {l m : Int × Int} (h : IsUp p q n l) (k : IsUp p q n m) : l = m := by
  have a := h.best m.1 m.2 k.pos k.le k.on
  have b := k.best l.1 l.2 h.pos h.le h.on
  exact lowest_one (by omega) h.pos k.pos h.cop k.cop
theorem mul_le_r {a b c : Int} (h : a ≤ b) (hc : 0 ≤ c) : a * c ≤ b * c := Int.mul_le_mul_of_nonneg_right h hc
theorem mul_lt_r {a b c : Int} (h : a < b) (hc : 0 < c) : a * c < b * c := Int.mul_lt_mul_of_pos_right h hc
/-- a / b, c / d next to one another, p / q strictly between, all bottoms to n -/
structure Next (p q n a b c d : Int) : Prop where
  det : c * b - a * d = 1
  b0 : 0 < b
  d0 : 0 < d
  bn : b ≤ n
  dn : d ≤ n
  lo : a * q < p * b
  up : p * d < c * q
theorem det_cop {a b c d : Int} (h : c * b - a * d = 1) : Int.gcd a b = 1 ∧ Int.gcd c d = 1 := by
  constructor
  · rw [Int.gcd_eq_one_iff]
    intro k h1 h2
    rw [← h]
    exact Int.dvd_sub (Int.dvd_trans h2 (Int.dvd_mul_left ..)) (Int.dvd_trans h1 (Int.dvd_mul_right ..))
  · rw [Int.gcd_eq_one_iff]
    intro k h1 h2
    rw [← h]
    exact Int.dvd_sub (Int.dvd_trans h1 (Int.dvd_mul_right ..)) (Int.dvd_trans h2 (Int.dvd_mul_left ..))
theorem Next.low {p q n a b c d : Int} (N : Next p q n a b c d) (hq : 0 < q) (h : n < b + d) : IsLow p q n (a, b) := by
  obtain ⟨det, b0, d0, bn, dn, lo, up⟩ := N
  refine ⟨b0, bn, (det_cop det).1, Int.le_of_lt lo, fun x y y0 yn hx => ?_⟩
  show x * b ≤ a * y
  by_cases hc : x * b ≤ a * y
  · exact hc
  exfalso
  -- x / y < c / d
  have h1 : x * d < c * y := by
    by_cases hd : x * d < c * y
    · exact hd
    exfalso
    have e1 : c * y * q ≤ x * d * q := mul_le_r (by omega) (by omega)
    have e2 : x * q * d ≤ p * y * d := mul_le_r hx (by omega)
    have e3 : p * d * y < c * q * y := mul_lt_r up y0
    have r1 : x * d * q = x * q * d := by rw [Int.mul_assoc, Int.mul_assoc, Int.mul_comm d]
    have r2 : p * y * d = p * d * y := by rw [Int.mul_assoc, Int.mul_assoc, Int.mul_comm y]
    have r3 : c * y * q = c * q * y := by rw [Int.mul_assoc, Int.mul_assoc, Int.mul_comm y]
    omega
  have h2 : 1 * d ≤ (x * b - a * y) * d := mul_le_r (by omega) (by omega)
  have h3 : 1 * b ≤ (c * y - x * d) * b := mul_le_r (by omega) (by omega)
  have e : (x * b - a * y) * d + (c * y - x * d) * b = y * (c * b - a * d) := by grind
  rw [det] at e
  omega
theorem Next.upp {p q n a b c d : Int} (N : Next p q n a b c d) (hq : 0 < q) (h : n < b + d) : IsUp p q n (c, d) := by
  obtain ⟨det, b0, d0, bn, dn, lo, up⟩ := N
  refine ⟨d0, dn, (det_cop det).2, Int.le_of_lt up, fun x y y0 yn hx => ?_⟩
  show c * y ≤ x * d
  by_cases hc : c * y ≤ x * d
  · exact hc
  exfalso
  have h1 : a * y < x * b := by
    by_cases hd : a * y < x * b
    · exact hd
    exfalso
    have e1 : x * b * q ≤ a * y * q := mul_le_r (by omega) (by omega)
    have e2 : p * y * b ≤ x * q * b := mul_le_r hx (by omega)
    have e3 : a * q * y < p * b * y := mul_lt_r lo y0
    have r1 : x * b * q = x * q * b := by rw [Int.mul_assoc, Int.mul_assoc, Int.mul_comm b]
    have r2 : p * y * b = p * b * y := by rw [Int.mul_assoc, Int.mul_assoc, Int.mul_comm y]
    have r3 : a * y * q = a * q * y := by rw [Int.mul_assoc, Int.mul_assoc, Int.mul_comm y]
    omega
  have h2 : 1 * d ≤ (x * b - a * y) * d := mul_le_r (by omega) (by omega)
  have h3 : 1 * b ≤ (c * y - x * d) * b := mul_le_r (by omega) (by omega)
  have e : (x * b - a * y) * d + (c * y - x * d) * b = y * (c * b - a * d) := by grind
  rw [det] at e
  omega
theorem low_self {p q n : Int} (hq : 0 < q) (hn : q ≤ n) (hc : Int.gcd p q = 1) : IsLow p q n (p, q) := ⟨hq, hn, hc, Int.le_refl _, fun x y y0 yn h => h⟩
theorem up_self {p q n : Int} (hq : 0 < q) (hn : q ≤ n) (hc : Int.gcd p q = 1) : IsUp p q n (p, q) := ⟨hq, hn, hc, Int.le_refl _, fun x y y0 yn h => h⟩
/-- p / q is none of a lesser bottom -/
theorem not_on {p q a b : Int} (hc : Int.gcd p q = 1) (h0 : 0 < b) (hb : b < q) : a * q ≠ p * b := fun e => by
  have h1 : q ∣ p * b := ⟨a, by rw [← e, Int.mul_comm]⟩
  have h2 : q ∣ b := by
    have := Int.gcd_mul_right p b q
    rw [hc, Nat.one_mul] at this
    have h3 : q ∣ (Int.gcd (p * b) (q * b) : Int) := Int.dvd_coe_gcd h1 (Int.dvd_mul_right ..)
    rw [this] at h3
    exact Int.dvd_natAbs.mp h3
  have := Int.le_of_dvd h0 h2
  omega
/-- how often the other one is added -/
def often (dm d_o n bm bo : Int) : Int := if (n - bm) / bo < dm / d_o then (n - bm) / bo else dm / d_o
theorem often_le1 (dm d_o n bm bo : Int) : often dm d_o n bm bo ≤ dm / d_o := by unfold often; split <;> omega
theorem often_le2 (dm d_o n bm bo : Int) : often dm d_o n bm bo ≤ (n - bm) / bo := by unfold often; split <;> omega
theorem often_nn {dm d_o n bm bo : Int} (h0 : 0 ≤ dm) (h1 : 0 < d_o) (h2 : bm ≤ n) (h3 : 0 < bo) : 0 ≤ often dm d_o n bm bo := by
  have a := Int.ediv_nonneg h0 (Int.le_of_lt h1)
  have b := Int.ediv_nonneg (show 0 ≤ n - bm by omega) (Int.le_of_lt h3)
  unfold often; split <;> omega
theorem often_mul {dm d_o n bm bo : Int} (h0 : 0 ≤ dm) (h1 : 0 < d_o) (h2 : bm ≤ n) (h3 : 0 < bo) : often dm d_o n bm bo * d_o ≤ dm ∧ often dm d_o n bm bo * bo ≤ n - bm := by
  have a := mul_le_r (often_le1 dm d_o n bm bo) (Int.le_of_lt h1)
  have b := mul_le_r (often_le2 dm d_o n bm bo) (Int.le_of_lt h3)
  have c := Int.ediv_mul_le dm (show d_o ≠ 0 by omega)
  have d := Int.ediv_mul_le (n - bm) (show bo ≠ 0 by omega)
  omega
theorem often_pos {dm d_o n bm bo : Int} (h1 : 0 < d_o) (h : d_o ≤ dm) (h3 : 0 < bo) (h4 : bo ≤ n - bm) : 1 ≤ often dm d_o n bm bo := by
  have a : 1 ≤ dm / d_o := by rw [Int.le_ediv_iff_mul_le h1]; omega
  have b : 1 ≤ (n - bm) / bo := by rw [Int.le_ediv_iff_mul_le h3]; omega
  unfold often; split <;> omega
/-- the lower one moved -/
theorem Next.mvL {p q n a b c d k : Int} (N : Next p q n a b c d) (hc : Int.gcd p q = 1) (hn : n < q) (hk : k = often (p * b - a * q) (c * q - p * d) n b d) : Next p q n (a + k * c) (b + k * d) c d ∧ 0 ≤ k ∧ (c * q - p * d ≤ p * b - a * q → b + d ≤ n → 1 ≤ k) := by
  obtain ⟨det, b0, d0, bn, dn, lo, up⟩ := N
  have k0 : 0 ≤ k := hk ▸ often_nn (by omega) (by omega) bn d0
  have km := often_mul (dm := p * b - a * q) (d_o := c * q - p * d) (n := n) (bm := b) (bo := d) (by omega) (by omega) bn d0
  rw [← hk] at km
  have kd : 0 ≤ k * d := Int.mul_nonneg k0 (by omega)
  have hne : (a + k * c) * q ≠ p * (b + k * d) := not_on hc (by omega) (by omega)
  refine ⟨⟨by grind, by omega, d0, by omega, dn, ?_, up⟩, k0, fun h1 h2 => hk ▸ often_pos (by omega) h1 d0 (by omega)⟩
  have e : p * (b + k * d) - (a + k * c) * q = (p * b - a * q) - k * (c * q - p * d) := by grind
  omega
theorem Next.mvU {p q n a b c d k : Int} (N : Next p q n a b c d) (hc : Int.gcd p q = 1) (hn : n < q) (hk : k = often (c * q - p * d) (p * b - a * q) n d b) : Next p q n a b (c + k * a) (d + k * b) ∧ 0 ≤ k ∧ (p * b - a * q ≤ c * q - p * d → b + d ≤ n → 1 ≤ k) := by
  obtain ⟨det, b0, d0, bn, dn, lo, up⟩ := N
  have k0 : 0 ≤ k := hk ▸ often_nn (by omega) (by omega) dn b0
  have km := often_mul (dm := c * q - p * d) (d_o := p * b - a * q) (n := n) (bm := d) (bo := b) (by omega) (by omega) dn b0
  rw [← hk] at km
  have kd : 0 ≤ k * b := Int.mul_nonneg k0 (by omega)
  have hne : (c + k * a) * q ≠ p * (d + k * b) := not_on hc (by omega) (by omega)
  refine ⟨⟨by grind, b0, by omega, bn, by omega, lo, ?_⟩, k0, fun h1 h2 => hk ▸ often_pos (by omega) h1 b0 (by omega)⟩
  have e : (c + k * a) * q - p * (d + k * b) = (c * q - p * d) - k * (p * b - a * q) := by grind
  omega
/-- at first -/
theorem Next.first {p q n : Int} (hq : 0 < q) (hc : Int.gcd p q = 1) (hn : n < q) (n1 : 1 ≤ n) : Next p q n (p / q) 1 (p / q + 1) 1 := by
  have h := Int.mul_ediv_add_emod p q
  have h0 := Int.emod_nonneg p (show q ≠ 0 by omega)
  have h1 := Int.emod_lt_of_pos p hq
  have hne : (p / q) * q ≠ p * 1 := not_on hc (by omega) (by omega)
  have e : (p / q + 1) * q = p / q * q + q := by grind
  have e2 : q * (p / q) = p / q * q := Int.mul_comm ..
  refine ⟨by omega, by omega, by omega, by omega, by omega, by omega, by omega⟩
/-- brought to lowest terms -/
theorem low_terms {a b : Int} (hb : 0 < b) : Int.gcd (a / (Int.gcd a b : Int)) (b / (Int.gcd a b : Int)) = 1 ∧ 0 < b / (Int.gcd a b : Int) ∧ a / (Int.gcd a b : Int) * b = a * (b / (Int.gcd a b : Int)) ∧ b / (Int.gcd a b : Int) ≤ b := by
  have g0 : 0 < Int.gcd a b := Int.gcd_pos_of_ne_zero_right a (by omega)
  have d1 := Int.gcd_dvd_left a b
  have d2 := Int.gcd_dvd_right a b
  refine ⟨Int.gcd_ediv_gcd_ediv_gcd g0, ?_, ?_, ?_⟩
  · rw [Int.lt_ediv_iff_mul_lt (by omega) d2]; omega
  · obtain ⟨x, hx⟩ := d1
    obtain ⟨y, hy⟩ := d2
    generalize hg : (Int.gcd a b : Int) = g at *
    rw [hx, Int.mul_ediv_cancel_left _ (by omega), hy, Int.mul_ediv_cancel_left _ (by omega)]
    grind
  · exact Int.ediv_le_self _ (by omega)
theorem mul_nat {a b c d : Int} (h1 : a.natAbs ≤ c.natAbs) (h2 : b.natAbs ≤ d.natAbs) : (a * b).natAbs ≤ (c * d).natAbs := by
  rw [Int.natAbs_mul, Int.natAbs_mul]; exact Nat.mul_le_mul h1 h2
/-- how great the tops are -/
theorem Next.small {p q n a b c d : Int} (N : Next p q n a b c d) (hq : 0 < q) : a.natAbs ≤ p.natAbs * n.natAbs + 1 ∧ c.natAbs ≤ p.natAbs * n.natAbs + 1 := by
  obtain ⟨det, b0, d0, bn, dn, lo, up⟩ := N
  have pb : (p * b).natAbs ≤ p.natAbs * n.natAbs := by rw [Int.natAbs_mul]; exact Nat.mul_le_mul_left _ (by omega)
  have pd : (p * d).natAbs ≤ p.natAbs * n.natAbs := by rw [Int.natAbs_mul]; exact Nat.mul_le_mul_left _ (by omega)
  generalize p.natAbs * n.natAbs = M at pb pd ⊢
  -- a q > p b - q, c q < p d + q
  have h1 : p * b - q ≤ a * q := by
    by_cases h : p * b - q ≤ a * q
    · exact h
    exfalso
    have e1 : (a * q + 1) * d ≤ (p * b - q) * d := mul_le_r (by omega) (by omega)
    have e2 : p * d * b ≤ c * q * b := mul_le_r (by omega) (by omega)
    have e3 : (a * q + 1) * d = a * d * q + d := by grind
    have e4 : (p * b - q) * d = p * d * b - q * d := by grind
    have e5 : c * q * b = a * d * q + q := by
      have : c * b = a * d + 1 := by omega
      grind
    have e6 : q * 1 ≤ q * d := Int.mul_le_mul_of_nonneg_left (by omega) (by omega)
    omega
  have h2 : c * q ≤ p * d + q := by
    by_cases h : c * q ≤ p * d + q
    · exact h
    exfalso
    have e1 : (p * d + q) * b ≤ (c * q - 1) * b := mul_le_r (by omega) (by omega)
    have e2 : a * q * d ≤ p * b * d := mul_le_r (by omega) (by omega)
    have e3 : (c * q - 1) * b = c * b * q - b := by grind
    have e4 : (p * d + q) * b = p * b * d + q * b := by grind
    have e5 : c * b * q = a * q * d + q := by
      have : c * b = a * d + 1 := by omega
      grind
    have e6 : q * 1 ≤ q * b := Int.mul_le_mul_of_nonneg_left (by omega) (by omega)
    omega
  have key : ∀ x y : Int, x * q ≤ y + q → y - q ≤ x * q → x.natAbs ≤ y.natAbs + 1 := fun x y g1 g2 => by
    have f1 : ∀ z : Int, 0 ≤ z → z * 1 ≤ z * q := fun z hz => Int.mul_le_mul_of_nonneg_left (by omega) hz
    rcases Int.le_total x 0 with h | h
    · by_cases hx : x = 0
      · omega
      · have g := f1 (-x - 1) (by omega)
        have g3 : (-x - 1) * q = -(x * q) - q := by grind
        omega
    · by_cases hx : x = 0
      · omega
      · have g := f1 (x - 1) (by omega)
        have g3 : (x - 1) * q = x * q - q := by grind
        omega
  have k1 := key a (p * b) (by omega) (by omega)
  have k2 := key c (p * d) (by omega) (by omega)
  omega
end KA
namespace KA
open PySem PySem.Spec PyProof.Rows L2 DP
def SzQ (n : Nat) (s : Pr) : Prop := s.1.natAbs < 2 ^ n ∧ s.2.natAbs < 2 ^ n
theorem dp_two {K : PySem.W.Frag} {H : Hp} {q : Addr} {a b : Int} (h : H q = some (.tup [.int a, .int b])) : Dp K H (.ref q) (encP (a, b)) := .tup (SqT.of h) (.cons (.int _) (.cons (.int _) .nil))
def enc2 (l u : Pr) : PyData := .tuple [encP l, encP u]
theorem dp_both {K : PySem.W.Frag} {H : Hp} {v : V} {l u : Pr} (h : Dp K H v (enc2 l u)) : ∃ a x y, v = .ref a ∧ SqT K H a [x, y] ∧ Dp K H x (encP l) ∧ Dp K H y (encP u) := by
  have h' : Dp K H v (.tuple [encP l, encP u]) := h
  cases h' with
  | tup s a =>
    cases a with
    | cons a1 a =>
      cases a with
      | cons a2 a =>
        cases a
        exact ⟨_, _, _, rfl, s, a1, a2⟩
/-- twice the distance of two fractions -/
def dist (o f : Pr) : Int := ((f.1 * o.2 - o.1 * f.2).natAbs : Int)
def spDist (K : PySem.W.Frag) : Sp := fun vs H Q _ => ∃ (v u : V) (o f : Pr), vs = [v, u] ∧ Dp K H v (encP o) ∧ Dp K H u (encP f) ∧ SzQ 400 o ∧ SzQ 400 f ∧ Q (.int (dist o f)) H
def nearK (m o f : Pr) (n : Int) : Int := often (dist m f) (dist o f) n m.2 o.2
def spNearer (K : PySem.W.Frag) : Sp := fun vs H Q _ => ∃ (v u z : V) (m o f : Pr) (n : Int), vs = [v, u, z, .int n] ∧ Dp K H v (encP m) ∧ Dp K H u (encP o) ∧ Dp K H z (encP f) ∧ SzQ 400 m ∧ SzQ 400 o ∧ SzQ 400 f ∧ n.natAbs < 2 ^ 400 ∧ 0 < dist o f ∧ 0 < o.2 ∧
  ∀ H' r, Same H H' → Dp K H' r (encP (m.1 + nearK m o f n * o.1, m.2 + nearK m o f n * o.2)) → Q r H'
def spNeigh (K : PySem.W.Frag) : Sp := fun vs H Q _ => ∃ (v : V) (p q n : Int), vs = [v, .int n] ∧ Dp K H v (encP (p, q)) ∧ 0 < q ∧ Int.gcd p q = 1 ∧ p.natAbs < 2 ^ 250 ∧ q.natAbs < 2 ^ 250 ∧ 1 ≤ n ∧ n.natAbs < 2 ^ 30 ∧
  ∀ H' r lo up, Same H H' → Dp K H' r (enc2 lo up) → IsLow p q n lo → IsUp p q n up → (n < q → Next p q n lo.1 lo.2 up.1 up.2 ∧ n < lo.2 + up.2) → (q ≤ n → lo = (p, q) ∧ up = (p, q)) → Q r H'
def spDivisor : Sp := fun vs H Q _ => ∃ (a b : Int), vs = [.int a, .int b] ∧ 0 < b ∧ Q (.int (Int.gcd a b : Int)) H
def lowT (a b : Int) : Pr := (a / (Int.gcd a b : Int), b / (Int.gcd a b : Int))
def spLowest (K : PySem.W.Frag) : Sp := fun vs H Q _ => ∃ (a b : Int), vs = [.int a, .int b] ∧ 0 < b ∧ b.natAbs < 2 ^ 1000 ∧ ∀ H' r, Same H H' → Dp K H' r (encP (lowT a b)) → Q r H'
def belowB (a b : Pr) : Bool := decide (a.1 * b.2 < b.1 * a.2)
def spBelowF (K : PySem.W.Frag) : Sp := fun vs H Q _ => ∃ (v u : V) (a b : Pr), vs = [v, u] ∧ Dp K H v (encP a) ∧ Dp K H u (encP b) ∧ SzQ 1000 a ∧ SzQ 1000 b ∧ Q (.bl (belowB a b)) H
theorem dist_pos {a b c d : Int} (h : a * d < c * b) : dist (a, b) (c, d) = c * b - a * d ∧ dist (c, d) (a, b) = c * b - a * d := by
  unfold dist
  constructor
  · show ((c * b - a * d).natAbs : Int) = _
    omega
  · show ((a * d - c * b).natAbs : Int) = _
    omega
section
variable {P : Program} {w : World} {K : PySem.W.Frag} {mg : Str → Option Value} {base : Heap} {Z : Ad}
theorem ok_distance (T : Tx K w mg Z) : FnOk P w K mg base CX0 1 Z.a_distance Z.d_distance P_distance (spDist K) := by
  refine T.F_distance.ok scdistance (fun vs H Q E h => ?_) (fun cdv A outer s H vs Q E hr h => ?_)
  · obtain ⟨v, u, o, f, rfl, _⟩ := h
    rfl
  · obtain ⟨v, u, o, f, rfl, hv, hu, so, sf, k⟩ := h
    obtain ⟨a, rfl, ha⟩ := dp_pair hv
    obtain ⟨b, rfl, hb⟩ := dp_pair hu
    refine ⟨_, (pss_one (ps_ret (pe_callB call_abs (by rfl) T.b_abs (by decide +kernel) (pa_cons (pe_op op_sub (pe_op op_mulW (pe_ix (ixT (K := K)) (pv 1) pe_int (fun _ _ => rfl)) (pe_ix (ixT (K := K)) (pv 0) pe_int (fun _ _ => rfl))) (pe_op op_mulW (pe_ix (ixT (K := K)) (pv 0) pe_int (fun _ _ => rfl)) (pe_ix (ixT (K := K)) (pv 1) pe_int (fun _ _ => rfl)))) pa_nil)))), ?_⟩
    refine ⟨_, rfl, _, _, _, _, rfl, rfl, hb, rfl, _, rfl, _, _, _, _, rfl, rfl, ha, rfl, _, _, rfl, rfl, wide_mul sf.1 so.2 (by decide) (by decide) (by decide), _, rfl, _, _, _, _, rfl, rfl, ha, rfl, _, rfl, _, _, _, _, rfl, rfl, hb, rfl, _, _, rfl, rfl, wide_mul so.1 sf.2 (by decide) (by decide) (by decide), _, _, rfl, rfl, _, rfl, ?_⟩
    have e : (if f.1 * o.2 - o.1 * f.2 < 0 then -(f.1 * o.2 - o.1 * f.2) else f.1 * o.2 - o.1 * f.2) = dist o f := by
      unfold dist
      generalize f.1 * o.2 - o.1 * f.2 = x
      split <;> omega
    rw [e]
    exact k
theorem ok_nearer (T : Tx K w mg Z) : FnOk P w K mg base CX0 2 Z.a_nearer Z.d_nearer P_nearer (spNearer K) := by
  refine T.F_nearer.ok scnearer (fun vs H Q E h => ?_) (fun cdv A outer s H vs Q E hr h => ?_)
  · obtain ⟨v, u, z, m, o, f, n, rfl, _⟩ := h
    rfl
  · obtain ⟨v, u, z, m, o, f, n, rfl, hv, hu, hz, sm, so, sf, hn, hd, ho, k⟩ := h
    obtain ⟨a, rfl, ha⟩ := dp_pair hv
    obtain ⟨b, rfl, hb⟩ := dp_pair hu
    have dB : ∀ a b : Pr, SzQ 400 a → SzQ 400 b → (dist a b).natAbs < 2 ^ 802 := fun a b h1 h2 => by
      have e1 := sub_lt (lt_up (wide_lt h2.1 h1.2) (by decide : 400 + 400 ≤ 801)) (lt_up (wide_lt h1.1 h2.2) (by decide : 400 + 400 ≤ 801))
      unfold dist
      rw [Int.natAbs_natCast]
      exact e1
    refine ⟨_, (pss_cons (ps_set (i := 4) scnearer.nd rfl (Or.inl rfl) (pe_op op_fdivW (pe_call (ok_distance T) (hr.mono (by decide)) (by rfl) T.g_distance T.F_distance.kp T.bb_distance .nil pass0 (pa_cons (pv 0) (pa_cons (pv 2) pa_nil))) (pe_call (ok_distance T) (hr.mono (by decide)) (by rfl) T.g_distance T.F_distance.kp T.bb_distance .nil pass0 (pa_cons (pv 1) (pa_cons (pv 2) pa_nil)))))
      (pss_cons (ps_set (i := 4) scnearer.nd rfl (Or.inl rfl) (pe_callB (call_min2 rfl) (by rfl) T.b_min (by decide +kernel) (pa_cons (pv 4) (pa_cons (pe_op op_fdivW (pe_op op_sub (pv 3) (pe_ix (ixT (K := K)) (pv 0) pe_int (fun _ _ => rfl))) (pe_ix (ixT (K := K)) (pv 1) pe_int (fun _ _ => rfl))) pa_nil))))
      (pss_one (ps_ret (pe_tup (pa_cons (pe_op op_add (pe_ix (ixT (K := K)) (pv 0) pe_int (fun _ _ => rfl)) (pe_op op_mulW (pv 4) (pe_ix (ixT (K := K)) (pv 1) pe_int (fun _ _ => rfl)))) (pa_cons (pe_op op_add (pe_ix (ixT (K := K)) (pv 0) pe_int (fun _ _ => rfl)) (pe_op op_mulW (pv 4) (pe_ix (ixT (K := K)) (pv 1) pe_int (fun _ _ => rfl)))) pa_nil))))))), ?_⟩
    refine ⟨_, rfl, _, rfl, _, _, m, f, rfl, hv, hz, sm, sf, _, rfl, _, rfl, _, _, o, f, rfl, hu, hz, so, sf, _, _, rfl, rfl, wide_div hd (dB o f so sf) (by decide) (by decide), ?_⟩
    refine ⟨_, rfl, _, rfl, _, rfl, _, _, _, _, rfl, rfl, ha, rfl, _, _, rfl, rfl, _, rfl, _, _, _, _, rfl, rfl, hb, rfl, _, _, rfl, rfl, wide_div ho so.2 (by decide) (by decide), _, _, rfl, ?_⟩
    have e : (if (n - m.2) / o.2 < dist m f / dist o f then (n - m.2) / o.2 else dist m f / dist o f) = nearK m o f n := rfl
    have hk : (nearK m o f n).natAbs < 2 ^ 803 := by
      have h1 : (dist m f / dist o f).natAbs < 2 ^ 803 := div_lt hd (dB m f sm sf)
      have h2 : ((n - m.2) / o.2).natAbs < 2 ^ 803 := lt_up (div_lt ho (sub_lt hn sm.2)) (by decide)
      rw [← e]
      split
      · exact h2
      · exact h1
    rw [e]
    generalize nearK m o f n = kk at hk k ⊢
    refine ⟨_, rfl, _, _, _, _, rfl, rfl, ha, rfl, _, rfl, _, rfl, _, _, _, _, rfl, rfl, hb, rfl, _, _, rfl, rfl, wide_mul hk so.1 (by decide) (by decide) (by decide), _, _, rfl, rfl, _, rfl, _, _, _, _, rfl, rfl, ha, rfl, _, rfl, _, rfl, _, _, _, _, rfl, rfl, hb, rfl, _, _, rfl, rfl, wide_mul hk so.2 (by decide) (by decide) (by decide), _, _, rfl, rfl, (by show 2 ≤ sizeLine; decide), fun q hq => ?_⟩
    exact k _ _ (same_upd hq) (dp_two upd_same)
theorem ok_neighbours (T : Tx K w mg Z) : FnOk P w K mg base CX0 3 Z.a_neighbours Z.d_neighbours P_neighbours (spNeigh K) := by
  refine T.F_neighbours.ok scneighbours (fun vs H Q E h => ?_) (fun cdv A outer s H vs Q E hr h => ?_)
  · obtain ⟨v, p, q, n, rfl, _⟩ := h
    rfl
  · obtain ⟨v, p, q, n, rfl, hv, hq, hc, hpb, hqb, hn1, hnb, k⟩ := h
    obtain ⟨a, rfl, ha⟩ := dp_pair hv
    refine ⟨_, (C8.pss_cut (ps_if (pt_cmpR op_lt (pv 1) pe_int (nomark _)) (pss_one ps_never) pss_nil)
      (pss_cons (ps_asg (pv 0) (tupK (K := K) (by rfl) (pgs_cons (pg_name (i := 2) scneighbours.nd rfl (Or.inl rfl)) (pgs_cons (pg_name (i := 3) scneighbours.nd rfl (Or.inl rfl)) pgs_nil))))
      (C8.pss_cut (ps_if (pt_cmpR op_le (pv 3) (pv 1) (nomark _)) (pss_one (ps_ret (pe_tup (pa_cons (pe_tup (pa_cons (pv 2) (pa_cons (pv 3) pa_nil))) (pa_cons (pe_tup (pa_cons (pv 2) (pa_cons (pv 3) pa_nil))) pa_nil))))) pss_nil)
      (pss_cons (ps_set (i := 4) scneighbours.nd rfl (Or.inl rfl) (pe_tup (pa_cons (pe_op op_fdivW (pv 2) (pv 3)) (pa_cons pe_int pa_nil))))
      (pss_cons (ps_set (i := 5) scneighbours.nd rfl (Or.inl rfl) (pe_tup (pa_cons (pe_op op_add (pe_ix (ixT (K := K)) (pv 4) pe_int (fun _ _ => rfl)) pe_int) (pa_cons pe_int pa_nil))))
      (C8.pss_cut (ps_while PassesOwn.never (pt_cmpR op_le (pe_op op_add (pe_ix (ixT (K := K)) (pv 4) pe_int (fun _ _ => rfl)) (pe_ix (ixT (K := K)) (pv 5) pe_int (fun _ _ => rfl))) (pv 1) (nomark _)) (pss_cons (ps_set (i := 4) scneighbours.nd rfl (Or.inl rfl) (pe_call (ok_nearer T) (hr.mono (by decide)) (by rfl) T.g_nearer T.F_nearer.kp T.bb_nearer .nil pass0 (pa_cons (pv 4) (pa_cons (pv 5) (pa_cons (pv 0) (pa_cons (pv 1) pa_nil))))))
      (pss_one (ps_set (i := 5) scneighbours.nd rfl (Or.inl rfl) (pe_call (ok_nearer T) (hr.mono (by decide)) (by rfl) T.g_nearer T.F_nearer.kp T.bb_nearer .nil pass0 (pa_cons (pv 5) (pa_cons (pv 4) (pa_cons (pv 0) (pa_cons (pv 1) pa_nil)))))))))
      (pss_one (ps_ret (pe_tup (pa_cons (pv 4) (pa_cons (pv 5) pa_nil))))))))))), ?_⟩
    refine ⟨fun σ' H' => σ' = [some (.ref a), some (.int n), none, none, none, none] ∧ H' = H, ?_, ?_⟩
    · exact ⟨_, rfl, _, _, rfl, rfl, _, rfl, ite2 (fun c => (by have c' := of_decide_eq_true c; omega : False)) (fun _ => ⟨rfl, rfl⟩)⟩
    rintro σ1 H1 ⟨rfl, rfl⟩
    refine ⟨_, rfl, _, _, rfl, ha, rfl, _, _, rfl, _, _, rfl, rfl, ?_⟩
    refine ⟨fun σ' H' => σ' = [some (.ref a), some (.int n), some (.int p), some (.int q), none, none] ∧ H' = H1 ∧ n < q, ?_, ?_⟩
    · refine ⟨_, rfl, _, rfl, _, _, rfl, rfl, _, rfl, ite2 (fun c => ?_) (fun c => ⟨rfl, rfl, ?_⟩)⟩
      · have c' : q ≤ n := of_decide_eq_true c
        refine ⟨_, rfl, _, rfl, (by show 2 ≤ sizeLine; decide), fun q1 hq1 => ⟨_, rfl, _, rfl, (by show 2 ≤ sizeLine; decide), fun q2 hq2 => ⟨(by show 2 ≤ sizeLine; decide), fun q3 hq3 => ?_⟩⟩⟩
        have S1 := same_upd (o := HO.tup [V.int p, .int q]) hq1
        have S2 := same_upd (o := HO.tup [V.int p, .int q]) hq2
        have S3 := same_upd (o := HO.tup [V.ref q1, .ref q2]) hq3
        exact k _ _ (p, q) (p, q) ((S1.trans S2).trans S3) (.tup (SqT.of upd_same) (.cons (dp_two (S3 _ _ (S2 _ _ upd_same))) (.cons (dp_two (S3 _ _ upd_same)) .nil))) (low_self hq c' hc) (up_self hq c' hc) (fun h => by omega) (fun _ => ⟨rfl, rfl⟩)
      · have c' : ¬ q ≤ n := fun h => c (decide_eq_true h)
        omega
    rintro σ2 H2 ⟨rfl, rfl, hnq⟩
    refine ⟨_, rfl, _, rfl, _, _, rfl, rfl, wide_div hq hqb (by decide) (by decide), (by show 2 ≤ sizeLine; decide), fun q1 hq1 => ?_⟩
    have S1 := same_upd (o := HO.tup [V.int (p / q), .int 1]) hq1
    have hd1 : Dp K (upd H2 q1 (.tup [V.int (p / q), .int 1])) (.ref q1) (encP (p / q, 1)) := dp_two upd_same
    refine ⟨_, rfl, _, _, _, _, rfl, rfl, SqT.of upd_same, rfl, _, _, rfl, rfl, (by show 2 ≤ sizeLine; decide), fun q2 hq2 => ?_⟩
    have S2 := same_upd (o := HO.tup [V.int (p / q + 1), .int 1]) hq2
    have hd2 : Dp K (upd (upd H2 q1 (.tup [V.int (p / q), .int 1])) q2 (.tup [V.int (p / q + 1), .int 1])) (.ref q2) (encP (p / q + 1, 1)) := dp_two upd_same
    have hd1' := dp_mono S2 _ _ hd1
    have S3 := S1.trans S2
    generalize upd (upd H2 q1 (.tup [V.int (p / q), .int 1])) q2 (.tup [V.int (p / q + 1), .int 1]) = H3 at hd1' hd2 S3 ⊢
    refine ⟨fun σ' H' => ∃ (x y : V) (la lb ua ub : Int), σ' = [some (.ref a), some (.int n), some (.int p), some (.int q), some x, some y] ∧ Same H2 H' ∧ Dp K H' x (encP (la, lb)) ∧ Dp K H' y (encP (ua, ub)) ∧ Next p q n la lb ua ub ∧ n < lb + ub, ?_, ?_⟩
    · refine ⟨fun m σ' H' => ∃ (x y : V) (la lb ua ub : Int), σ' = [some (.ref a), some (.int n), some (.int p), some (.int q), some x, some y] ∧ Same H2 H' ∧ Dp K H' x (encP (la, lb)) ∧ Dp K H' y (encP (ua, ub)) ∧ Next p q n la lb ua ub ∧ m = (2 * n - lb - ub).toNat, ⟨_, _, _, p / q, 1, p / q + 1, 1, rfl, S3, hd1', hd2, Next.first hq hc hnq hn1, rfl⟩, ?_⟩
      rintro m σ' H4 ⟨x, y, la, lb, ua, ub, rfl, S4, hx, hy, N, rfl⟩
      obtain ⟨xa, rfl, hxa⟩ := dp_pair hx
      obtain ⟨ya, rfl, hya⟩ := dp_pair hy
      refine ⟨_, rfl, _, _, _, _, rfl, rfl, hxa, rfl, _, rfl, _, _, _, _, rfl, rfl, hya, rfl, _, _, rfl, rfl, _, rfl, _, _, rfl, rfl, _, rfl, ?_⟩
      refine ite2 (fun c => ⟨fun σ' H' => ∃ m', m' < (2 * n - lb - ub).toNat ∧ ∃ (x y : V) (la lb ua ub : Int), σ' = [some (.ref a), some (.int n), some (.int p), some (.int q), some x, some y] ∧ Same H2 H' ∧ Dp K H' x (encP (la, lb)) ∧ Dp K H' y (encP (ua, ub)) ∧ Next p q n la lb ua ub ∧ m' = (2 * n - lb - ub).toNat, fun _ _ h => h, ?_⟩) (fun c => ?_)
      · have c' : lb + ub ≤ n := of_decide_eq_true c
        have bd : ∀ {a b c d : Int}, Next p q n a b c d → SzQ 400 (a, b) ∧ SzQ 400 (c, d) := fun {a b c d} N => by
          obtain ⟨s1, s2⟩ := N.small hq
          have e1 : p.natAbs * n.natAbs < 2 ^ 250 * 2 ^ 30 := Nat.mul_lt_mul'' hpb hnb
          have e2 : (2 : Nat) ^ 250 * 2 ^ 30 + 1 < 2 ^ 400 := by decide
          have e3 : (2 : Nat) ^ 30 < 2 ^ 400 := by decide
          have := N.bn; have := N.dn; have := N.b0; have := N.d0
          refine ⟨⟨?_, ?_⟩, ⟨?_, ?_⟩⟩
          · show a.natAbs < 2 ^ 400
            generalize (2 : Nat) ^ 400 = B at e2 ⊢
            omega
          · show b.natAbs < 2 ^ 400
            generalize (2 : Nat) ^ 400 = B at e3 ⊢
            omega
          · show c.natAbs < 2 ^ 400
            generalize (2 : Nat) ^ 400 = B at e2 ⊢
            omega
          · show d.natAbs < 2 ^ 400
            generalize (2 : Nat) ^ 400 = B at e3 ⊢
            omega
        have sf : SzQ 400 (p, q) := ⟨lt_up hpb (by decide), lt_up hqb (by decide)⟩
        have hn4 : n.natAbs < 2 ^ 400 := lt_up hnb (by decide)
        have hv4 := dp_mono S4 _ _ hv
        obtain ⟨d1, d1'⟩ := dist_pos N.lo
        obtain ⟨d2, d2'⟩ := dist_pos (a := p) (b := q) (c := ua) (d := ub) N.up
        obtain ⟨NL, kL0, kL1⟩ := N.mvL hc hnq rfl
        have eK : nearK (la, lb) (ua, ub) (p, q) n = often (p * lb - la * q) (ua * q - p * ub) n lb ub := by
          unfold nearK
          rw [d1, d2']
        refine ⟨_, rfl, _, rfl, _, rfl, _, rfl, _, _, _, (la, lb), (ua, ub), (p, q), n, rfl, hx, hy, hv4, (bd N).1, (bd N).2, sf, hn4, by rw [d2']; have := N.up; omega, N.d0, fun H5 r S5 hr5 => ?_⟩
        rw [eK] at hr5
        generalize often (p * lb - la * q) (ua * q - p * ub) n lb ub = kL at hr5 NL kL0 kL1
        obtain ⟨d3, d3'⟩ := dist_pos NL.lo
        obtain ⟨NU, kU0, kU1⟩ := NL.mvU hc hnq rfl
        have eK2 : nearK (ua, ub) (la + kL * ua, lb + kL * ub) (p, q) n = often (ua * q - p * ub) (p * (lb + kL * ub) - (la + kL * ua) * q) n ub (lb + kL * ub) := by
          unfold nearK
          rw [d2', d3]
        refine ⟨_, rfl, _, rfl, _, rfl, _, rfl, _, _, _, (ua, ub), (la + kL * ua, lb + kL * ub), (p, q), n, rfl, dp_mono S5 _ _ hy, hr5, dp_mono S5 _ _ hv4, (bd N).2, (bd NL).1, sf, hn4, by rw [d3]; have := NL.lo; omega, NL.b0, fun H6 r2 S6 hr6 => ?_⟩
        rw [eK2] at hr6
        generalize often (ua * q - p * ub) (p * (lb + kL * ub) - (la + kL * ua) * q) n ub (lb + kL * ub) = kU at hr6 NU kU0 kU1
        refine ⟨(2 * n - (lb + kL * ub) - (ub + kU * (lb + kL * ub))).toNat, ?_, r, r2, la + kL * ua, lb + kL * ub, ua + kU * (la + kL * ua), ub + kU * (lb + kL * ub), rfl, (S4.trans S5).trans S6, dp_mono S6 _ _ hr5, hr6, NU, rfl⟩
        have g1 : 0 ≤ kL * ub := Int.mul_nonneg kL0 (Int.le_of_lt N.d0)
        have g2 : 0 ≤ kU * (lb + kL * ub) := Int.mul_nonneg kU0 (Int.le_of_lt NL.b0)
        have g3 : 1 ≤ kL * ub ∨ 1 ≤ kU * (lb + kL * ub) := by
          by_cases hcmp : ua * q - p * ub ≤ p * lb - la * q
          · left
            have h1 := kL1 hcmp c'
            have h2 : 1 * ub ≤ kL * ub := mul_le_r h1 (Int.le_of_lt N.d0)
            have := N.d0
            omega
          · by_cases hk0 : kL = 0
            · right
              subst hk0
              simp only [Int.zero_mul, Int.add_zero] at kU1
              have h1 := kU1 (by omega) (by omega)
              have h2 : 1 * (lb + 0 * ub) ≤ kU * (lb + 0 * ub) := mul_le_r h1 (Int.le_of_lt NL.b0)
              have := N.b0
              omega
            · left
              have h2 : 1 * ub ≤ kL * ub := mul_le_r (by omega) (Int.le_of_lt N.d0)
              have := N.d0
              omega
        have := NU.bn; have := NU.dn; have := N.bn; have := N.dn
        omega
      · have c' : ¬ lb + ub ≤ n := fun h => c (decide_eq_true h)
        exact ⟨_, _, la, lb, ua, ub, rfl, S4, hx, hy, N, by omega⟩
    rintro σ5 H5 ⟨x, y, la, lb, ua, ub, rfl, S5, hx, hy, N, hs⟩
    refine ⟨_, rfl, _, rfl, (by show 2 ≤ sizeLine; decide), fun q3 hq3 => ?_⟩
    have S6 := same_upd (o := HO.tup [x, y]) hq3
    exact k _ _ (la, lb) (ua, ub) (S5.trans S6) (.tup (SqT.of upd_same) (.cons (dp_mono S6 _ _ hx) (.cons (dp_mono S6 _ _ hy) .nil))) (N.low hq hs) (N.upp hq hs) (fun _ => ⟨N, hs⟩) (fun h => by omega)
theorem ok_law_divisor (T : Tx K w mg Z) : FnOk P w K mg base CX0 1 Z.a_law_divisor Z.d_law_divisor P_law_divisor (spDivisor) := by
  refine T.F_law_divisor.ok sclaw_divisor (fun vs H Q E h => ?_) (fun cdv A outer s H vs Q E hr h => ?_)
  · obtain ⟨a, b, rfl, _⟩ := h
    rfl
  · obtain ⟨a, b, rfl, hb, k⟩ := h
    refine ⟨_, (C8.pss_cut (ps_while PassesOwn.never (pt_cmpR op_ne (pv 1) pe_int (nomark _)) (pss_one (ps_par (i := 0) (j := 1) (by rfl) sclaw_divisor.nd rfl rfl (by decide) rfl rfl (pa_cons (pv 1) (pa_cons (pe_op op_mod (pv 0) (pv 1)) pa_nil)) (by rfl))))
      (pss_one (ps_ret (pe_callB call_abs (by rfl) T.b_abs (by decide +kernel) (pa_cons (pv 0) pa_nil))))), ?_⟩
    refine ⟨fun σ' H' => ∃ x : Int, σ' = [some (.int x), some (.int 0)] ∧ H' = H ∧ Int.gcd a b = x.natAbs, ?_, ?_⟩
    · refine ⟨fun m σ' H' => ∃ x y : Int, σ' = [some (.int x), some (.int y)] ∧ H' = H ∧ 0 ≤ y ∧ Int.gcd x y = Int.gcd a b ∧ m = y.toNat, ⟨_, a, b, rfl, rfl, by omega, rfl, rfl⟩, ?_⟩
      rintro m σ' H1 ⟨x, y, rfl, rfl, hy, hg, rfl⟩
      refine ⟨_, rfl, rfl, _, rfl, ?_⟩
      refine ite2 (fun c => ⟨fun σ' H' => ∃ m', m' < y.toNat ∧ ∃ x y : Int, σ' = [some (.int x), some (.int y)] ∧ H' = H1 ∧ 0 ≤ y ∧ Int.gcd x y = Int.gcd a b ∧ m' = y.toNat, fun _ _ h => h, ?_⟩) (fun c => ?_)
      · have c' : y ≠ 0 := by
          intro e; subst e; simp at c
        have y0 : 0 < y := by omega
        refine ⟨_, rfl, _, rfl, _, rfl, _, _, rfl, rfl, y0, _, _, rfl, ?_⟩
        have m0 := Int.emod_nonneg x (show y ≠ 0 by omega)
        have m1 := Int.emod_lt_of_pos x y0
        refine ⟨_, ?_, y, x % y, rfl, rfl, m0, ?_, rfl⟩
        · omega
        · rw [← hg, Int.emod_def, Int.gcd_sub_mul_left_right, Int.gcd_comm]
      · have c' : y = 0 := by
          by_cases h : y = 0
          · exact h
          · exact absurd (by simp [h]) c
        subst c'
        exact ⟨x, rfl, rfl, by rw [← hg, Int.gcd_zero_right]⟩
    · rintro σ1 H1 ⟨x, rfl, rfl, hx⟩
      refine ⟨_, rfl, _, rfl, ?_⟩
      have e : (if x < 0 then -x else x) = (Int.gcd a b : Int) := by
        rw [hx]; split <;> omega
      rw [e]
      exact k
theorem ok_law_lowest (T : Tx K w mg Z) : FnOk P w K mg base CX0 2 Z.a_law_lowest Z.d_law_lowest P_law_lowest (spLowest K) := by
  refine T.F_law_lowest.ok sclaw_lowest (fun vs H Q E h => ?_) (fun cdv A outer s H vs Q E hr h => ?_)
  · obtain ⟨a, b, rfl, _⟩ := h
    rfl
  · obtain ⟨a, b, rfl, hb, hbb, k⟩ := h
    have g0 : 0 < Int.gcd a b := Int.gcd_pos_of_ne_zero_right a (by omega)
    have g1 : (Int.gcd a b : Int) ≤ b := Int.gcd_le_right a hb
    have g2 : ((Int.gcd a b : Int)).natAbs < 2 ^ 1000 := Nat.lt_of_le_of_lt (by omega) hbb
    refine ⟨_, (pss_cons (ps_set (i := 2) sclaw_lowest.nd rfl (Or.inl rfl) (pe_call (ok_law_divisor T) (hr.mono (by decide)) (by rfl) T.g_law_divisor T.F_law_divisor.kp T.bb_law_divisor .nil pass0 (pa_cons (pv 0) (pa_cons (pv 1) pa_nil))))
      (pss_one (ps_ret (pe_tup (pa_cons (pe_op op_fdivW (pv 0) (pv 2)) (pa_cons (pe_op op_fdivW (pv 1) (pv 2)) pa_nil)))))), ?_⟩
    refine ⟨_, rfl, _, rfl, a, b, rfl, hb, _, rfl, _, rfl, _, _, rfl, rfl, wide_div (by omega) g2 (by decide) (by decide), _, rfl, _, rfl, _, _, rfl, rfl, wide_div (by omega) g2 (by decide) (by decide), (by show 2 ≤ sizeLine; decide), fun q hq => ?_⟩
    exact k _ _ (same_upd hq) (dp_two upd_same)
theorem ok_law_below (T : Tx K w mg Z) : FnOk P w K mg base CX0 1 Z.a_law_below Z.d_law_below P_law_below (spBelowF K) := by
  refine T.F_law_below.ok sclaw_below (fun vs H Q E h => ?_) (fun cdv A outer s H vs Q E hr h => ?_)
  · obtain ⟨v, u, a, b, rfl, _⟩ := h
    rfl
  · obtain ⟨v, u, a, b, rfl, hv, hu, sa, sb, k⟩ := h
    obtain ⟨x, rfl, hx⟩ := dp_pair hv
    obtain ⟨y, rfl, hy⟩ := dp_pair hu
    refine ⟨_, (pss_one (ps_ret (pe_cmpR op_lt (pe_op op_mulW (pe_ix (ixT (K := K)) (pv 0) pe_int (fun _ _ => rfl)) (pe_ix (ixT (K := K)) (pv 1) pe_int (fun _ _ => rfl))) (pe_op op_mulW (pe_ix (ixT (K := K)) (pv 1) pe_int (fun _ _ => rfl)) (pe_ix (ixT (K := K)) (pv 0) pe_int (fun _ _ => rfl))) (nomark _)))), ?_⟩
    exact ⟨_, rfl, _, _, _, _, rfl, rfl, hx, rfl, _, rfl, _, _, _, _, rfl, rfl, hy, rfl, _, _, rfl, rfl, wide_mul sa.1 sb.2 (by decide) (by decide) (by decide), _, rfl, _, _, _, _, rfl, rfl, hy, rfl, _, rfl, _, _, _, _, rfl, rfl, hx, rfl, _, _, rfl, rfl, wide_mul sb.1 sa.2 (by decide) (by decide) (by decide), _, _, rfl, rfl, k⟩
end
end KA
namespace KA
open PySem PySem.Spec PyProof.Rows L2 DP
/-- the nearest of a set of fractions, not above -/
def BestL (p q n : Int) (S : Int → Int → Prop) : Option Pr → Prop
  | none => ∀ x y, 0 < y → ¬ S x y
  | some l => 0 < l.2 ∧ l.2 ≤ n ∧ Int.gcd l.1 l.2 = 1 ∧ l.1 * q ≤ p * l.2 ∧ ∀ x y, 0 < y → S x y → x * l.2 ≤ l.1 * y
def BestU (p q n : Int) (S : Int → Int → Prop) : Option Pr → Prop
  | none => ∀ x y, 0 < y → ¬ S x y
  | some u => 0 < u.2 ∧ u.2 ≤ n ∧ Int.gcd u.1 u.2 = 1 ∧ p * u.2 ≤ u.1 * q ∧ ∀ x y, 0 < y → S x y → u.1 * y ≤ x * u.2
theorem BestL.mono {p q n : Int} {S S' : Int → Int → Prop} (h : ∀ x y, 0 < y → S' x y → S x y) : ∀ {o}, BestL p q n S o → BestL p q n S' o
  | none, b => fun x y y0 s => b x y y0 (h x y y0 s)
  | some _, ⟨a, b, c, d, e⟩ => ⟨a, b, c, d, fun x y y0 s => e x y y0 (h x y y0 s)⟩
theorem BestU.mono {p q n : Int} {S S' : Int → Int → Prop} (h : ∀ x y, 0 < y → S' x y → S x y) : ∀ {o}, BestU p q n S o → BestU p q n S' o
  | none, b => fun x y y0 s => b x y y0 (h x y y0 s)
  | some _, ⟨a, b, c, d, e⟩ => ⟨a, b, c, d, fun x y y0 s => e x y y0 (h x y y0 s)⟩
theorem le_of_mul {a b c : Int} (h : a * c ≤ b * c) (hc : 0 < c) : a ≤ b := Int.le_of_mul_le_mul_right h hc
/-- a candidate that counts, better than what was found, or the first -/
theorem BestL.take {p q n y e : Int} {S : Int → Int → Prop} {o : Option Pr} {a b : Int} (B : BestL p q n S o) (y0 : 0 < y) (yn : y ≤ n) (hb : 0 < b) (hby : b ≤ y) (hc : Int.gcd a b = 1) (he : a * y = e * b) (hon : e * q ≤ p * y)
    (h : ∀ l, o = some l → l.1 * b < a * l.2) : BestL p q n (fun x z => S x z ∨ (z = y ∧ x ≤ e)) (some (a, b)) := by
  refine ⟨hb, Int.le_trans hby yn, hc, ?_, ?_⟩
  · show a * q ≤ p * b
    refine le_of_mul (c := y) ?_ y0
    have h1 := mul_le_r hon (Int.le_of_lt hb)
    grind
  · intro x z z0 hs
    show x * b ≤ a * z
    rcases hs with hs | ⟨rfl, hs⟩
    · cases o with
      | none => exact absurd hs (B x z z0)
      | some l =>
        obtain ⟨l0, _, _, _, lb⟩ := B
        have h1 := mul_le_r (lb x z z0 hs) (Int.le_of_lt hb)
        have h2 := mul_le_r (Int.le_of_lt (h l rfl)) (Int.le_of_lt z0)
        refine le_of_mul (c := l.2) ?_ l0
        have r1 : x * b * l.2 = x * l.2 * b := by grind
        have r2 : a * z * l.2 = a * l.2 * z := by grind
        have r3 : l.1 * z * b = l.1 * b * z := by grind
        omega
    · rw [he]
      exact mul_le_r hs (Int.le_of_lt hb)
/-- a candidate that isn't better -/
theorem BestL.leave {p q n y e : Int} {S : Int → Int → Prop} {l : Pr} {a b : Int} (B : BestL p q n S (some l)) (hb : 0 < b) (he : a * y = e * b) (h : ¬ l.1 * b < a * l.2) : BestL p q n (fun x z => S x z ∨ (z = y ∧ x ≤ e)) (some l) := by
  obtain ⟨l0, l1, l2, l3, lb⟩ := B
  refine ⟨l0, l1, l2, l3, fun x z z0 hs => ?_⟩
  rcases hs with hs | ⟨rfl, hs⟩
  · exact lb x z z0 hs
  · have h1 := mul_le_r hs (Int.le_of_lt hb)
    have h2 := mul_le_r (Int.not_lt.mp h) (Int.le_of_lt z0)
    have h3 := mul_le_r h1 (Int.le_of_lt l0)
    refine le_of_mul (c := b) ?_ hb
    have r1 : x * l.2 * b = x * b * l.2 := by grind
    have r2 : l.1 * z * b = l.1 * b * z := by grind
    have r3 : e * b * l.2 = a * l.2 * z := by grind
    omega
theorem BestU.take {p q n y e : Int} {S : Int → Int → Prop} {o : Option Pr} {a b : Int} (B : BestU p q n S o) (y0 : 0 < y) (yn : y ≤ n) (hb : 0 < b) (hby : b ≤ y) (hc : Int.gcd a b = 1) (he : a * y = e * b) (hon : p * y ≤ e * q)
    (h : ∀ l, o = some l → a * l.2 < l.1 * b) : BestU p q n (fun x z => S x z ∨ (z = y ∧ e ≤ x)) (some (a, b)) := by
  refine ⟨hb, Int.le_trans hby yn, hc, ?_, ?_⟩
  · show p * b ≤ a * q
    refine le_of_mul (c := y) ?_ y0
    have h1 := mul_le_r hon (Int.le_of_lt hb)
    grind
  · intro x z z0 hs
    show a * z ≤ x * b
    rcases hs with hs | ⟨rfl, hs⟩
    · cases o with
      | none => exact absurd hs (B x z z0)
      | some l =>
        obtain ⟨l0, _, _, _, lb⟩ := B
        have h1 := mul_le_r (lb x z z0 hs) (Int.le_of_lt hb)
        have h2 := mul_le_r (Int.le_of_lt (h l rfl)) (Int.le_of_lt z0)
        refine le_of_mul (c := l.2) ?_ l0
        have r1 : x * b * l.2 = x * l.2 * b := by grind
        have r2 : a * z * l.2 = a * l.2 * z := by grind
        have r3 : l.1 * z * b = l.1 * b * z := by grind
        omega
    · rw [he]
      exact mul_le_r hs (Int.le_of_lt hb)
theorem BestU.leave {p q n y e : Int} {S : Int → Int → Prop} {l : Pr} {a b : Int} (B : BestU p q n S (some l)) (hb : 0 < b) (he : a * y = e * b) (h : ¬ a * l.2 < l.1 * b) : BestU p q n (fun x z => S x z ∨ (z = y ∧ e ≤ x)) (some l) := by
  obtain ⟨l0, l1, l2, l3, lb⟩ := B
  refine ⟨l0, l1, l2, l3, fun x z z0 hs => ?_⟩
  rcases hs with hs | ⟨rfl, hs⟩
  · exact lb x z z0 hs
  · have h1 := mul_le_r hs (Int.le_of_lt hb)
    have h2 := mul_le_r (Int.not_lt.mp h) (Int.le_of_lt z0)
    have h3 := mul_le_r h1 (Int.le_of_lt l0)
    refine le_of_mul (c := b) ?_ hb
    have r1 : x * l.2 * b = x * b * l.2 := by grind
    have r2 : l.1 * z * b = l.1 * b * z := by grind
    have r3 : e * b * l.2 = a * l.2 * z := by grind
    omega
/-- those with bottoms up to m, not above -/
def SL (p q m : Int) : Int → Int → Prop := fun x z => z ≤ m ∧ x * q ≤ p * z
def SU (p q m : Int) : Int → Int → Prop := fun x z => z ≤ m ∧ p * z ≤ x * q
theorem SL.next {p q m : Int} (hq : 0 < q) (x z : Int) (h : SL p q (m + 1) x z) : SL p q m x z ∨ (z = m + 1 ∧ x ≤ p * (m + 1) / q) := by
  obtain ⟨h1, h2⟩ := h
  by_cases e : z ≤ m
  · exact .inl ⟨e, h2⟩
  · have e : z = m + 1 := by omega
    subst e
    exact .inr ⟨rfl, (Int.le_ediv_iff_mul_le hq).mpr h2⟩
theorem SU.next {p q m : Int} (hq : 0 < q) (x z : Int) (h : SU p q (m + 1) x z) : SU p q m x z ∨ (z = m + 1 ∧ p * (m + 1) / q ≤ x ∧ (p * (m + 1) ≤ (p * (m + 1) / q) * q ∨ p * (m + 1) / q + 1 ≤ x)) := by
  obtain ⟨h1, h2⟩ := h
  by_cases e : z ≤ m
  · exact .inl ⟨e, h2⟩
  · have e : z = m + 1 := by omega
    subst e
    have h3 : p * (m + 1) / q ≤ x := by
      have := Int.ediv_le_ediv hq h2
      rwa [Int.mul_ediv_cancel _ (by omega)] at this
    refine .inr ⟨rfl, h3, ?_⟩
    by_cases e2 : p * (m + 1) / q = x
    · left
      rw [e2]; exact h2
    · right; omega
theorem BestL.low {p q n : Int} (hq : 0 < q) (h1 : 1 ≤ n) : ∀ {o}, BestL p q n (SL p q n) o → ∃ l, o = some l ∧ IsLow p q n l
  | none, b => absurd (show SL p q n (p / q) 1 from ⟨h1, by have := Int.ediv_mul_le p (show q ≠ 0 by omega); omega⟩) (b _ _ (by decide))
  | some l, ⟨a, b, c, d, e⟩ => ⟨l, rfl, a, b, c, d, fun x y y0 yn h => e x y y0 ⟨yn, h⟩⟩
theorem BestU.upp {p q n : Int} (hq : 0 < q) (h1 : 1 ≤ n) : ∀ {o}, BestU p q n (SU p q n) o → ∃ l, o = some l ∧ IsUp p q n l
  | none, b => absurd (show SU p q n (p / q + 1) 1 from ⟨h1, by
      have h := Int.mul_ediv_add_emod p q
      have h2 := Int.emod_lt_of_pos p hq
      have e : (p / q + 1) * q = q * (p / q) + q := by grind
      omega⟩) (b _ _ (by decide))
  | some l, ⟨a, b, c, d, e⟩ => ⟨l, rfl, a, b, c, d, fun x y y0 yn h => e x y y0 ⟨yn, h⟩⟩

def encO : Option Pr → PyData
  | none => .none
  | some l => encP l
def OkO (o : Option Pr) : Prop := ∀ l, o = some l → SzQ 900 l
theorem lowT_size {a b : Int} {n : Nat} (ha : a.natAbs < 2 ^ n) (hb : b.natAbs < 2 ^ n) : SzQ n (lowT a b) := ⟨Nat.lt_of_le_of_lt (Int.natAbs_ediv_le_natAbs _ _) ha, Nat.lt_of_le_of_lt (Int.natAbs_ediv_le_natAbs _ _) hb⟩
theorem lowT_on {p q t y : Int} (y0 : 0 < y) : belowB (p, q) (lowT t y) = decide (p * y < t * q) ∧ belowB (lowT t y) (p, q) = decide (t * q < p * y) := by
  obtain ⟨h1, h2, h3, h4⟩ := low_terms (a := t) y0
  unfold belowB lowT
  generalize t / (Int.gcd t y : Int) = a at h3 ⊢
  generalize y / (Int.gcd t y : Int) = b at h2 h3 ⊢
  have e1 : p * y * b = p * b * y := by grind
  have e2 : a * q * y = t * q * b := by grind
  constructor
  · have : (p * b < a * q) ↔ (p * y < t * q) := by
      constructor
      · intro h
        have := mul_lt_r h y0
        exact Int.lt_of_mul_lt_mul_right (a := b) (by omega) (Int.le_of_lt h2)
      · intro h
        have := mul_lt_r h h2
        exact Int.lt_of_mul_lt_mul_right (a := y) (by omega) (Int.le_of_lt y0)
    exact decide_eq_decide.mpr this
  · have : (a * q < p * b) ↔ (t * q < p * y) := by
      constructor
      · intro h
        have := mul_lt_r h y0
        exact Int.lt_of_mul_lt_mul_right (a := b) (by omega) (Int.le_of_lt h2)
      · intro h
        have := mul_lt_r h h2
        exact Int.lt_of_mul_lt_mul_right (a := y) (by omega) (Int.le_of_lt y0)
    exact decide_eq_decide.mpr this
theorem dp_none {K : PySem.W.Frag} {H : Hp} {v : V} (h : Dp K H v .none) : v = .non := by
  cases h; rfl
def spSides (K : PySem.W.Frag) : Sp := fun vs H Q _ => ∃ (v : V) (p q n : Int), vs = [v, .int n] ∧ Dp K H v (encP (p, q)) ∧ 0 < q ∧ p.natAbs < 2 ^ 250 ∧ q.natAbs < 2 ^ 250 ∧ 1 ≤ n ∧ n.natAbs < 2 ^ 30 ∧
  ∀ H' r lo up, Same H H' → Dp K H' r (enc2 lo up) → IsLow p q n lo → IsUp p q n up → Q r H'
/-- the sets gone through while top goes over both -/
def TL (p q i : Int) : Nat → Int → Int → Prop
  | 0 => SL p q i
  | _ + 1 => SL p q (i + 1)
def TU (p q i : Int) : Nat → Int → Int → Prop
  | 0 => SU p q i
  | 1 => fun x z => SU p q i x z ∨ (z = i + 1 ∧ p * (i + 1) / q ≤ x ∧ p * (i + 1) ≤ (p * (i + 1) / q) * q)
  | _ + 2 => SU p q (i + 1)
section
variable {P : Program} {w : World} {K : PySem.W.Frag} {mg : Str → Option Value} {base : Heap} {Z : Ad}
theorem ok_law_sides (T : Tx K w mg Z) : FnOk P w K mg base CX0 3 Z.a_law_sides Z.d_law_sides P_law_sides (spSides K) := by
  refine T.F_law_sides.ok sclaw_sides (fun vs H Q E h => ?_) (fun cdv A outer s H vs Q E hr h => ?_)
  · obtain ⟨v, p, q, n, rfl, _⟩ := h
    rfl
  · obtain ⟨v, p, q, n, rfl, hv, hq, hpb, hqb, hn1, hnb, k⟩ := h
    obtain ⟨a, rfl, ha⟩ := dp_pair hv
    have sp : SzQ 1000 (p, q) := ⟨lt_up hpb (by decide), lt_up hqb (by decide)⟩
    have hn30 : n < 2 ^ 30 := by omega
    refine ⟨_, (pss_cons (ps_asg (pe_tup (pa_cons pe_non (pa_cons pe_non pa_nil))) (tupK (K := K) (by rfl) (pgs_cons (pg_name (i := 2) sclaw_sides.nd rfl (Or.inl rfl)) (pgs_cons (pg_name (i := 3) sclaw_sides.nd rfl (Or.inl rfl)) pgs_nil))))
      (pss_cons (ps_for PassesOwn.never rfl (pi_range2 (by rfl) T.b_range (pa_cons pe_int (pa_cons (pe_op op_add (pv 1) pe_int) pa_nil))) (pg_name (i := 4) sclaw_sides.nd rfl (Or.inl rfl)) (pss_cons (ps_set (i := 5) sclaw_sides.nd rfl (Or.inl rfl) (pe_op op_fdivW (pe_op op_mulW (pe_ix (ixT (K := K)) (pv 0) pe_int (fun _ _ => rfl)) (pv 4)) (pe_ix (ixT (K := K)) (pv 0) pe_int (fun _ _ => rfl))))
      (pss_one (ps_for PassesOwn.never rfl (pi_tup (pe_tup (pa_cons (pv 5) (pa_cons (pe_op op_add (pv 5) pe_int) pa_nil)))) (pg_name (i := 6) sclaw_sides.nd rfl (Or.inl rfl)) (pss_cons (ps_set (i := 7) sclaw_sides.nd rfl (Or.inl rfl) (pe_call (ok_law_lowest T) (hr.mono (by decide)) (by rfl) T.g_law_lowest T.F_law_lowest.kp T.bb_law_lowest .nil pass0 (pa_cons (pv 6) (pa_cons (pv 4) pa_nil))))
      (C8.pss_cut (ps_if (PW.pt (pw_and (pt_not (pt_val (pe_call (ok_law_below T) (hr.mono (by decide)) (by rfl) T.g_law_below T.F_law_below.kp T.bb_law_below .nil pass0 (pa_cons (pv 0) (pa_cons (pv 7) pa_nil))))) (pw_and1 (PW.pt (pw_or (pt_cmpR op_isN (pv 2) pe_non (nomark _)) (pw_or1 (pt_val (pe_call (ok_law_below T) (hr.mono (by decide)) (by rfl) T.g_law_below T.F_law_below.kp T.bb_law_below .nil pass0 (pa_cons (pv 2) (pa_cons (pv 7) pa_nil)))))))))) (pss_one (ps_set (i := 2) sclaw_sides.nd rfl (Or.inl rfl) (pv 7))) pss_nil)
      (pss_one (ps_if (PW.pt (pw_and (pt_not (pt_val (pe_call (ok_law_below T) (hr.mono (by decide)) (by rfl) T.g_law_below T.F_law_below.kp T.bb_law_below .nil pass0 (pa_cons (pv 7) (pa_cons (pv 0) pa_nil))))) (pw_and1 (PW.pt (pw_or (pt_cmpR op_isN (pv 3) pe_non (nomark _)) (pw_or1 (pt_val (pe_call (ok_law_below T) (hr.mono (by decide)) (by rfl) T.g_law_below T.F_law_below.kp T.bb_law_below .nil pass0 (pa_cons (pv 7) (pa_cons (pv 3) pa_nil)))))))))) (pss_one (ps_set (i := 3) sclaw_sides.nd rfl (Or.inl rfl) (pv 7))) pss_nil))))))))
      (pss_one (ps_ret (pe_tup (pa_cons (pv 2) (pa_cons (pv 3) pa_nil))))))), ?_⟩
    refine ⟨(by show 2 ≤ sizeLine; decide), fun q0 hq0 => ⟨q0, _, rfl, SqT.of upd_same, rfl, _, _, rfl, _, _, rfl, rfl, ?_⟩⟩
    have S0 := same_upd (o := HO.tup [V.non, .non]) hq0
    generalize upd H q0 (.tup [V.non, .non]) = H0 at S0 ⊢
    refine ⟨_, rfl, _, _, rfl, rfl, 1, n + 1, rfl, ⟨by decide, by decide, by omega, by omega⟩, ?_⟩
    refine for_range (lo := 1) (n := (n + 1 - 1).toNat) (fun i σ' H' => ∃ (x y : V) (lo up : Option Pr) (u4 u5 u6 u7 : Option V), σ' = [some (.ref a), some (.int n), some x, some y, u4, u5, u6, u7] ∧ Same H H' ∧ Dp K H' x (encO lo) ∧ Dp K H' y (encO up) ∧ OkO lo ∧ OkO up ∧ BestL p q n (SL p q i) lo ∧ BestU p q n (SU p q i) up)
      ⟨.non, .non, none, none, _, _, _, _, rfl, S0, .non, .non, fun _ e => (by cases e), fun _ e => (by cases e), fun x y y0 h => (by have := h.1; omega), fun x y y0 h => (by have := h.1; omega)⟩ ?_ ?_
    · rintro i σ' H1 hi ⟨x, y, lo, up, u4, u5, u6, u7, rfl, S1, hx, hy, zx, zy, BL, BU⟩
      have hin : (i : Int) + 1 ≤ n := by omega
      have ha1 := Same.sqT S1 ha
      have hyb : (1 + (i : Int)).natAbs < 2 ^ 31 := by omega
      have hdb : (p * (1 + (i : Int)) / q).natAbs < 2 ^ 282 := div_lt hq (wide_lt hpb hyb)
      refine ⟨_, rfl, _, _, _, _, rfl, rfl, ha1, rfl, _, rfl, _, _, rfl, rfl, wide_mul hpb hyb (by decide) (by decide) (by decide), _, rfl, _, _, _, _, rfl, rfl, ha1, rfl, _, _, rfl, rfl, wide_div hq hqb (by decide) (by decide), ?_⟩
      refine ⟨_, rfl, _, rfl, _, _, rfl, rfl, (by show 2 ≤ sizeLine; decide), fun tp htp => ?_⟩
      have e1i : 1 + (i : Int) = (i : Int) + 1 := Int.add_comm _ _
      rw [e1i] at hyb hdb
      have hd0 : (p * ((i : Int) + 1) / q) * q ≤ p * ((i : Int) + 1) := Int.ediv_mul_le _ (by omega)
      have hd1 : p * ((i : Int) + 1) < (p * ((i : Int) + 1) / q + 1) * q := by
        have h1 := Int.mul_ediv_add_emod (p * ((i : Int) + 1)) q
        have h2 := Int.emod_lt_of_pos (p * ((i : Int) + 1)) hq
        have e : (p * ((i : Int) + 1) / q + 1) * q = q * (p * ((i : Int) + 1) / q) + q := by grind
        omega
      rw [e1i]
      have nL : ∀ x z, SL p q ((i : Int) + 1) x z → SL p q i x z ∨ (z = (i : Int) + 1 ∧ x ≤ p * ((i : Int) + 1) / q) := fun x z => SL.next hq x z
      have nU : ∀ x z, SU p q ((i : Int) + 1) x z → SU p q i x z ∨ (z = (i : Int) + 1 ∧ p * ((i : Int) + 1) / q ≤ x ∧ (p * ((i : Int) + 1) ≤ (p * ((i : Int) + 1) / q) * q ∨ p * ((i : Int) + 1) / q + 1 ≤ x)) := fun x z => SU.next hq x z
      have eTU1 : TU p q i 1 = fun x z => SU p q i x z ∨ (z = (i : Int) + 1 ∧ p * ((i : Int) + 1) / q ≤ x ∧ p * ((i : Int) + 1) ≤ (p * ((i : Int) + 1) / q) * q) := rfl
      obtain ⟨d, hd⟩ : ∃ d, d = p * ((i : Int) + 1) / q := ⟨_, rfl⟩
      have htp' : H1 tp = none := htp
      rw [← hd] at hdb hd0 hd1 nL nU eTU1
      have S2 := same_upd (o := HO.tup [V.int d, .int (d + 1)]) htp'
      have hx2 := dp_mono S2 _ _ hx
      have hy2 := dp_mono S2 _ _ hy
      have ha2 := Same.sqT S2 ha1
      have S12 := S1.trans S2
      have htq : SqT K (upd H1 tp (.tup [V.int d, .int (d + 1)])) tp [V.int d, .int (d + 1)] := SqT.of upd_same
      obtain ⟨H2, eH2⟩ : ∃ H2, H2 = upd H1 tp (.tup [V.int d, .int (d + 1)]) := ⟨_, rfl⟩
      rw [← eH2] at S2 hx2 hy2 ha2 S12 htq
      refine ⟨tp, rfl, ⟨_, SqT.of upd_same⟩, ?_⟩
      refine for_tup (K := K) (a := tp) (xs := [V.int d, .int (d + 1)]) (fun j σ' H' => ∃ (x y : V) (lo up : Option Pr) (u6 u7 : Option V), σ' = [some (.ref a), some (.int n), some x, some y, some (.int ((i : Int) + 1)), some (.int d), u6, u7] ∧ Same H2 H' ∧ Dp K H' x (encO lo) ∧ Dp K H' y (encO up) ∧ OkO lo ∧ OkO up ∧ BestL p q n (TL p q i j) lo ∧ BestU p q n (TU p q i j) up)
        (by subst eH2 hd; exact ⟨x, y, lo, up, _, _, rfl, fun _ _ e => e, hx2, hy2, zx, zy, BL, BU⟩) (fun j σ' H' _ ⟨_, _, _, _, _, _, _, S, _⟩ => Same.sqT S htq) ?_ ?_
      · rintro j z σ' H3 hj ⟨x, y, lo, up, u6, u7, rfl, S3, hx, hy, zx, zy, BL, BU⟩
        obtain ⟨t, rfl, ht, hj2⟩ : ∃ t : Int, z = .int t ∧ (t = d ∧ j = 0 ∨ t = d + 1 ∧ j = 1) ∧ j < 2 := by
          match j, hj with
          | 0, hj => exact ⟨d, (Option.some.inj hj).symm, .inl ⟨rfl, rfl⟩, by omega⟩
          | 1, hj => exact ⟨d + 1, (Option.some.inj hj).symm, .inr ⟨rfl, rfl⟩, by omega⟩
          | j + 2, hj => simp at hj
        have htb : t.natAbs < 2 ^ 283 := by
          have e : (2 : Nat) ^ 283 = 2 ^ 282 + 2 ^ 282 := by rw [Nat.pow_succ, Nat.mul_two]
          rw [e]
          generalize (2 : Nat) ^ 282 = B at hdb ⊢
          omega
        have y0 : (0 : Int) < (i : Int) + 1 := by omega
        refine ⟨_, rfl, _, rfl, t, (i : Int) + 1, rfl, y0, lt_up hyb (by decide), fun H4 r S4 hr4 => ?_⟩
        have ha4 := Same.sqT S4 (Same.sqT S3 ha2)
        have hp4 : Dp K H4 (.ref a) (encP (p, q)) := dp_mono S4 _ _ (dp_mono S3 _ _ (dp_mono S12 _ _ hv))
        have sT : SzQ 1000 (lowT t ((i : Int) + 1)) := lowT_size (lt_up htb (by decide)) (lt_up hyb (by decide))
        have sT9 : SzQ 900 (lowT t ((i : Int) + 1)) := lowT_size (lt_up htb (by decide)) (lt_up hyb (by decide))
        obtain ⟨b1, b2⟩ := lowT_on (p := p) (q := q) (t := t) y0
        obtain ⟨c1, c2, c3, c4⟩ := low_terms (a := t) y0
        have c3' : (lowT t ((i : Int) + 1)).1 * ((i : Int) + 1) = t * (lowT t ((i : Int) + 1)).2 := c3
        have c1' : Int.gcd (lowT t ((i : Int) + 1)).1 (lowT t ((i : Int) + 1)).2 = 1 := c1
        have c2' : 0 < (lowT t ((i : Int) + 1)).2 := c2
        have c4' : (lowT t ((i : Int) + 1)).2 ≤ (i : Int) + 1 := c4
        clear c1 c2 c3 c4
        obtain ⟨one, hone⟩ : ∃ one, one = lowT t ((i : Int) + 1) := ⟨_, rfl⟩
        rw [← hone] at hr4 sT sT9 b1 b2 c1' c2' c3' c4'
        have hx4 := dp_mono S4 _ _ hx
        have hy4 := dp_mono S4 _ _ hy
        refine ⟨fun σ' H' => ∃ (x : V) (lo : Option Pr), σ' = [some (.ref a), some (.int n), some x, some y, some (.int ((i : Int) + 1)), some (.int d), some (.int t), some r] ∧ H' = H4 ∧ Dp K H4 x (encO lo) ∧ OkO lo ∧ BestL p q n (fun x z => TL p q i j x z ∨ (z = (i : Int) + 1 ∧ x ≤ t ∧ t * q ≤ p * ((i : Int) + 1))) lo, ?_, ?_⟩
        · refine ⟨_, rfl, _, rfl, _, _, (p, q), one, rfl, hp4, hr4, sp, sT, _, rfl, ?_⟩
          rw [b1]
          refine ite2 (fun c => ?_) (fun c => iteF ?_)
          · have hon : t * q ≤ p * ((i : Int) + 1) := by simpa using c
            cases lo with
            | none =>
              obtain rfl := dp_none hx4
              refine ⟨_, rfl, rfl, _, rfl, iteT (iteT ?_)⟩
              exact ⟨_, rfl, r, some one, rfl, rfl, hr4, fun l e => (by cases e; exact sT9), (BL.take y0 hin c2' c4' c1' c3' hon (fun l e => by cases e)).mono fun x z _ h => h.imp id fun h => ⟨h.1, h.2.1⟩⟩
            | some l =>
              obtain ⟨xa, rfl, hxa⟩ := dp_pair (p := l) hx4
              refine ⟨_, rfl, rfl, _, rfl, iteF ?_⟩
              refine ⟨_, rfl, _, rfl, _, _, l, one, rfl, hx4, hr4, ⟨lt_up (zx l rfl).1 (by decide), lt_up (zx l rfl).2 (by decide)⟩, sT, _, rfl, ite2 (fun c5 => ?_) (fun c5 => ?_)⟩
              · have h5 : l.1 * one.2 < one.1 * l.2 := of_decide_eq_true c5
                exact ⟨_, rfl, r, some one, rfl, rfl, hr4, fun l e => (by cases e; exact sT9), (BL.take y0 hin c2' c4' c1' c3' hon (fun l' e => by cases e; exact h5)).mono fun x z _ h => h.imp id fun h => ⟨h.1, h.2.1⟩⟩
              · have h5 : ¬ l.1 * one.2 < one.1 * l.2 := fun h => c5 (decide_eq_true h)
                exact ⟨_, some l, rfl, rfl, hx4, zx, (BL.leave c2' c3' h5).mono fun x z _ h => h.imp id fun h => ⟨h.1, h.2.1⟩⟩
          · have hon : ¬ t * q ≤ p * ((i : Int) + 1) := fun h => c (by simpa using h)
            exact ⟨_, lo, rfl, rfl, hx4, zx, BL.mono fun x z _ h => h.elim id fun h => absurd h.2.2 hon⟩
        rintro σ5 H5 ⟨x, lo, rfl, rfl, hx5, zx5, BL5⟩
        have fin : ∀ (y : V) (up : Option Pr), Dp K H5 y (encO up) → OkO up → BestU p q n (fun x z => TU p q i j x z ∨ (z = (i : Int) + 1 ∧ t ≤ x ∧ p * ((i : Int) + 1) ≤ t * q)) up →
            ∃ (x' y' : V) (lo' up' : Option Pr) (u6 u7 : Option V), [some (V.ref a), some (.int n), some x, some y, some (.int ((i : Int) + 1)), some (.int d), some (.int t), some r] = [some (.ref a), some (.int n), some x', some y', some (.int ((i : Int) + 1)), some (.int d), u6, u7] ∧ Same H2 H5 ∧ Dp K H5 x' (encO lo') ∧ Dp K H5 y' (encO up') ∧ OkO lo' ∧ OkO up' ∧ BestL p q n (TL p q i (j + 1)) lo' ∧ BestU p q n (TU p q i (j + 1)) up' := fun y up hy zy BU => by
          refine ⟨x, y, lo, up, _, _, rfl, S3.trans S4, hx5, hy, zx5, zy, BL5.mono fun x z _ h => ?_, BU.mono fun x z _ h => ?_⟩
          · rcases ht with ⟨rfl, rfl⟩ | ⟨rfl, rfl⟩
            · exact (nL x z h).imp id fun h => ⟨h.1, h.2, hd0⟩
            · exact .inl h
          · rcases ht with ⟨rfl, rfl⟩ | ⟨rfl, rfl⟩
            · rw [eTU1] at h
              exact h
            · rw [eTU1]
              rcases nU x z h with h | ⟨h1, h2, h3⟩
              · exact .inl (.inl h)
              · rcases h3 with h3 | h3
                · exact .inl (.inr ⟨h1, h2, h3⟩)
                · exact .inr ⟨h1, h3, Int.le_of_lt hd1⟩
        refine ⟨_, rfl, _, rfl, _, _, one, (p, q), rfl, hr4, hp4, sT, sp, _, rfl, ?_⟩
        rw [b2]
        refine ite2 (fun c => ?_) (fun c => iteF ?_)
        · have hon : p * ((i : Int) + 1) ≤ t * q := by simpa using c
          cases up with
          | none =>
            obtain rfl := dp_none hy4
            refine ⟨_, rfl, rfl, _, rfl, iteT (iteT ?_)⟩
            exact ⟨_, rfl, fin r (some one) hr4 (fun l e => by cases e; exact sT9) ((BU.take y0 hin c2' c4' c1' c3' hon (fun l e => by cases e)).mono fun x z _ h => h.imp id fun h => ⟨h.1, h.2.1⟩)⟩
          | some l =>
            obtain ⟨xa, rfl, hxa⟩ := dp_pair (p := l) hy4
            refine ⟨_, rfl, rfl, _, rfl, iteF ?_⟩
            refine ⟨_, rfl, _, rfl, _, _, one, l, rfl, hr4, hy4, sT, ⟨lt_up (zy l rfl).1 (by decide), lt_up (zy l rfl).2 (by decide)⟩, _, rfl, ite2 (fun c5 => ?_) (fun c5 => ?_)⟩
            · have h5 : one.1 * l.2 < l.1 * one.2 := of_decide_eq_true c5
              exact ⟨_, rfl, fin r (some one) hr4 (fun l e => by cases e; exact sT9) ((BU.take y0 hin c2' c4' c1' c3' hon (fun l' e => by cases e; exact h5)).mono fun x z _ h => h.imp id fun h => ⟨h.1, h.2.1⟩)⟩
            · have h5 : ¬ one.1 * l.2 < l.1 * one.2 := fun h => c5 (decide_eq_true h)
              exact fin _ (some l) hy4 zy ((BU.leave c2' c3' h5).mono fun x z _ h => h.imp id fun h => ⟨h.1, h.2.1⟩)
        · have hon : ¬ p * ((i : Int) + 1) ≤ t * q := fun h => c (by simpa using h)
          exact fin y up hy4 zy (BU.mono fun x z _ h => h.elim id fun h => absurd h.2.2 hon)
      · rintro σ' H3 ⟨x, y, lo, up, u6, u7, rfl, S3, hx, hy, zx, zy, BL, BU⟩
        refine ⟨x, y, lo, up, _, _, _, _, rfl, S12.trans S3, hx, hy, zx, zy, ?_, ?_⟩
        · rw [show (((i + 1 : Nat)) : Int) = (i : Int) + 1 by omega]
          exact BL
        · rw [show (((i + 1 : Nat)) : Int) = (i : Int) + 1 by omega]
          exact BU
    · rintro σ' H1 ⟨x, y, lo, up, u4, u5, u6, u7, rfl, S1, hx, hy, zx, zy, BL, BU⟩
      have en : (((n + 1 - 1).toNat : Nat) : Int) = n := by omega
      rw [en] at BL BU
      obtain ⟨l, rfl, hl⟩ := BL.low hq hn1
      obtain ⟨u, rfl, hu⟩ := BU.upp hq hn1
      refine ⟨_, rfl, _, rfl, (by show 2 ≤ sizeLine; decide), fun q3 hq3 => ?_⟩
      have S6 := same_upd (o := HO.tup [x, y]) hq3
      exact k _ _ l u (S1.trans S6) (.tup (SqT.of upd_same) (.cons (dp_mono S6 _ _ hx) (.cons (dp_mono S6 _ _ hy) .nil))) hl hu
end
end KA
namespace KA
open PySem PySem.Spec PyProof.Rows L2 DP
theorem eqv_enc2 (l u : Pr) : PyData.eqv (enc2 l u) (enc2 l u) = true := by simp [enc2, encP, PyData.eqv, PyData.eqvAll]
theorem shaped_enc2 (l u : Pr) : SeqAt.shaped (enc2 l u) = true := by
  unfold SeqAt.shaped
  simp [enc2, encP, PyData.canLay0, PyData.canLayAll0, PyData.depth, PyData.depthAll]
def spLaw (K : PySem.W.Frag) : Sp := fun vs H Q _ => ∃ (a : Addr) (ns : List Int), vs = [.ref a] ∧ SqL K H a (ns.map V.int) ∧ ns.length ≤ 63 ∧ ∀ H', Q (.bl true) H'
section
variable {P : Program} {w : World} {K : PySem.W.Frag} {mg : Str → Option Value} {base : Heap} {Z : Ad}
theorem ok_law (T : Tx K w mg Z) : FnOk P w K mg base CX0 5 Z.a_law Z.d_law P_law (spLaw K) := by
  refine T.F_law.ok sclaw (fun vs H Q E h => ?_) (fun cdv A outer s H vs Q E hr h => ?_)
  · obtain ⟨a, ns, rfl, _⟩ := h
    rfl
  · obtain ⟨a, ns, rfl, hS, hlen, k⟩ := h
    refine ⟨_, (pss_cons (ps_set (i := 1) sclaw.nd rfl (Or.inl rfl) (pe_call (ok_law_bag T) (hr.mono (by decide)) (by rfl) T.g_law_bag T.F_law_bag.kp T.bb_law_bag .nil pass0 (pa_cons (pv 0) pa_nil)))
      (pss_cons (ps_for PassesOwn.never rfl (pi_range1 (by rfl) T.b_range (pa_cons (pe_op op_add pe_int (pe_callB (call_min2 rfl) (by rfl) T.b_min (by decide +kernel) (pa_cons pe_int (pa_cons (pe_callB (lenK (K := K)) (by rfl) T.b_len (by decide +kernel) (pa_cons (pv 0) pa_nil)) pa_nil)))) pa_nil)) (pg_name (i := 2) sclaw.nd rfl (Or.inl rfl)) (pss_cons (ps_set (i := 3) sclaw.nd rfl (Or.inl rfl) (pe_op op_mulW (pe_call (ok_law_draw T) (hr.mono (by decide)) (by rfl) T.g_law_draw T.F_law_draw.kp T.bb_law_draw .nil pass0 (pa_cons (pv 1) (pa_cons (pe_ix (ixT (K := K)) (pe_tup (pa_cons pe_int (pa_cons (pe_op op_pow pe_int pe_int) pa_nil))) (pe_op op_fdivW (pe_call (ok_law_draw T) (hr.mono (by decide)) (by rfl) T.g_law_draw T.F_law_draw.kp T.bb_law_draw .nil pass0 (pa_cons (pv 1) (pa_cons pe_int pa_nil))) pe_int) (fun _ _ => rfl)) pa_nil))) (pe_ix (ixT (K := K)) (pe_tup (pa_cons pe_int (pa_cons (pe_un un_neg pe_int) pa_nil))) (pe_call (ok_law_draw T) (hr.mono (by decide)) (by rfl) T.g_law_draw T.F_law_draw.kp T.bb_law_draw .nil pass0 (pa_cons (pv 1) (pa_cons pe_int pa_nil))) (fun _ _ => rfl))))
      (pss_cons (ps_set (i := 4) sclaw.nd rfl (Or.inl rfl) (pe_op op_add pe_int (pe_call (ok_law_draw T) (hr.mono (by decide)) (by rfl) T.g_law_draw T.F_law_draw.kp T.bb_law_draw .nil pass0 (pa_cons (pv 1) (pa_cons (pe_ix (ixT (K := K)) (pe_tup (pa_cons pe_int (pa_cons (pe_op op_pow pe_int pe_int) pa_nil))) (pe_op op_fdivW (pe_call (ok_law_draw T) (hr.mono (by decide)) (by rfl) T.g_law_draw T.F_law_draw.kp T.bb_law_draw .nil pass0 (pa_cons (pv 1) (pa_cons pe_int pa_nil))) pe_int) (fun _ _ => rfl)) pa_nil)))))
      (pss_cons (ps_set (i := 5) sclaw.nd rfl (Or.inl rfl) (pe_call (ok_law_lowest T) (hr.mono (by decide)) (by rfl) T.g_law_lowest T.F_law_lowest.kp T.bb_law_lowest .nil pass0 (pa_cons (pv 3) (pa_cons (pv 4) pa_nil))))
      (pss_cons (ps_set (i := 6) sclaw.nd rfl (Or.inl rfl) (pe_op op_add pe_int (pe_call (ok_law_draw T) (hr.mono (by decide)) (by rfl) T.g_law_draw T.F_law_draw.kp T.bb_law_draw .nil pass0 (pa_cons (pv 1) (pa_cons (pe_ix (ixT (K := K)) (pe_tup (pa_cons pe_int (pa_cons pe_int (pa_cons pe_int pa_nil)))) (pe_call (ok_law_draw T) (hr.mono (by decide)) (by rfl) T.g_law_draw T.F_law_draw.kp T.bb_law_draw .nil pass0 (pa_cons (pv 1) (pa_cons pe_int pa_nil))) (fun _ _ => rfl)) pa_nil)))))
      (pss_cons (ps_set (i := 7) sclaw.nd rfl (Or.inl rfl) (pe_call (ok_law_sides T) (hr.mono (by decide)) (by rfl) T.g_law_sides T.F_law_sides.kp T.bb_law_sides .nil pass0 (pa_cons (pv 5) (pa_cons (pv 6) pa_nil))))
      (pss_one (ps_if (PW.pt (pw_or (pt_cmpR (neDK (K := K) hr.units) (pe_call (ok_neighbours T) (hr.mono (by decide)) (by rfl) T.g_neighbours T.F_neighbours.kp T.bb_neighbours .nil pass0 (pa_cons (pv 5) (pa_cons (pv 6) pa_nil))) (pv 7) (nomark _)) (pw_or1 (pt_cmpR (neDK (K := K) hr.units) (KW.pe_callN0 (ok_neighbours T) (hr.mono (by decide)) (by rfl) T.g_neighbours T.F_neighbours.kp T.kn_neighbours_bottom_fraction pass0 (pk_cons (pv 6) (pk_cons (pv 5) pk_nil))) (pv 7) (nomark _))))) (pss_one (ps_ret pe_bl)) pss_nil))))))))
      (pss_one (ps_ret pe_bl)))), ?_⟩
    refine ⟨_, rfl, a, ns, rfl, hS, hlen, fun H0 t g T0 S0 ht hg => ?_⟩
    refine ⟨_, rfl, a, _, rfl, .inl (Same.sqL S0 hS), _, _, rfl, _, _, rfl, rfl, ?_⟩
    obtain ⟨cut, hcut⟩ : ∃ cut, cut = (if ((ns.map V.int).length : Int) < 6 then ((ns.map V.int).length : Int) else 6) := ⟨_, rfl⟩
    have hc0 : 0 ≤ cut := by rw [hcut]; split <;> omega
    have hc4 : cut ≤ 6 := by rw [hcut]; split <;> omega
    refine ⟨2 + cut, by rw [hcut], by omega, by omega, ?_⟩
    refine for_range (n := (2 + cut).toNat) (fun i σ' H' => ∃ (u2 u3 u4 u5 u6 u7 : Option V), σ' = [some (.ref a), some (.ref t), u2, u3, u4, u5, u6, u7] ∧ Tray H' t g (10 * i)) ⟨_, _, _, _, _, _, rfl, T0⟩ ?_ ?_
    rotate_left
    · rintro σ' H' ⟨_, _, _, _, _, _, rfl, _⟩
      exact k H'
    rintro i σ' H1 hi ⟨u2, u3, u4, u5, u6, u7, rfl, T1⟩
    have hn : ∀ m, m ≤ 10 * i + 10 → m < 2 ^ 60 := fun m hm => Nat.lt_of_le_of_lt (by omega : m ≤ 1000) (by decide)
    have e59 : (10 : Int) ^ (59 : Int).toNat = 100000000000000000000000000000000000000000000000000000000000 := by decide
    have e29 : (10 : Int) ^ (29 : Int).toNat = 100000000000000000000000000000 := by decide
    have e200 : (2 : Nat) ^ 200 = 1606938044258990275541962092341162602522202993782792835301376 := by decide
    have e250 : (2 : Nat) ^ 250 = 1809251394333065553493296640760748560207343510400633813116524750123642650624 := by decide
    have e30 : (2 : Nat) ^ 30 = 1073741824 := by decide
    -- top
    refine ⟨_, rfl, _, _, rfl, rfl, ⟨by decide, by decide, by decide⟩, (by show 2 ≤ sizeLine; decide), fun p hp => ?_⟩
    obtain ⟨pt, pg⟩ := T1.at_ne hp
    have T2 := T1.same (same_upd (o := HO.tup [V.int 90, .int ((10 : Int) ^ (59 : Int).toNat)]) hp)
    refine ⟨_, rfl, t, g, 10 * i, 4, rfl, T2, by decide, by decide, hn _ (by omega), fun H3 c c0 c1 T3 k3 => ?_⟩
    obtain ⟨z, hz, hz0, hz1⟩ : ∃ z : Int, atI [V.int 90, .int ((10 : Int) ^ (59 : Int).toNat)] (c / 3) = some (.int z) ∧ 0 < z ∧ z.natAbs < 2 ^ 200 := by
      have : c / 3 = 0 ∨ c / 3 = 1 := by omega
      rcases this with e | e <;> rw [e]
      · exact ⟨90, rfl, by decide, by decide⟩
      · exact ⟨_, rfl, by rw [e59]; decide, by rw [e59, e200]; decide⟩
    refine ⟨_, _, rfl, rfl, wide_div (b := 4) (by decide) (by decide) (by decide) (by decide), p, _, _, _, rfl, rfl, SqT.of (k3 _ _ upd_same pt pg), hz, ?_⟩
    refine ⟨t, g, 10 * i + 1, z, rfl, T3, hz0, lt_up hz1 (by decide), hn _ (by omega), fun H4 r r0 r1 T4 k4 => ?_⟩
    refine ⟨_, rfl, (by show 2 ≤ sizeLine; decide), fun p2 hp2 => ?_⟩
    obtain ⟨p2t, p2g⟩ := T4.at_ne hp2
    have T5 := T4.same (same_upd (o := HO.tup [V.int 1, .int (-1)]) hp2)
    refine ⟨_, rfl, t, g, 10 * i + 2, 2, rfl, T5, by decide, by decide, hn _ (by omega), fun H6 c2 c20 c21 T6 k6 => ?_⟩
    obtain ⟨sg, hsg, hsg1⟩ : ∃ z : Int, atI [V.int 1, .int (-1)] c2 = some (.int z) ∧ z.natAbs < 2 ^ 1 := by
      have : c2 = 0 ∨ c2 = 1 := by omega
      rcases this with e | e <;> subst e
      · exact ⟨1, rfl, by decide⟩
      · exact ⟨-1, rfl, by decide⟩
    have hrb : r.natAbs < 2 ^ 200 := Nat.lt_of_le_of_lt (by omega) hz1
    have htop : (r * sg).natAbs < 2 ^ 201 := wide_lt hrb hsg1
    refine ⟨p2, _, _, _, rfl, rfl, SqT.of (k6 _ _ upd_same p2t p2g), hsg, _, _, rfl, rfl, wide_mul hrb hsg1 (by decide) (by decide) (by decide), ?_⟩
    -- under
    refine ⟨_, rfl, _, _, rfl, rfl, ⟨by decide, by decide, by decide⟩, (by show 2 ≤ sizeLine; decide), fun p3 hp3 => ?_⟩
    obtain ⟨p3t, p3g⟩ := T6.at_ne hp3
    have T7 := T6.same (same_upd (o := HO.tup [V.int 60, .int ((10 : Int) ^ (29 : Int).toNat)]) hp3)
    refine ⟨_, rfl, t, g, 10 * i + 3, 4, rfl, T7, by decide, by decide, hn _ (by omega), fun H8 c3 c30 c31 T8 k8 => ?_⟩
    obtain ⟨z2, hz2, hz20, hz21⟩ : ∃ z : Int, atI [V.int 60, .int ((10 : Int) ^ (29 : Int).toNat)] (c3 / 3) = some (.int z) ∧ 0 < z ∧ z.natAbs < 2 ^ 200 := by
      have : c3 / 3 = 0 ∨ c3 / 3 = 1 := by omega
      rcases this with e | e <;> rw [e]
      · exact ⟨60, rfl, by decide, by decide⟩
      · exact ⟨_, rfl, by rw [e29]; decide, by rw [e29, e200]; decide⟩
    refine ⟨_, _, rfl, rfl, wide_div (b := 4) (by decide) (by decide) (by decide) (by decide), p3, _, _, _, rfl, rfl, SqT.of (k8 _ _ upd_same p3t p3g), hz2, ?_⟩
    refine ⟨t, g, 10 * i + 4, z2, rfl, T8, hz20, lt_up hz21 (by decide), hn _ (by omega), fun H9 un un0 un1 T9 k9 => ?_⟩
    refine ⟨_, _, rfl, rfl, ?_⟩
    have hunb : (1 + un).natAbs < 2 ^ 201 := by
      have e : (2 : Nat) ^ 201 = 2 ^ 200 + 2 ^ 200 := by rw [Nat.pow_succ, Nat.mul_two]
      rw [e]
      have : 1 ≤ 2 ^ 200 := Nat.one_le_two_pow
      generalize (2 : Nat) ^ 200 = B at hz21 this ⊢
      omega
    -- pace
    refine ⟨_, rfl, _, rfl, r * sg, 1 + un, rfl, by omega, lt_up hunb (by decide), fun H10 pc S10 hpc => ?_⟩
    obtain ⟨lc1, lc2, lc3, lc4⟩ := low_terms (a := r * sg) (b := 1 + un) (by omega)
    obtain ⟨ls1, ls2⟩ := lowT_size (a := r * sg) (b := 1 + un) htop hunb
    have eT : lowT (r * sg) (1 + un) = (r * sg / (Int.gcd (r * sg) (1 + un) : Int), (1 + un) / (Int.gcd (r * sg) (1 + un) : Int)) := rfl
    rw [eT] at hpc ls1 ls2
    generalize r * sg / (Int.gcd (r * sg) (1 + un) : Int) = pn at hpc ls1 ls2 lc1
    generalize (1 + un) / (Int.gcd (r * sg) (1 + un) : Int) = qn at hpc ls1 ls2 lc1 lc2
    have hpnb : pn.natAbs < 2 ^ 250 := lt_up ls1 (by decide)
    have hqnb : qn.natAbs < 2 ^ 250 := lt_up ls2 (by decide)
    have T10 := T9.same S10
    -- most
    refine ⟨_, rfl, (by show 3 ≤ sizeLine; decide), fun p4 hp4 => ?_⟩
    obtain ⟨p4t, p4g⟩ := T10.at_ne hp4
    have S11 := same_upd (o := HO.tup [V.int 8, .int 40, .int 150]) hp4
    refine ⟨_, rfl, t, g, 10 * i + 5, 3, rfl, T10.same S11, by decide, by decide, hn _ (by omega), fun H12 c4 c40 c41 T12 k12 => ?_⟩
    obtain ⟨z3, hz3, hz30, hz31⟩ : ∃ z : Int, atI [V.int 8, .int 40, .int 150] c4 = some (.int z) ∧ 0 < z ∧ z ≤ 150 := by
      have : c4 = 0 ∨ c4 = 1 ∨ c4 = 2 := by omega
      rcases this with e | e | e <;> subst e
      · exact ⟨8, rfl, by decide, by decide⟩
      · exact ⟨40, rfl, by decide, by decide⟩
      · exact ⟨150, rfl, by decide, by decide⟩
    refine ⟨p4, _, _, _, rfl, rfl, SqT.of (k12 _ _ upd_same p4t p4g), hz3, ?_⟩
    refine ⟨t, g, 10 * i + 6, z3, rfl, T12, hz30, Nat.lt_of_le_of_lt (by omega : z3.natAbs ≤ 150) (by decide), hn _ (by omega), fun H13 m m0 m1 T13 k13 => ?_⟩
    have hpc13 : Dp K H13 pc (encP (pn, qn)) := dp_tups (Keep.tups T12 k13) _ _ (noL_encP _) (dp_tups (Keep.tups (T10.same S11) k12) _ _ (noL_encP _) (dp_mono S11 _ _ hpc))
    have hmb : (1 + m).natAbs < 2 ^ 30 := Nat.lt_of_le_of_lt (by omega : (1 + m).natAbs ≤ 151) (by decide)
    refine ⟨_, _, rfl, rfl, ?_⟩
    -- due
    refine ⟨_, rfl, _, rfl, pc, pn, qn, 1 + m, rfl, hpc13, lc2, hpnb, hqnb, by omega, hmb, fun H14 due lo up S14 hdue hlo hup => ?_⟩
    have hpc14 := dp_mono S14 _ _ hpc13
    refine ⟨_, rfl, _, rfl, pc, pn, qn, 1 + m, rfl, hpc14, lc2, lc1, hpnb, hqnb, by omega, hmb, fun H15 r1 lo1 up1 S15 hr1 hlo1 hup1 _ _ => ?_⟩
    have el1 := hlo1.one hlo
    have eu1 := hup1.one hup
    subst el1 eu1
    refine ⟨_, rfl, _, _, hr1, dp_mono S15 _ _ hdue, shaped_enc2 _ _, shaped_enc2 _ _, _, rfl, ?_⟩
    rw [eqv_enc2]
    refine iteF ?_
    refine ⟨_, rfl, _, rfl, rfl, pc, pn, qn, 1 + m, rfl, dp_mono S15 _ _ hpc14, lc2, lc1, hpnb, hqnb, by omega, hmb, fun H16 r2 lo2 up2 S16 hr2 hlo2 hup2 _ _ => ?_⟩
    have el2 := hlo2.one hlo1
    have eu2 := hup2.one hup1
    subst el2 eu2
    refine ⟨_, rfl, _, _, hr2, dp_mono S16 _ _ (dp_mono S15 _ _ hdue), shaped_enc2 _ _, shaped_enc2 _ _, _, rfl, ?_⟩
    rw [eqv_enc2]
    refine iteF ?_
    exact ⟨_, _, _, _, _, _, rfl, (((T13.same S14).same S15).same S16).up (by omega)⟩
end
end KA
namespace KA
open PySem PySem.Spec PyProof.Rows L2 DP
theorem g11_of {α : Type} : ∀ {us ws : List α}, (g11 us ws).length = 2 → ∃ a b, us = [a] ∧ ws = [b]
  | [a], [b], _ => ⟨a, b, rfl, rfl⟩
  | [], _, h => nomatch (show (0 : Nat) = 2 from h)
  | [_], [], h => nomatch (show (0 : Nat) = 2 from h)
  | [_], _ :: _ :: _, h => nomatch (show (0 : Nat) = 2 from h)
  | _ :: _ :: _, _, h => nomatch (show (0 : Nat) = 2 from h)
theorem sqt2 {K : PySem.W.Frag} {H : Hp} {t : Addr} {x y : Str} {o : Option Addr} {u v : Tok} {n : Nat} {s : Array (Option Value)} (l : K.lookup t = some ⟨.type "tuple", o, .seq #[.str x u, .str y v] n, s⟩) : SqT K H t [.str x, .str y] :=
  .inr ⟨_, _, n, l, rfl, rfl, (by show 2 ≤ sizeLine; decide), .cons ⟨u, rfl⟩ (.cons ⟨v, rfl⟩ .nil)⟩
theorem sqt3 {K : PySem.W.Frag} {H : Hp} {t : Addr} {x y z : Str} {o : Option Addr} {u v q : Tok} {n : Nat} {s : Array (Option Value)} (l : K.lookup t = some ⟨.type "tuple", o, .seq #[.str x u, .str y v, .str z q] n, s⟩) : SqT K H t [.str x, .str y, .str z] :=
  .inr ⟨_, _, n, l, rfl, rfl, (by show 3 ≤ sizeLine; decide), .cons ⟨u, rfl⟩ (.cons ⟨v, rfl⟩ (.cons ⟨q, rfl⟩ .nil))⟩
theorem all_mk {l : PySem.W.OpenLaw} {w : World} {K : PySem.W.Frag} {h : Heap} {mg : Str → Option Value} {fa : Addr} (X : K.In h) (G : h.Ns mainGlobals mg) (hfa : mg "law" = some (.ref fa))
    {f0 : Addr} {od0 an0 : Option Addr} {sl0 : Array (Option Value)} {oc0 kV0 dc0 pm0 cd0 ct0 : Value}
    {f1 : Addr} {od1 an1 : Option Addr} {sl1 : Array (Option Value)} {oc1 kV1 dc1 pm1 cd1 ct1 : Value}
    {f2 : Addr} {od2 an2 : Option Addr} {sl2 : Array (Option Value)} {oc2 kV2 dc2 pm2 cd2 ct2 : Value}
    {f3 : Addr} {od3 an3 : Option Addr} {sl3 : Array (Option Value)} {oc3 kV3 dc3 pm3 cd3 ct3 : Value}
    {f4 : Addr} {od4 an4 : Option Addr} {sl4 : Array (Option Value)} {oc4 kV4 dc4 pm4 cd4 ct4 : Value}
    {f5 : Addr} {od5 an5 : Option Addr} {sl5 : Array (Option Value)} {oc5 kV5 dc5 pm5 cd5 ct5 : Value}
    {f6 : Addr} {od6 an6 : Option Addr} {sl6 : Array (Option Value)} {oc6 kV6 dc6 pm6 cd6 ct6 : Value}
    {f7 : Addr} {od7 an7 : Option Addr} {sl7 : Array (Option Value)} {oc7 kV7 dc7 pm7 cd7 ct7 : Value}
    {f8 : Addr} {od8 an8 : Option Addr} {sl8 : Array (Option Value)} {oc8 kV8 dc8 pm8 cd8 ct8 : Value}
    {f9 : Addr} {od9 an9 : Option Addr} {sl9 : Array (Option Value)} {oc9 kV9 dc9 pm9 cd9 ct9 : Value}
    (a0 : PySem.W.nsIn K mainGlobals "_law_bag" = some (some (.ref f0)))
    (l0 : K.lookup f0 = some ⟨oc0, od0, .func (PySem.W.fnOf "_law_bag" "_law_bag" (defArgs slaw_bag) (defBody slaw_bag) (defScope slaw_bag) .none kV0 dc0 pm0 an0 cd0 ct0), sl0⟩)
    (c0 : PySem.W.codeIn K cd0 "_law_bag" = true)
    (k0 : PySem.W.keepIn K (.ref f0) = true)
    (a1 : PySem.W.nsIn K mainGlobals "_law_draw" = some (some (.ref f1)))
    (l1 : K.lookup f1 = some ⟨oc1, od1, .func (PySem.W.fnOf "_law_draw" "_law_draw" (defArgs slaw_draw) (defBody slaw_draw) (defScope slaw_draw) .none kV1 dc1 pm1 an1 cd1 ct1), sl1⟩)
    (c1 : PySem.W.codeIn K cd1 "_law_draw" = true)
    (k1 : PySem.W.keepIn K (.ref f1) = true)
    (a2 : PySem.W.nsIn K mainGlobals "_law_divisor" = some (some (.ref f2)))
    (l2 : K.lookup f2 = some ⟨oc2, od2, .func (PySem.W.fnOf "_law_divisor" "_law_divisor" (defArgs slaw_divisor) (defBody slaw_divisor) (defScope slaw_divisor) .none kV2 dc2 pm2 an2 cd2 ct2), sl2⟩)
    (c2 : PySem.W.codeIn K cd2 "_law_divisor" = true)
    (k2 : PySem.W.keepIn K (.ref f2) = true)
    (a3 : PySem.W.nsIn K mainGlobals "_law_lowest" = some (some (.ref f3)))
    (l3 : K.lookup f3 = some ⟨oc3, od3, .func (PySem.W.fnOf "_law_lowest" "_law_lowest" (defArgs slaw_lowest) (defBody slaw_lowest) (defScope slaw_lowest) .none kV3 dc3 pm3 an3 cd3 ct3), sl3⟩)
    (c3 : PySem.W.codeIn K cd3 "_law_lowest" = true)
    (k3 : PySem.W.keepIn K (.ref f3) = true)
    (a4 : PySem.W.nsIn K mainGlobals "_law_below" = some (some (.ref f4)))
    (l4 : K.lookup f4 = some ⟨oc4, od4, .func (PySem.W.fnOf "_law_below" "_law_below" (defArgs slaw_below) (defBody slaw_below) (defScope slaw_below) .none kV4 dc4 pm4 an4 cd4 ct4), sl4⟩)
    (c4 : PySem.W.codeIn K cd4 "_law_below" = true)
    (k4 : PySem.W.keepIn K (.ref f4) = true)
    (a5 : PySem.W.nsIn K mainGlobals "_law_sides" = some (some (.ref f5)))
    (l5 : K.lookup f5 = some ⟨oc5, od5, .func (PySem.W.fnOf "_law_sides" "_law_sides" (defArgs slaw_sides) (defBody slaw_sides) (defScope slaw_sides) .none kV5 dc5 pm5 an5 cd5 ct5), sl5⟩)
    (c5 : PySem.W.codeIn K cd5 "_law_sides" = true)
    (k5 : PySem.W.keepIn K (.ref f5) = true)
    (a6 : PySem.W.nsIn K mainGlobals "distance" = some (some (.ref f6)))
    (l6 : K.lookup f6 = some ⟨oc6, od6, .func (PySem.W.fnOf "distance" "distance" (defArgs sdistance) (defBody sdistance) (defScope sdistance) .none kV6 dc6 pm6 an6 cd6 ct6), sl6⟩)
    (c6 : PySem.W.codeIn K cd6 "distance" = true)
    (k6 : PySem.W.keepIn K (.ref f6) = true)
    (a7 : PySem.W.nsIn K mainGlobals "nearer" = some (some (.ref f7)))
    (l7 : K.lookup f7 = some ⟨oc7, od7, .func (PySem.W.fnOf "nearer" "nearer" (defArgs snearer) (defBody snearer) (defScope snearer) .none kV7 dc7 pm7 an7 cd7 ct7), sl7⟩)
    (c7 : PySem.W.codeIn K cd7 "nearer" = true)
    (k7 : PySem.W.keepIn K (.ref f7) = true)
    (a8 : PySem.W.nsIn K mainGlobals "neighbours" = some (some (.ref f8)))
    (l8 : K.lookup f8 = some ⟨oc8, od8, .func (PySem.W.fnOf "neighbours" "neighbours" (defArgs sneighbours) (defBody sneighbours) (defScope sneighbours) .none kV8 dc8 pm8 an8 cd8 ct8), sl8⟩)
    (c8 : PySem.W.codeIn K cd8 "neighbours" = true)
    (k8 : PySem.W.keepIn K (.ref f8) = true)
    (a9 : PySem.W.nsIn K mainGlobals "law" = some (some (.ref f9)))
    (l9 : K.lookup f9 = some ⟨oc9, od9, .func (PySem.W.fnOf "law" "law" (defArgs slaw) (defBody slaw) (defScope slaw) .none kV9 dc9 pm9 an9 cd9 ct9), sl9⟩)
    (c9 : PySem.W.codeIn K cd9 "law" = true)
    (k9 : PySem.W.keepIn K (.ref f9) = true)
    (b_len : PySem.W.nsIn K mainGlobals "len" = some none)
    (b_range : PySem.W.nsIn K mainGlobals "range" = some none)
    (b_abs : PySem.W.nsIn K mainGlobals "abs" = some none)
    (b_min : PySem.W.nsIn K mainGlobals "min" = some none) :
    ∃ fd : FuncData, (∀ (s : Shared) (v : Value), BindsTo s fd ⟨[v], []⟩ [("script", v)]) ∧ ∀ base : Heap, K.In base → base.Ns mainGlobals mg → FnOk l.prog w K mg base CX0 5 fa fd ["script"] (spLaw K) := by
  have e := hfa.symm.trans (PySem.W.mg_of X G a9)
  cases e
  have F0 := fun_mk (st := slaw_bag) l0 c0 k0
  have F1 := fun_mk (st := slaw_draw) l1 c1 k1
  have F2 := fun_mk (st := slaw_divisor) l2 c2 k2
  have F3 := fun_mk (st := slaw_lowest) l3 c3 k3
  have F4 := fun_mk (st := slaw_below) l4 c4 k4
  have F5 := fun_mk (st := slaw_sides) l5 c5 k5
  have F6 := fun_mk (st := sdistance) l6 c6 k6
  have F7 := fun_mk (st := snearer) l7 c7 k7
  have F8 := fun_mk (st := sneighbours) l8 c8 k8
  have F9 := fun_mk (st := slaw) l9 c9 k9
  let Z : Ad := {
    a_law_bag := f0,
    d_law_bag := PySem.W.fnOf "_law_bag" "_law_bag" (defArgs slaw_bag) (defBody slaw_bag) (defScope slaw_bag) .none kV0 dc0 pm0 an0 cd0 ct0,
    a_law_draw := f1,
    d_law_draw := PySem.W.fnOf "_law_draw" "_law_draw" (defArgs slaw_draw) (defBody slaw_draw) (defScope slaw_draw) .none kV1 dc1 pm1 an1 cd1 ct1,
    a_law_divisor := f2,
    d_law_divisor := PySem.W.fnOf "_law_divisor" "_law_divisor" (defArgs slaw_divisor) (defBody slaw_divisor) (defScope slaw_divisor) .none kV2 dc2 pm2 an2 cd2 ct2,
    a_law_lowest := f3,
    d_law_lowest := PySem.W.fnOf "_law_lowest" "_law_lowest" (defArgs slaw_lowest) (defBody slaw_lowest) (defScope slaw_lowest) .none kV3 dc3 pm3 an3 cd3 ct3,
    a_law_below := f4,
    d_law_below := PySem.W.fnOf "_law_below" "_law_below" (defArgs slaw_below) (defBody slaw_below) (defScope slaw_below) .none kV4 dc4 pm4 an4 cd4 ct4,
    a_law_sides := f5,
    d_law_sides := PySem.W.fnOf "_law_sides" "_law_sides" (defArgs slaw_sides) (defBody slaw_sides) (defScope slaw_sides) .none kV5 dc5 pm5 an5 cd5 ct5,
    a_distance := f6,
    d_distance := PySem.W.fnOf "distance" "distance" (defArgs sdistance) (defBody sdistance) (defScope sdistance) .none kV6 dc6 pm6 an6 cd6 ct6,
    a_nearer := f7,
    d_nearer := PySem.W.fnOf "nearer" "nearer" (defArgs snearer) (defBody snearer) (defScope snearer) .none kV7 dc7 pm7 an7 cd7 ct7,
    a_neighbours := f8,
    d_neighbours := PySem.W.fnOf "neighbours" "neighbours" (defArgs sneighbours) (defBody sneighbours) (defScope sneighbours) .none kV8 dc8 pm8 an8 cd8 ct8,
    a_law := fa,
    d_law := PySem.W.fnOf "law" "law" (defArgs slaw) (defBody slaw) (defScope slaw) .none kV9 dc9 pm9 an9 cd9 ct9 }
  have T : Tx K w mg Z := {
    F_law_bag := F0,
    bb_law_bag := F0.binds (ps := P_law_bag) fun _ _ _ _ _ _ us hl => match us, hl with | [_], _ => rfl,
    g_law_bag := PySem.W.mg_of X G a0,
    F_law_draw := F1,
    bb_law_draw := F1.binds (ps := P_law_draw) fun _ _ _ _ _ _ us hl => match us, hl with | [_, _], _ => rfl,
    g_law_draw := PySem.W.mg_of X G a1,
    F_law_divisor := F2,
    bb_law_divisor := F2.binds (ps := P_law_divisor) fun _ _ _ _ _ _ us hl => match us, hl with | [_, _], _ => rfl,
    g_law_divisor := PySem.W.mg_of X G a2,
    F_law_lowest := F3,
    bb_law_lowest := F3.binds (ps := P_law_lowest) fun _ _ _ _ _ _ us hl => match us, hl with | [_, _], _ => rfl,
    g_law_lowest := PySem.W.mg_of X G a3,
    F_law_below := F4,
    bb_law_below := F4.binds (ps := P_law_below) fun _ _ _ _ _ _ us hl => match us, hl with | [_, _], _ => rfl,
    g_law_below := PySem.W.mg_of X G a4,
    F_law_sides := F5,
    bb_law_sides := F5.binds (ps := P_law_sides) fun _ _ _ _ _ _ us hl => match us, hl with | [_, _], _ => rfl,
    g_law_sides := PySem.W.mg_of X G a5,
    F_distance := F6,
    bb_distance := F6.binds (ps := P_distance) fun _ _ _ _ _ _ us hl => match us, hl with | [_, _], _ => rfl,
    g_distance := PySem.W.mg_of X G a6,
    F_nearer := F7,
    bb_nearer := F7.binds (ps := P_nearer) fun _ _ _ _ _ _ us hl => match us, hl with | [_, _, _, _], _ => rfl,
    g_nearer := PySem.W.mg_of X G a7,
    F_neighbours := F8,
    bb_neighbours := F8.binds (ps := P_neighbours) fun _ _ _ _ _ _ us hl => match us, hl with | [_, _], _ => rfl,
    kn_neighbours_bottom_fraction := KW.kbn0 [1, 0] fun us ws h1 h2 => match us, ws, h1, h2 with | [], [_, _], _, _ => rfl,
    g_neighbours := PySem.W.mg_of X G a8,
    F_law := F9,
    bb_law := F9.binds (ps := P_law) fun _ _ _ _ _ _ us hl => match us, hl with | [_], _ => rfl,
    g_law := PySem.W.mg_of X G a9,
    b_len := PySem.W.mg_none_of X G b_len,
    b_range := PySem.W.mg_none_of X G b_range,
    b_abs := PySem.W.mg_none_of X G b_abs,
    b_min := PySem.W.mg_none_of X G b_min }
  exact ⟨PySem.W.fnOf "law" "law" (defArgs slaw) (defBody slaw) (defScope slaw) .none kV9 dc9 pm9 an9 cd9 ct9, fun s v => .of_eq rfl, fun base _ _ => ok_law T⟩
theorem walk {l : PySem.W.OpenLaw} {q : Program} {loose : List Str} {XP : (Str → Option Value) → Heap → Prop} {YP : World → Heap → Prop} {d : DefRec} {K : Params → PySem.W.Frag} (hn : l.most = some 63) (hdf : d.params.defaults = [])
    (hY : ∀ (w : World) (h : Heap), YP w h → (K w.params).In h)
    (F : ∀ (w : World) (mg : Str → Option Value) (fa : Addr) (h : Heap), (K w.params).In h → h.Ns mainGlobals mg → mg d.name = some (.ref fa) →
      ∃ fd : FuncData, (∀ (s : Shared) (u : Value), BindsTo s fd ⟨[u], []⟩ [("script", u)]) ∧ ∀ base : Heap, (K w.params).In base → base.Ns mainGlobals mg → FnOk l.prog w (K w.params) mg base CX0 5 fa fd ["script"] (spLaw (K w.params))) :
    PySem.W.WalkO q loose XP YP l.row.toRowW d [] (fun f vs => PySem.call f vs) :=
  L2.walk_of (n := 63) (k := 5) (x := "script") (CX := fun _ => CX0) (sp := fun w => spLaw (K w.params)) hn (by decide) hdf ⟨rfl, by decide, by decide⟩ hY F (fun _ _ a ns hl _ hS => ⟨a, ns, rfl, hS, hl, fun _ => rfl⟩) fun _ _ _ _ _ z => z
end KA
open PySem PySem.W PyProof.Rows
set_option maxRecDepth 100000 in
set_option maxHeartbeats 0 in
theorem PySem.Challenge.cw_darkpace_k40_neighbours_told_holds : PySem.Challenge.rw_darkpace_k40_neighbours_told.Holds := by
  w_on; o_law; k_head; (case hw => w_witness2)
  k_fill
  refine KA.walk (l := PySem.Challenge.rw_darkpace_k40_neighbours_told) rfl rfl (fun w h Y => PySem.W.kIn_of Y) ?F
  case F =>
    intro w mg fa h KX G hmg
    refine' KA.all_mk KX G hmg ?a0 ?l0 ?c0 ?k0 ?a1 ?l1 ?c1 ?k1 ?a2 ?l2 ?c2 ?k2 ?a3 ?l3 ?c3 ?k3 ?a4 ?l4 ?c4 ?k4 ?a5 ?l5 ?c5 ?k5 ?a6 ?l6 ?c6 ?k6 ?a7 ?l7 ?c7 ?k7 ?a8 ?l8 ?c8 ?k8 ?a9 ?l9 ?c9 ?k9 ?b_len ?b_range ?b_abs ?b_min
    (case a0 => k_is)
    (case l0 => k_is)
    (case c0 => k_is)
    (case k0 => k_is)
    (case a1 => k_is)
    (case l1 => k_is)
    (case c1 => k_is)
    (case k1 => k_is)
    (case a2 => k_is)
    (case l2 => k_is)
    (case c2 => k_is)
    (case k2 => k_is)
    (case a3 => k_is)
    (case l3 => k_is)
    (case c3 => k_is)
    (case k3 => k_is)
    (case a4 => k_is)
    (case l4 => k_is)
    (case c4 => k_is)
    (case k4 => k_is)
    (case a5 => k_is)
    (case l5 => k_is)
    (case c5 => k_is)
    (case k5 => k_is)
    (case a6 => k_is)
    (case l6 => k_is)
    (case c6 => k_is)
    (case k6 => k_is)
    (case a7 => k_is)
    (case l7 => k_is)
    (case c7 => k_is)
    (case k7 => k_is)
    (case a8 => k_is)
    (case l8 => k_is)
    (case c8 => k_is)
    (case k8 => k_is)
    (case a9 => k_is)
    (case l9 => k_is)
    (case c9 => k_is)
    (case k9 => k_is)
    (case b_len => k_is)
    (case b_range => k_is)
    (case b_abs => k_is)
    (case b_min => k_is)
