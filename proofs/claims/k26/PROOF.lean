import PyProof.Rows.All
import Wide.All
import OpenK.AllK
import Wide.FinOn
import HandS.ForMost
import HandS.Wide
import HandS.Deep
import HandS.IsInst
import HandS.Strs
import HandS.Codes
import HandS.Gcd
import KE.SortData
import KE.DataMinMax
import HandS.SetFor
import HandS.TupSets
import HandS.SetKeys
import HandS.OwnEq
import HandS.Defaults
import HandS.MakeKwOnly
import HandS.Flow
import HandS.Style
import PySem.Challenge.RW_darkpace_k26_hands_told
set_option Elab.async false
set_option linter.all false
set_option maxRecDepth 100000
set_option exponentiation.threshold 3000
set_option maxHeartbeats 16000000
/-! Rules of our own: data under a growing heap, sorted and max and min of data, set of ints, a written dict's item, a method called with a keyword. -/
namespace DP
open PySem PySem.Spec PyProof.Rows L2

theorem rooms {A : Around} {k : Nat} (hr : Room k A) : A.units + 65 < cLine := by have := hr.un; omega

theorem Same.rd {H H' : Hp} {a : Addr} {u : HO} (S : Same H H') (h : Rd H a u) : Rd H' a u := by
  rcases h with h | ⟨o, h⟩
  · exact Or.inl (S _ _ h)
  · exact Or.inr ⟨o, S _ _ h⟩
theorem Same.sqT {K : PySem.W.Frag} {H H' : Hp} {a : Addr} {xs : List V} (S : Same H H') (h : SqT K H a xs) : SqT K H' a xs := by
  rcases h with h | h
  · exact Or.inl (Same.rd S h)
  · exact Or.inr h
theorem Same.sqL {K : PySem.W.Frag} {H H' : Hp} {a : Addr} {xs : List V} (S : Same H H') (h : SqL K H a xs) : SqL K H' a xs := by
  rcases h with h | h
  · exact Or.inl (Same.rd S h)
  · exact Or.inr h
mutual
theorem dp_mono {K : PySem.W.Frag} {H H' : Hp} (S : Same H H') : ∀ (d : PyData) (v : V), Dp K H v d → Dp K H' v d
  | .none, _, h => by cases h; exact .non
  | .bool b, _, h => by cases h; exact .bl _
  | .int b, _, h => by cases h; exact .int _
  | .str b, _, h => by cases h; exact .str _
  | .list ds, _, h => by
    cases h with
    | lst s a => exact .lst (Same.sqL S s) (dpAll_mono S ds _ a)
  | .tuple ds, _, h => by
    cases h with
    | tup s a => exact .tup (Same.sqT S s) (dpAll_mono S ds _ a)
  | .dict _, _, h => by cases h
theorem dpAll_mono {K : PySem.W.Frag} {H H' : Hp} (S : Same H H') : ∀ (ds : List PyData) (vs : List V), DpAll K H vs ds → DpAll K H' vs ds
  | [], _, h => by cases h; exact .nil
  | d :: ds, _, h => by
    cases h with
    | cons a b => exact .cons (dp_mono S d _ a) (dpAll_mono S ds _ b)
end
section
variable {K : PySem.W.Frag} {H : Hp}
theorem dpAll_len : ∀ {vs : List V} {ds : List PyData}, DpAll K H vs ds → vs.length = ds.length
  | _, _, .nil => rfl
  | _, _, .cons _ t => by rw [List.length_cons, List.length_cons, dpAll_len t]
theorem dpAll_get : ∀ {vs : List V} {ds : List PyData} {i : Nat} {v : V}, DpAll K H vs ds → vs[i]? = some v → ∃ d, ds[i]? = some d ∧ Dp K H v d
  | _, _, _, _, .nil, e => by simp at e
  | _, _, 0, _, .cons r _, e => by simp at e; subst e; exact ⟨_, rfl, r⟩
  | _, _, i + 1, v, .cons _ t, e => by
    obtain ⟨d, h1, h2⟩ := dpAll_get (i := i) (v := v) t (by simpa using e)
    exact ⟨d, by simpa using h1, h2⟩
theorem dpAll_get' : ∀ {vs : List V} {ds : List PyData} {i : Nat} {d : PyData}, DpAll K H vs ds → ds[i]? = some d → ∃ v, vs[i]? = some v ∧ Dp K H v d
  | _, _, _, _, .nil, e => by simp at e
  | _, _, 0, _, .cons r _, e => by simp at e; subst e; exact ⟨_, rfl, r⟩
  | _, _, i + 1, v, .cons _ t, e => by
    obtain ⟨d, h1, h2⟩ := dpAll_get' (i := i) (d := v) t (by simpa using e)
    exact ⟨d, by simpa using h1, h2⟩
theorem dpAll_snoc : ∀ {vs : List V} {ds : List PyData} {v : V} {d : PyData}, DpAll K H vs ds → Dp K H v d → DpAll K H (vs ++ [v]) (ds ++ [d])
  | _, _, _, _, .nil, r => .cons r .nil
  | _, _, _, _, .cons q t, r => .cons q (dpAll_snoc t r)
theorem dpAll_app : ∀ {vs ws : List V} {ds es : List PyData}, DpAll K H vs ds → DpAll K H ws es → DpAll K H (vs ++ ws) (ds ++ es)
  | _, _, _, _, .nil, r => r
  | _, _, _, _, .cons q t, r => .cons q (dpAll_app t r)
theorem dpAll_ints : ∀ ns : List Int, DpAll K H (ns.map V.int) (ns.map PyData.int)
  | [] => .nil
  | n :: ns => .cons (.int n) (dpAll_ints ns)
theorem dpAll_int : ∀ {vs : List V} {ns : List Int}, DpAll K H vs (ns.map PyData.int) → vs = ns.map V.int
  | _, [], h => by cases h; rfl
  | _, n :: ns, h => by
    have h' : DpAll K H _ (PyData.int n :: ns.map PyData.int) := h
    cases h' with
    | cons a b =>
      cases a
      rw [dpAll_int b]; rfl
theorem same_upd {H : Hp} {p : Addr} {o : HO} (h : H p = none) : Same H (upd H p o) := fun b u e => by rw [upd_ne (ne_of_none e h)]; exact e
end

section
variable {X : Cx}
/-- sorted(xs): xs a list of alike data, of any length; P is what is known of each -/
def rSortD (K : PySem.W.Frag) {β : Type} (enc : β → PyData) : List V → Hp → VK → Prop := fun vs H Q => ∃ (a : Addr) (xs : List V) (bs : List β), vs = [V.ref a] ∧ SqL K H a xs ∧ DpAll K H xs (bs.map enc) ∧
  PySem.W.AllAlike (bs.map enc) ∧ PySem.W.Sortable (bs.map enc) ∧ (∀ b ∈ bs, (enc b).depth ≤ 60) ∧
  ∀ (p : Addr) (ys : List V) H', H p = none → Same H H' → H' p = some (.lst ys) → DpAll K H' ys ((bs.mergeSort (PySem.W.dataLe false enc)).map enc) → Q (.ref p) H'
theorem each_vals {K : PySem.W.Frag} {H : Hp} {β : Type} {enc : β → PyData} : ∀ {xs : List V} {us : List Value} {bs : List β}, Vals xs us → DpAll K H xs (bs.map enc) → PySem.W.EachIs (fun u b => ∃ x, RelV x u ∧ Dp K H x (enc b)) us bs
  | _, _, [], r, d => by
    have d' : DpAll K H _ [] := d
    cases d'
    cases r
    exact .nil
  | _, _, b :: bs, r, d => by
    have d' : DpAll K H _ (enc b :: bs.map enc) := d
    cases d' with
    | cons d1 d2 =>
      cases r with
      | cons r1 r2 => exact .cons ⟨_, r1, d1⟩ (each_vals r2 d2)
theorem vals_each {K : PySem.W.Frag} {H : Hp} {β : Type} {enc : β → PyData} : ∀ {us : List Value} {bs : List β}, PySem.W.EachIs (fun u b => ∃ x, RelV x u ∧ Dp K H x (enc b)) us bs → ∃ xs, Vals xs us ∧ DpAll K H xs (bs.map enc)
  | _, _, .nil => ⟨[], .nil, .nil⟩
  | _, _, .cons ⟨x, r, d⟩ t => by
    obtain ⟨xs, h1, h2⟩ := vals_each t
    exact ⟨x :: xs, .cons r h1, .cons d h2⟩
theorem cr_sortD {β : Type} (enc : β → PyData) (hu : X.A.units + 65 < cLine) : CallR X (.builtin "sorted") (rSortD X.K enc) := by
  intro pins s σ H vs us Q I r h
  obtain ⟨a, xs, bs, rfl, hs, hd, hal, hk, hdep, q⟩ := h
  obtain ⟨its, rv, hl, hz⟩ := I.list hs
  rw [Vals.ref1 r]
  have hlen : its.length = bs.length := by rw [← rv.length, dpAll_len hd, List.length_map]
  have e := each_vals rv hd
  obtain ⟨as, ra⟩ := Dp.readsAll I _ _ _ hd rv
  refine PySem.W.sorted_data (enc := enc) (bs := bs) (vs := its) hl.isList e (PySem.W.readsAll_each enc ra) hal hk (by rw [← hlen, ← rv.length]; exact hz) (fun b hb => ?_) fun out ho eo => ?_
  · have := hdep b hb
    omega
  · obtain ⟨ys, h1, h2⟩ := vals_each eo
    obtain ⟨ep, he'⟩ := PyProof.Rows.sortedAll_at s.heap its (List.toArray out)
    have hn : H (s.heap.objs.size + 1) = none := I.hok.fresh (Nat.le_succ _)
    have hyl : ys.length ≤ sizeLine := by
      rw [h1.length, ho, ← hlen, ← rv.length]; exact hz
    refine ⟨.ref _, upd H (s.heap.objs.size + 1) (.lst ys), I.laid (t' := s.toks) (fun _ _ => PyProof.Rows.sortedAll_old) (Nat.le_succ _) ⟨hyl, out, ep, h1, he'⟩, rfl, q _ ys _ hn (same_upd hn) upd_same ?_⟩
    exact dpAll_mono (same_upd hn) _ _ h2

/-- max(xs), min(xs): xs a list of alike data -/
def rBestD (K : PySem.W.Frag) (best : PyData → List PyData → PyData) : List V → Hp → VK → Prop := fun vs H Q => ∃ (a : Addr) (xs : List V) (d : PyData) (ds : List PyData), vs = [V.ref a] ∧ SqL K H a xs ∧ DpAll K H xs (d :: ds) ∧
  PySem.W.AlikeAll (d :: ds) ∧ PyData.canLayAll0 (d :: ds) = true ∧ PyData.depthAll (d :: ds) ≤ 60 ∧
  ∀ (x : V), Dp K H x (best d ds) → Q x H
theorem best_end {pins : List (Addr × Obj)} {s : Shared} {σ : L2.St} {H : Hp} {Q : VK} (I : Inv X pins σ H s) {xs : List V} {its : List Value} {as : List Addr} {ds : List PyData} (rv : Vals xs its) (hd : DpAll X.K H xs ds) (ra : ReadsAll s.heap its ds as) (hc : PyData.canLayAll0 ds = true) {i : Nat} {v : Value} {h' : Heap} {tk : Nat} {bs : List Addr} {e : PyData} (hi : its.toArray[i]? = some v)
    (hr : Reads h' v e bs) (he : e.canLay0 = true) (hk : ∀ b o, s.heap.get? b = some o → h'.get? b = some o) (q : ∀ x, Dp X.K H x e → Q x H) : EP X pins σ Q v { heap := h', gens := s.gens, drawn := s.drawn, toks := tk, os := s.os } := by
  have hi' : its[i]? = some v := by simpa using hi
  have hlt : i < its.length := by
    rcases Nat.lt_or_ge i its.length with h | h
    · exact h
    · rw [List.getElem?_eq_none h] at hi'; cases hi'
  obtain ⟨x, hx⟩ : ∃ x, xs[i]? = some x := ⟨xs[i]'(by rw [rv.length]; exact hlt), List.getElem?_eq_getElem _⟩
  obtain ⟨u, hu, ru⟩ := rv.get hx
  have euv : u = v := Option.some.inj (hu.symm.trans hi')
  subst euv
  obtain ⟨d, hdi, hdx⟩ := dpAll_get hd hx
  obtain ⟨as', rx⟩ := Dp.reads I d x u hdx ru
  have rx' : Reads h' u d as' := PyProof.Rows.Reads.keeps hk rx
  have hcd : d.canLay0 = true := by
    have : ∀ (ds : List PyData) (i : Nat), PyData.canLayAll0 ds = true → ds[i]? = some d → d.canLay0 = true := by
      intro ds
      induction ds with
      | nil => intro i _ h; simp at h
      | cons a r ih =>
        intro i h1 h2
        rw [PyData.canLayAll0, Bool.and_eq_true] at h1
        cases i with
        | zero => simp at h2; rw [← h2]; exact h1.1
        | succ i => exact ih i h1.2 (by simpa using h2)
    exact this ds i hc hdi
  have e1 := SeqAt.readOf_eq hcd rx'
  have e2 := SeqAt.readOf_eq he hr
  have ed : d = e := e1.symm.trans e2
  subst ed
  exact ⟨x, H, I.kept hk, ru, q x hdx⟩
theorem canLay_fold (f : PyData → PyData → Bool) : ∀ (ds : List PyData) (d : PyData), PyData.canLayAll0 (d :: ds) = true → (ds.foldl (fun a y => if f a y then y else a) d).canLay0 = true
  | [], d, h => by
    rw [PyData.canLayAll0, Bool.and_eq_true] at h
    exact h.1
  | e :: ds, d, h => by
    rw [PyData.canLayAll0, PyData.canLayAll0, Bool.and_eq_true, Bool.and_eq_true] at h
    rw [List.foldl_cons]
    refine canLay_fold f ds _ ?_
    rw [PyData.canLayAll0, Bool.and_eq_true]
    refine ⟨?_, h.2.2⟩
    split
    · exact h.2.1
    · exact h.1
theorem cr_maxD (hc : X.calm = true) (hu : X.A.units + 65 < cLine) : CallR X (.builtin "max") (rBestD X.K PySem.W.maxD) := by
  intro pins s σ H vs us Q I r h
  obtain ⟨a, xs, d, ds, rfl, hs, hd, hal, hl0, hdep, q⟩ := h
  obtain ⟨its, rv, hl, hz⟩ := I.list hs
  rw [Vals.ref1 r]
  obtain ⟨as, ra⟩ := Dp.readsAll I _ _ _ hd rv
  exact PySem.W.max_list_data (I.ok.hd hc) hl.isList (by simpa using ra) hal (by omega) fun i v h' tk bs hi hr hk => best_end I rv hd ra hl0 hi hr (canLay_fold _ ds d hl0) hk q
theorem cr_minD (hc : X.calm = true) (hu : X.A.units + 65 < cLine) : CallR X (.builtin "min") (rBestD X.K PySem.W.minD) := by
  intro pins s σ H vs us Q I r h
  obtain ⟨a, xs, d, ds, rfl, hs, hd, hal, hl0, hdep, q⟩ := h
  obtain ⟨its, rv, hl, hz⟩ := I.list hs
  rw [Vals.ref1 r]
  obtain ⟨as, ra⟩ := Dp.readsAll I _ _ _ hd rv
  exact PySem.W.min_list_data (I.ok.hd hc) hl.isList (by simpa using ra) hal (by omega) fun i v h' tk bs hi hr hk => best_end I rv hd ra hl0 hi hr (canLay_fold (fun a y => PySem.W.dataLt y a) ds d hl0) hk q
end
end DP
/-! set(xs) of a list of whole numbers, sorted then. -/
namespace DP
open PySem PySem.Spec PyProof.Rows L2
/-- a fresh set -/
abbrev newSet (w : World) : Obj := { cls := .type "set", dict := none, data := .set #[] 0 (.fresh 0 0 (!w.params.followText "set-order")) }
theorem set_of_ints {P : Program} {w : World} {A : Around} {E : Value → Shared → Prop} {s : Shared} {l : Addr} {items : Array Value} (ns : List Int) {Q : Value → Shared → Prop} (hh : A.handled = none) (hl : s.heap.IsList l items) (hit : IntsAre items.toList ns) (hb : ns.length + 1 < scanBound)
    (h : ∀ (h' : Heap) (tk c : Nat), SetR w h' s.heap.objs.size (fun j => decide (j ∈ ns)) c → c ≤ ns.length → (∀ b o, s.heap.get? b = some o → h'.get? b = some o) → Q (.ref s.heap.objs.size) { s with heap := h', toks := tk }) :
    wpAny (model P w) A (call (.type "set") [.ref l]) Q E s := by
  have hisz : items.size = ns.length := (Array.length_toList (xs := items)).symm.trans (IntsAre.length hit)
  have C := F.called_set
  obtain ⟨c, tl, hmro⟩ := C.mro
  have hmade := C.made; have hsub := C.sub
  refine wpAny_call (codeAny_of_tree ?_)
  show wpAny _ _ (callAny (.type "set") _) _ _ _
  refine wpAny_pure ⟨Code.quiet_builtin _ (by decide +kernel), codeAny_builtin F.entry_type_call ?_⟩
  rw [Around.under_plain (weight_type_call_type "set" [.ref l] []) rfl]
  have h1 := C.notType; have h2 := C.canCreate
  have hct := F.typeCall_set_1 (.ref l)
  repeat (any_goals (first | assumption | wp_step))
  refine codeAny_mono (code_set_led1 (.ref l) (E := E) (Q₁ := fun obj s₁ => obj = .ref s.heap.objs.size ∧ s₁ = { s with heap := s.heap.push (newSet w) }) ⟨rfl, rfl⟩) fun r s₁ hr => ?_
  cases r with
  | error e => exact hr
  | ok fl =>
  cases fl with
  | ret obj =>
    obtain ⟨rfl, rfl⟩ := hr
    have hS : (s.heap.push (newSet w)).get? s.heap.objs.size = some (newSet w) := Heap.get?_push_size _ rfl
    have hT : Shared.TypeIs { s with heap := s.heap.push (newSet w) } (.ref s.heap.objs.size) "set" := ⟨_, hS, rfl⟩
    have hli := C.init.lookup; have hbi := C.init.bind (.ref s.heap.objs.size)
    repeat (any_goals (first | assumption | wp_step))
    refine codeAny_mono (codeAny_call_builtin (R := wants (fun r s₂ => r = .none ∧ ∃ h' tk c, s₂ = { s with heap := h', toks := tk } ∧ SetR w h' s.heap.objs.size (fun j => decide (j ∈ ns)) c ∧ c ≤ ns.length ∧ ∀ b o, s.heap.get? b = some o → h'.get? b = some o) E) C.init.plain F.entry_set_init (check_set_init_1 hT ?_)) fun r₂ s₂ hr₂ => ?_
    · obtain ⟨⟨ocls, odict, odata, oslots⟩, hol, hcl, nl, hdl⟩ := hl
      simp only at hcl hdl
      subst hcl hdl
      have hol' : (s.heap.push (newSet w)).get? l = some { cls := .type "list", dict := odict, data := .seq items nl, slots := oslots } := Heap.get?_push_of_some _ hol
      have hsls := F.sub_list_set; have hslf := F.sub_list_frozenset
      have hne : (Value.type "list" == Value.type "dict") = false := by decide
      have hl1 : (s.heap.push (newSet w)).IsList l items := ⟨_, hol', rfl, nl, rfl⟩
      unfold Builtin.«set.__init__» noKeywords Builtin.Frozenset.updateFrom
      generalize hPI : pyIter = PI
      wp_walk
      subst hPI
      refine wpAny_pyIter_list hl1 (wpAny_bind (wpAny_runValue ?_))
      have hlS : l < s.heap.objs.size := Heap.lt_size hol
      have hh3 : A.in1.in1.in1.handled = none := by simp [hh]
      have hz : (s.heap.push (newSet w)).objs.size = s.heap.objs.size + 1 := Heap.size_push ..
      have hneI : l ≠ (s.heap.push (newSet w)).objs.size := by rw [hz]; exact Nat.ne_of_lt (Nat.lt_succ_of_lt hlS)
      have hSf : s.heap.objs.size ∉ [(s.heap.push (newSet w)).objs.size, l] := by
        rw [hz]; simp only [List.mem_cons, List.not_mem_nil, or_false, not_or]; exact ⟨Nat.ne_of_lt (Nat.lt_succ_self _), Nat.ne_of_gt hlS⟩
      have hval : ∀ (i : Nat) (v : Value), items[i]? = some v → ∃ k t, ns[i]? = some k ∧ v = .int k t := fun i v hv => by
        have hi : i < ns.length := hisz ▸ (Array.getElem?_eq_some_iff.mp hv).1
        obtain ⟨t, e⟩ := PyProof.Rows.IntsAre.int_at hit i v (by rw [Array.getElem?_toList]; exact hv)
        exact ⟨ns[i], t, List.getElem?_eq_getElem hi, by rw [e, List.getD_eq_getElem?_getD, List.getElem?_eq_getElem hi]; rfl⟩
      refine set_update_ints ((Walks.list hh3 _ l hneI items).toS) s.heap.objs.size hSf ns hisz hb hval (items.size - 0) 0 _ (by omega) (Nat.zero_le _) ⟨⟨_, Heap.get?_push_size _ rfl, rfl, rfl⟩, (hl1.push _)⟩ ?z0 ?zR
      case z0 => exact ⟨0, Nat.le_refl 0, setR_new_at (Heap.get?_push_of_some _ hS)⟩
      case zR =>
        intro s' c' hm hc' hS'
        obtain ⟨h', g2, d', tk', os'⟩ := s'
        have eg : g2 = s.gens := hm.gens
        have ed : d' = s.drawn := hm.drawn
        have eo : os' = s.os := hm.os
        subst eg ed eo
        rw [hisz] at hc'
        refine wpAny_pure (?_ : wpAny _ _ (ret Value.none) _ _ _)
        refine wpAny_pure ⟨rfl, h', tk', c', rfl, hS', hc', fun b o e => ?_⟩
        have hb0 : b < s.heap.objs.size := Heap.lt_size e
        refine hm.heap b o ?_ (Heap.get?_push_of_some _ (Heap.get?_push_of_some _ e))
        simp only [List.mem_cons, List.not_mem_nil, or_false, not_or]
        exact ⟨Nat.ne_of_lt hb0, by rw [hz]; exact Nat.ne_of_lt (Nat.lt_succ_of_lt hb0)⟩
    · cases r₂ with
      | error e => exact hr₂
      | ok fl₂ =>
      cases fl₂ with
      | ret r =>
        obtain ⟨rfl, h', tk, c', rfl, hS', hc', hk'⟩ := hr₂
        repeat (any_goals (first | assumption | wp_step))
        exact h _ _ _ hS' hc' hk'
      | _ => exact hr₂.elim
  | _ => exact hr.elim
section
variable {X : Cx}
/-- set(xs), xs a list of whole numbers -/
def rSetI (K : PySem.W.Frag) (w : World) : List V → Hp → VK → Prop := fun vs H Q => ∃ (l : Addr) (ns : List Int), vs = [V.ref l] ∧ SqL K H l (ns.map V.int) ∧ ns.length ≤ 60 ∧
  ∀ (a : Addr) (c : Nat), c ≤ ns.length → H a = none → Q (.ref a) (upd H a (SetO w a (fun j => decide (j ∈ ns)) c))
theorem cr_setI (hc : X.calm = true) : CallR X (.type "set") (rSetI X.K X.w) := by
  intro pins s σ H vs us Q I r h
  obtain ⟨l, ns, rfl, hs, hlen, q⟩ := h
  obtain ⟨its, rv, pl, hz⟩ := I.list hs
  rw [Vals.ref1 r]
  have hi : IntsAre its.toArray.toList ns := by simpa using rv.ints
  refine set_of_ints ns (I.ok.hd hc) pl.isList hi (by unfold scanBound; omega) fun h' tk c R hcl hk => ?_
  exact ⟨.ref _, upd H s.heap.objs.size (SetO X.w s.heap.objs.size (fun j => decide (j ∈ ns)) c), I.laid (t' := tk) hk (Nat.le_refl _) (setO_new R), rfl, q _ c hcl (I.hok.fresh (Nat.le_refl _))⟩
/-- d[k], d a written dict -/
theorem ix_kd {d : Addr} {es : Array DictEntry} {n : Nat} (D : KDict X.K X.w d es n) : IxR X (fun x y H Q => ∃ (z : Str) (u0 : Value) (v0 : V), x = .ref d ∧ y = .str z ∧ PySem.W.nsIn X.K d z = some (some u0) ∧ RelV v0 u0 ∧ Q v0 H) := by
  intro value slice pins s σ H x y v u Q I rx ry h hs
  obtain ⟨z, u0, v0, ex, ey, e, r, q⟩ := h
  subst ex ey
  cases rx
  obtain ⟨t, rfl⟩ := ry
  have fin : EP X pins σ Q u0 s := ⟨v0, H, I, r, q⟩
  exact subscriptTail_builtinR (x := u0) (kd_type D I) PySem.F.slot_dict_getitem.lookup
    (wpAny_getItem_of (PySem.strKind_is X.prog X.w z t) (PySem.W.mapOf_K (prog := X.prog) I.kIn D.at_ D.lit) (PySem.W.find_K D.at_ e) ⟨rfl, ⟨v0, H, I.tok _, r, q⟩⟩) hs
end
end DP
/-! The rules with the written part named, for comprehensions; a method called with keywords. -/
namespace DP
open PySem PySem.Spec PyProof.Rows L2
section
variable {X : Cx} {K : PySem.W.Frag}
theorem ixT (h : X.K = K := by rfl) : IxR X (rIxT K) := by subst h; exact ix_tup
theorem ixL (h : X.K = K := by rfl) : IxR X (rIxL K) := by subst h; exact ix_list
theorem inS (h : X.K = K := by rfl) : OpR X (compareOp .In) (rIn K false) := by subst h; exact op_in_seq
theorem notInS (h : X.K = K := by rfl) : OpR X (compareOp .NotIn) (rIn K true) := by subst h; exact op_notIn_seq
theorem eqDK (hu : X.A.units + 64 < cLine) (h : X.K = K := by rfl) : OpR X (compareOp .Eq) (rEqD K) := by subst h; exact op_eqD hu
theorem neDK (hu : X.A.units + 64 < cLine) (h : X.K = K := by rfl) : OpR X (compareOp .NotEq) (rNeD K) := by subst h; exact op_neD hu
theorem inDK (hu : X.A.units + 65 < cLine) (h : X.K = K := by rfl) : OpR X (compareOp .In) (rInD K) := by subst h; exact op_inD hu
theorem notInDK (hu : X.A.units + 65 < cLine) (h : X.K = K := by rfl) : OpR X (compareOp .NotIn) (rNotInD K) := by subst h; exact op_notInD hu
def rLenK (K : PySem.W.Frag) : List V → Hp → VK → Prop := fun xs H Q => ∃ p ys, xs = [V.ref p] ∧ (SqL K H p ys ∨ SqT K H p ys) ∧ Q (.int ys.length) H
theorem lenK (h : X.K = K := by rfl) : CallR X (.builtin "len") (rLenK K) := by subst h; exact call_len_seq
def rListK (K : PySem.W.Frag) : List V → Hp → VK → Prop := fun xs H Q => ∃ p ys, xs = [V.ref p] ∧ (SqL K H p ys ∨ SqT K H p ys) ∧ ∀ l, H l = none → Q (.ref l) (upd H l (.lst ys))
theorem listK (h : X.K = K := by rfl) : CallR X (.type "list") (rListK K) := by subst h; exact call_list_of
theorem maxK (hc : X.calm = true) (h : X.K = K := by rfl) : CallR X (.builtin "max") (rMax K) := by subst h; exact cr_max hc
theorem minK (hc : X.calm = true) (h : X.K = K := by rfl) : CallR X (.builtin "min") (rMin K) := by subst h; exact cr_min hc
theorem maxDK (hc : X.calm = true) (hu : X.A.units + 65 < cLine) (h : X.K = K := by rfl) : CallR X (.builtin "max") (rBestD K PySem.W.maxD) := by subst h; exact cr_maxD hc hu
theorem minDK (hc : X.calm = true) (hu : X.A.units + 65 < cLine) (h : X.K = K := by rfl) : CallR X (.builtin "min") (rBestD K PySem.W.minD) := by subst h; exact cr_minD hc hu
theorem sortK (h : X.K = K := by rfl) : CallR X (.builtin "sorted") (rSorted K) := by subst h; exact cr_sorted
theorem sortDK {β : Type} (enc : β → PyData) (hu : X.A.units + 65 < cLine) (h : X.K = K := by rfl) : CallR X (.builtin "sorted") (rSortD K enc) := by subst h; exact cr_sortD enc hu
theorem setIK {w : World} (hc : X.calm = true) (h : X.K = K := by rfl) (hw : X.w = w := by rfl) : CallR X (.type "set") (rSetI K w) := by subst h hw; exact cr_setI hc
theorem sortedSetK {w : World} (hc : X.calm = true) (hw : X.w = w := by rfl) : CallR X (.builtin "sorted") (rSortedSet w) := by subst hw; exact cr_sortedSet hc
theorem slL (h : X.K = K := by rfl) : SlR X (rSlL K) := by subst h; exact sl_list
theorem isiK (h : X.K = K := by rfl) : CallR X (.builtin "isinstance") (rIsi K) := by subst h; exact call_isi
theorem fldK {o : Expr} {ta : TE} {f : Str} {pos : Pos} (he : PE X o ta) (hb : attributeBase o f X.env (eval o X.env) = eval o X.env := by rfl) (h : X.K = K := by rfl) : PE X (.Attribute o f pos) (tFld K ta f) := by subst h; exact pe_fld he hb
theorem tupK {es : List Expr} {k : Nat} {t : TGs} {n : Nat} {pos : Pos} (hc : X.calm = true) (h1 : PGs X es t) (hn : (assignEach es X.env).length = n := by rfl) (hst : (assignEach es X.env).findIdx? (·.1) = none := by rfl) (h : X.K = K := by rfl) :
    PG X (.Tuple es k pos) (gTup K n t) := by subst h; exact pg_tup hc h1 hn hst
end
section
variable {X : Cx} {CX : CXT} {k : Nat} {f C : Addr} {fd : FuncData} {ps ks : List Str} {sp : Sp} {E : XK} {m : Str} {pos apos : Pos} {o : Expr} {kws : List Keyword} {ta : TE} {tk : TA} {g : List Value → List Value → List Value} {gV : List V → List V → List V}
/-- o.m(k = v, ..) -/
def tMethK (C : Addr) (m : Str) (sp : Sp) (gV : List V → List V → List V) (E : XK) (ta : TE) (tk : TA) : TE := fun σ H Q => ta σ H fun x H1 => ∃ a dx fs, x = .ref a ∧ H1 a = some (.ins C dx fs) ∧ fs.lookup m = none ∧ tk σ H1 fun zs H2 => sp (gV [.ref a] zs) H2 Q E
theorem pe_methK0 {pl : Sem Bool} (he : PE X o ta) (c : Cls X.K C) (hm : Meth X.K C m f) (F : FnOk X.prog X.w X.K X.mg X.base CX k f fd ps sp) (hr : Room k X.A) (hb : KBinds X.K fd ps ks g gV) (hx : Passes CX X E) (hkw : PK X kws tk)
    (hall : (backToKw pos (keywordEach kws X.env)).all (·.1.isSome) = true := by rfl) (hks : (backToKw pos (keywordEach kws X.env)).filterMap (·.1) = ks := by rfl)
    (hpl : ((backTo pos (starEach [] X.env)).any (·.1) || (backToKw pos (keywordEach kws X.env)).any (·.1.isNone)) = false := by rfl)
    (ht : eval (.Call (.Attribute o m apos) [] kws pos) X.env = (do
      let ov ← eval o X.env
      standAt apos.atName
      let (f, first) ← holding [ov] (getMethod ov m pl)
      callWith pos f first (backTo pos (starEach [] X.env)) (backToKw pos (keywordEach kws X.env))) := by rfl) :
    PE X (.Call (.Attribute o m apos) [] kws pos) (tMethK C m sp gV E ta tk) := by
  refine ⟨fun pins s σ H Q I h => ?_⟩
  refine PySem.W.methodCall_KW (pl := pl) (thn (he.run pins s σ H _ I h) fun u s1 ⟨x, H1, I1, rx, a, dx, fs, ex, ea, l, q⟩ => ?_) ht
  subst ex
  obtain rfl : u = Value.ref a := rx
  refine getmeth_ok I1 ea c hm l ?_
  refine PySem.W.callWith_KW0 (first := [.ref a]) (h₀ := X.base) I.ok.mod.kin hm.kp hall ?_ hpl
  refine thn (hkw.run pos pins s1 σ H1 _ I1 q) fun ws s2 ⟨zs, H2, I2, rz, q2⟩ => ⟨I2.kIn, ?_⟩
  rw [hks]
  exact run_fnk (us := [.ref a]) (vs := [.ref a]) F hr hb hx I2 (.cons rfl .nil) rz q2
end
/-- one positional value, one keyword -/
def g11 {α : Type} : List α → List α → List α
  | [a], [b] => [a, b]
  | _, _ => []
theorem g11_rel {vs : List V} {us : List Value} {zs : List V} {ws : List Value} (r : Vals vs us) (q : Vals zs ws) : Vals (g11 vs zs) (g11 us ws) := by
  cases r with
  | nil => exact .nil
  | cons a t =>
    cases t with
    | cons _ _ => exact .nil
    | nil =>
      cases q with
      | nil => exact .nil
      | cons b t =>
        cases t with
        | cons _ _ => exact .nil
        | nil => exact .cons a (.cons b .nil)
end DP
/-! A set of tuples whose parts are plain (whole numbers, texts), made of a list and sorted: over any kind of plain parts. -/
namespace SD
open PySem PySem.Spec PyProof.Rows L2
section
variable {P : Program} {w : World} {κ : Type} [DecidableEq κ] {kn : KeyKind P w κ} {A : Around} {E : Value → Shared → Prop} {s : Shared}
/-- parts are no objects -/
def Plain (kn : KeyKind P w κ) : Prop := ∀ k v, kn.is k v = true → v.scannable = true
abbrev TupAt (kn : KeyKind P w κ) (h : Heap) (p : Addr × List κ) : Prop := IsTupleKey kn h p.2 p.1
abbrev hsh (kn : KeyKind P w κ) (k : List κ) : Int := tupleKeyHash kn k
theorem parts (pl : Plain kn) : ∀ {k : List κ} {vs : List Value}, ItemsAre kn k vs → ∀ v ∈ vs, v.scannable = true
  | _, _, .nil, v, h => by cases h
  | _, _, .cons a t, v, h => by
    rcases List.mem_cons.mp h with e | h
    · rw [e]; exact pl _ _ a
    · exact parts pl t v h
theorem no_class1 (n : Nat) {v : Value} (h : v.scannable = true) : ofAClassStatement n v = pure false := by
  cases n <;> cases v <;> simp_all [Value.scannable, ofAClassStatement]
theorem no_class (pl : Plain kn) {b : Addr} {k : List κ} {Q : Bool → Shared → Prop} (hk : TupAt kn s.heap (b, k)) (q : Q false s) : wpAny (model P w) A (ofAClassStatement 8 (.ref b)) Q E s := by
  have ty := IsTupleKey.typeIs hk
  obtain ⟨o, items, n, ho, _, hd, hi⟩ := hk
  have hp := parts pl hi
  unfold ofAClassStatement
  refine wpAny_bind (wpAny_typeOf ty ?_)
  dsimp only
  simp only [show (("tuple" : String) == "tuple") = true by decide, if_true, Bool.not_true, Bool.false_eq_true, if_false]
  try refine wpAny_bind (wpAny_pure ?_)
  try simp only [Bool.not_true, Bool.false_eq_true, if_false]
  refine wpAny_bind (wpAny_seqItems ho hd ?_)
  dsimp only
  refine wpAny_bind ?_
  rw [← Array.forIn_toList]
  refine wpAny_forIn_list _ (fun rest r s2 => (r.1 = none ∧ s2 = s) ∧ ∀ v ∈ rest, v.scannable = true) _ (fun v rest r s2 hh => ?_) (fun r s2 hh => ?_) _ _ ⟨⟨rfl, rfl⟩, hp⟩
  · obtain ⟨⟨h1, rfl⟩, h2⟩ := hh
    rw [no_class1 _ (h2 v List.mem_cons_self)]
    refine wpAny_bind (wpAny_pure ?_)
    simp only [Bool.false_eq_true, if_false]
    exact wpAny_pure ⟨⟨rfl, rfl⟩, fun u hu => h2 u (List.mem_cons_of_mem _ hu)⟩
  · obtain ⟨⟨h1, rfl⟩, _⟩ := hh
    obtain ⟨r1, r2⟩ := r
    have h1' : r1 = none := h1
    subst h1'
    exact wpAny_pure q
theorem by_value (pl : Plain kn) {b : Addr} {k : List κ} {Q : Bool → Shared → Prop} (hk : TupAt kn s.heap (b, k)) (q : ∀ r, Q r s) : wpAny (model P w) A (hashByValue 8 (.ref b)) Q E s := by
  have ty := IsTupleKey.typeIs hk
  obtain ⟨o, items, n, ho, _, hd, hi⟩ := hk
  have hp := parts pl hi
  unfold hashByValue
  refine wpAny_bind (wpAny_specialOf ty F.slot_tuple_hash.lookup ?_)
  show wpAny _ _ (seqItems? (.ref b) >>= _) _ _ s
  refine wpAny_bind (wpAny_seqItems ho hd ?_)
  refine wpAny_bind ?_
  show wpAny _ _ (forIn items _ _) _ _ s
  rw [← Array.forIn_toList]
  refine wpAny_forIn_list _ (fun rest r s2 => s2 = s ∧ ∀ v ∈ rest, v.scannable = true) _ (fun v rest r s2 hh => ?_) (fun r s2 hh => ?_) _ _ ⟨rfl, hp⟩
  · obtain ⟨rfl, h2⟩ := hh
    rw [hashByValue_scannable _ (h2 v List.mem_cons_self)]
    refine wpAny_bind (wpAny_pure ?_)
    cases plainKind v
    · simp only [Bool.not_false, if_true]
      exact wpAny_pure (show wpAny _ _ (pure false) _ _ _ from wpAny_pure (q false))
    · simp only [Bool.not_true, Bool.false_eq_true, if_false]
      exact wpAny_pure ⟨rfl, fun u hu => h2 u (List.mem_cons_of_mem _ hu)⟩
  · obtain ⟨rfl, _⟩ := hh
    obtain ⟨r1, r2⟩ := r
    cases r1 with
    | none => exact wpAny_pure (q true)
    | some r => exact wpAny_pure (q r)
end
section
variable {P : Program} {w : World} {κ : Type} [DecidableEq κ] {kn : KeyKind P w κ} {A : Around} {E : Value → Shared → Prop} {s : Shared}
/-- looking for a tuple among tuples shows nothing -/
theorem unseen (pl : Plain kn) {b : Addr} {k : List κ} {Q : Bool → Shared → Prop} (hk : TupAt kn s.heap (b, k)) {ys : List Value} (hy : ∀ y ∈ ys, ∃ p : Addr × List κ, y = Value.ref p.1 ∧ TupAt kn s.heap p) (q : Q false s) :
    wpAny (model P w) A (searchCouldBeSeen (.ref b) ys) Q E s := by
  unfold searchCouldBeSeen
  refine wpAny_bind ?_
  refine wpAny_forIn_list _ (fun rest r s2 => (r.1 = none ∧ s2 = s) ∧ ∀ y ∈ rest, ∃ p : Addr × List κ, y = Value.ref p.1 ∧ TupAt kn s.heap p) _ (fun v rest r s2 hh => ?_) (fun r s2 hh => ?_) _ _ ⟨⟨rfl, rfl⟩, hy⟩
  · obtain ⟨⟨h1, rfl⟩, h2⟩ := hh
    obtain ⟨p, rfl, hp⟩ := h2 v List.mem_cons_self
    have more : ∀ y ∈ rest, ∃ p : Addr × List κ, y = Value.ref p.1 ∧ TupAt kn s2.heap p := fun u hu => h2 u (List.mem_cons_of_mem _ hu)
    dsimp only
    cases c : (b == p.1 || (carriedByValue (.ref b) && carriedByValue (.ref p.1))) with
    | true =>
      refine wp_if_pos rfl ?_
      exact wpAny_pure ⟨⟨rfl, rfl⟩, more⟩
    | false =>
      refine wp_if_neg Bool.false_ne_true ?_
      refine wpAny_bind (wpAny_eqIsQuiet_tuple hk ?_)
      simp only [Bool.not_true, Bool.false_eq_true, if_false]
      refine wpAny_bind (wpAny_eqIsQuiet_tuple hp ?_)
      simp only [Bool.not_true, Bool.false_eq_true, if_false]
      refine wpAny_bind (no_class pl hk ?_)
      simp only [Bool.false_eq_true, if_false]
      refine wpAny_bind (no_class pl hp ?_)
      simp only [Bool.false_eq_true, if_false]
      exact wpAny_pure ⟨⟨rfl, rfl⟩, more⟩
  · obtain ⟨⟨h1, rfl⟩, _⟩ := hh
    obtain ⟨r1, r2⟩ := r
    have h1' : r1 = none := h1
    subst h1'
    exact wpAny_pure q
/-- an entry's row -/
def row (kn : KeyKind P w κ) (p : Addr × List κ) : Int × Value := (hsh kn p.2, .ref p.1)
/-- the set at a has the tuples L -/
structure Tb (kn : KeyKind P w κ) (h : Heap) (a : Addr) (L : List (Addr × List κ)) (es : Array (Int × Value)) (ep : Nat) (t : SetTable) : Prop where
  obj : ∃ o, h.get? a = some o ∧ o.ExactSet ∧ o.data = .set es ep t
  rows : es.toList = L.map (row kn)
  tab : TabOk t (L.map fun p => hsh kn p.2)
  one : (L.map Prod.snd).Nodup
  led : w.params.followText "set-order" = true ∨ t.led = true
  room : L.length * 5 < t.mask * 3
  few : L.length < 64
def All (kn : KeyKind P w κ) (h : Heap) (L : List (Addr × List κ)) : Prop := ∀ p ∈ L, TupAt kn h p
variable {a : Addr} {L : List (Addr × List κ)} {es : Array (Int × Value)} {ep : Nat} {t : SetTable}
theorem rows_len {L : List (Addr × List κ)} {es : Array (Int × Value)} (h : es.toList = L.map (row kn)) : es.size = L.length := by
  have e := congrArg List.length h
  rwa [Array.length_toList, List.length_map] at e
theorem tab_len {t : SetTable} {L : List (Addr × List κ)} (T : TabOk t (L.map fun p => hsh kn p.2)) : t.place.size = L.length := by
  have e := T.sz
  rwa [List.length_map] at e
theorem fits_of {t : SetTable} {n : Nat} (h1 : t.place.size = n) (h2 : t.dummies = #[]) (h3 : n ≤ t.mask) : t.fits n = true := by
  unfold SetTable.fits SetTable.fill
  rw [h2, h1, Bool.and_eq_true, beq_iff_eq, decide_eq_true_eq]
  exact ⟨rfl, h3⟩
theorem Tb.fit (R : Tb kn s.heap a L es ep t) : t.fits es.size = true := by
  rw [rows_len R.rows]
  have h := R.room
  exact fits_of (tab_len R.tab) R.tab.dm (by omega)
theorem row_at {L : List (Addr × List κ)} {es : Array (Int × Value)} (h : es.toList = L.map (row kn)) {i : Nat} {p : Addr × List κ} (hp : L[i]? = some p) : es[i]? = some (hsh kn p.2, Value.ref p.1) := by
  rw [← Array.getElem?_toList, h, List.getElem?_map, hp]; rfl
theorem undumb (m : Nat) : ∀ (n : Nat) (p : SetTable.Probe), p.dummy = none → (nth m p n).dummy = none
  | 0, _, h => h
  | n + 1, p, h => undumb m n (adv m p) (by unfold adv; split <;> exact h)
abbrev from0 (m : Nat) (h : Int) : SetTable.Probe := runAt m (SetTable.bits h % (m + 1)) (SetTable.bits h)
/-- the search for x, from step c of its way on -/
theorem seek (pl : Plain kn) (R : Tb kn s.heap a L es ep t) (R2 : All kn s.heap L) {x : Addr} {k : List κ} (hx : TupAt kn s.heap (x, k)) (hu : A.units < cLine) {n : Nat} (hn : n < 10 * SetTable.turns t.mask)
    (free : way t.mask (hsh kn k) n ∉ t.place.toList) (full : ∀ c, c < n → way t.mask (hsh kn k) c ∈ t.place.toList) {Q : SetFound → Shared → Prop} (yes : k ∈ L.map Prod.snd → Q (.there none) s)
    (no : k ∉ L.map Prod.snd → Q (.free (way t.mask (hsh kn k) n) false) s) :
    ∀ (f c : Nat) (stand : Option SetTable.Probe), stand.getD (t.probeStart (hsh kn k)) = nth t.mask (from0 t.mask (hsh kn k)) c → c ≤ n → n - c < f →
      (∀ (i : Nat) p, L[i]? = some p → p.2 = k → ∃ d, (c ≤ d ∧ d < n) ∧ t.place.toList[i]? = some (way t.mask (hsh kn k) d)) →
      wpAny (model P w) A (setSearchFrom a (.ref x) (hsh kn k) true f stand) Q E s := by
  intro f
  induction f with
  | zero => intro c stand _ _ z _; exact absurd z (Nat.not_lt_zero _)
  | succ f ih =>
    intro c stand hs hc hf left
    obtain ⟨o, ho, _, hd⟩ := R.obj
    have gw : ¬ t.gaveWay = true := by
      unfold SetTable.gaveWay
      rw [mask_odd R.tab.mok]; decide
    have shift : ∀ q, nth t.mask (nth t.mask (from0 t.mask (hsh kn k)) c) q = nth t.mask (from0 t.mask (hsh kn k)) (c + q) := fun q => (nth_add t.mask c _ q).symm
    have wj : ∀ q, (nth t.mask (nth t.mask (from0 t.mask (hsh kn k)) c) q).j = way t.mask (hsh kn k) (c + q) := fun q => congrArg SetTable.Probe.j (shift q)
    have hcn : c + (n - c) = n := by omega
    have at_ : ∀ (i : Nat) p, L[i]? = some p → ((es[i]?.map (·.1)).getD 0 : Int) = hsh kn p.2 := fun i p hp => by rw [row_at R.rows hp]; rfl
    rw [setSearchFrom_succ]
    refine wpAny_bind (wpAny_setState_of ho hd R.fit ?_)
    dsimp only
    refine wp_if_neg gw ?_
    try refine wpAny_bind (wpAny_pure ?_)
    rcases go_spec t R.tab.ris R.tab.dm (fun i => (es[i]?.map (·.1)).getD 0) (hsh kn k) (10 * SetTable.turns t.mask) (n - c) _ (undumb t.mask c _ rfl) (by omega) (fun q hq => by rw [wj]; exact full _ (by omega)) (by rw [wj, hcn]; exact free) with ⟨q, i, hq, hi, hh, nb, pr⟩ | ⟨nb, pr⟩
    · have pr2 : t.probe (fun i => (es[i]?.map (·.1)).getD 0) (hsh kn k) (stand.getD (t.probeStart (hsh kn k))) = some (.candidate (way t.mask (hsh kn k) (c + q)) i (nth t.mask (from0 t.mask (hsh kn k)) (c + (q + 1)))) := by
        rw [hs, ← wj, ← shift]; exact pr
      rw [pr2]
      dsimp only
      rw [wj] at hi
      have hil : i < L.length := by
        have h1 := (List.getElem?_eq_some_iff.mp hi).1
        rw [Array.length_toList, tab_len R.tab] at h1
        exact h1
      obtain ⟨p, hp⟩ : ∃ p, L[i]? = some p := ⟨_, List.getElem?_eq_getElem hil⟩
      have hpL := List.mem_of_getElem? hp
      have live : t.slot (way t.mask (hsh kn k) (c + q)) = .live i := slot_live R.tab.ris hi
      have cand : wpAny (model P w) A (searchRest a (.ref x) (hsh kn k) true f es t (way t.mask (hsh kn k) (c + q)) i (nth t.mask (from0 t.mask (hsh kn k)) (c + (q + 1)))) Q E s := by
        unfold searchRest
        rw [row_at R.rows hp]
        dsimp only
        refine wpAny_bind (wpAny_holding (wpAny_eqBool_tuple hu (R2 p hpL) hx ?_))
        refine wpAny_bind (wpAny_setState_of ho hd R.fit ?_)
        dsimp only
        by_cases same : p.2 = k
        · refine wp_if_pos (by simp [same]) (wpAny_pure (yes ?_))
          exact List.mem_map.mpr ⟨p, hpL, same⟩
        · refine wp_if_neg (by simp [same]) ?_
          try refine wpAny_bind (wpAny_pure ?_)
          rw [L2.sameMem]
          dsimp only
          simp only [if_true, live, row_at R.rows hp]
          refine wpAny_bind (wpAny_isSame_ref_self (wpAny_bind (wpAny_pure ?_)))
          simp only [if_true]
          refine wp_if_neg (by simp [same]) ?_
          refine ih (c + (q + 1)) _ rfl (by omega) (by omega) fun i2 p2 h2 hk2 => ?_
          obtain ⟨d, ⟨d1, d2⟩, d3⟩ := left i2 p2 h2 hk2
          refine ⟨d, ⟨?_, d2⟩, d3⟩
          rcases Nat.lt_trichotomy d (c + q) with z | z | z
          · refine absurd ((at_ i2 p2 h2).trans (congrArg (hsh kn) hk2)) (nb (d - c) i2 (by omega) ?_)
            rw [wj, show c + (d - c) = d by omega]; exact d3
          · rw [z] at d3
            have e := (slot_live R.tab.ris d3).symm.trans live
            injection e with e
            rw [e, hp] at h2
            exact absurd ((congrArg Prod.snd (Option.some.inj h2)).trans hk2) same
          · omega
      cases hl : t.led with
      | true =>
        refine wp_if_neg (by simp) ?_
        try refine wpAny_bind (wpAny_pure ?_)
        exact cand
      | false =>
        refine wp_if_pos (by simp) ?_
        refine wpAny_bind (unseen pl hx (fun y hy => ?_) ?_)
        · obtain ⟨e, he, rfl⟩ := List.mem_map.mp hy
          have he2 : e ∈ es.toList := by
            have h3 : e ∈ es ∧ e.1 = hsh kn k := by simpa using he
            simpa using h3.1
          rw [R.rows] at he2
          obtain ⟨p2, hp2, rfl⟩ := List.mem_map.mp he2
          exact ⟨p2, rfl, R2 p2 hp2⟩
        · refine wp_if_neg (by decide) ?_
          try refine wpAny_bind (wpAny_pure ?_)
          exact cand
    · have pr2 : t.probe (fun i => (es[i]?.map (·.1)).getD 0) (hsh kn k) (stand.getD (t.probeStart (hsh kn k))) = some (.empty (way t.mask (hsh kn k) n) none) := by
        have e : way t.mask (hsh kn k) n = (nth t.mask (nth t.mask (from0 t.mask (hsh kn k)) c) (n - c)).j := by rw [wj, hcn]
        rw [hs, e]; exact pr
      rw [pr2]
      dsimp only
      refine wpAny_pure (no fun hm => ?_)
      obtain ⟨p2, h2, hk2⟩ := List.mem_map.mp hm
      obtain ⟨i2, hi2⟩ := List.mem_iff_getElem?.mp h2
      obtain ⟨d, ⟨d1, d2⟩, d3⟩ := left i2 p2 hi2 hk2
      refine absurd ((at_ i2 p2 hi2).trans (congrArg (hsh kn) hk2)) (nb (d - c) i2 (by omega) ?_)
      rw [wj, show c + (d - c) = d by omega]; exact d3
theorem seek0 (pl : Plain kn) (R : Tb kn s.heap a L es ep t) (R2 : All kn s.heap L) {x : Addr} {k : List κ} (hx : TupAt kn s.heap (x, k)) (hu : A.units < cLine) {Q : SetFound → Shared → Prop} (yes : k ∈ L.map Prod.snd → Q (.there none) s)
    (no : ∀ n, k ∉ L.map Prod.snd → way t.mask (hsh kn k) n ∉ t.place.toList → (∀ c, c < n → way t.mask (hsh kn k) c ∈ t.place.toList) → Q (.free (way t.mask (hsh kn k) n) false) s) :
    wpAny (model P w) A (setSearch a (.ref x) (hsh kn k) true) Q E s := by
  have hr := R.room
  obtain ⟨n, hn, h1, h2⟩ := R.tab.first (by rw [List.length_map]; omega) (hsh kn k)
  have small : n < 100000 := by
    have : SetTable.turns t.mask ≤ 142 := by
      unfold SetTable.turns
      rcases R.tab.mok with e | e | e <;> omega
    omega
  unfold setSearch
  refine seek pl R R2 hx hu hn h1 h2 yes (fun c => no n c h1 h2) 100000 0 none rfl (Nat.zero_le _) (by omega) fun i p hp hk => ?_
  have hi : (L.map fun p => hsh kn p.2)[i]? = some (hsh kn k) := by rw [List.getElem?_map, hp, ← hk]; rfl
  have hil : i < t.place.toList.length := by
    rw [Array.length_toList, tab_len R.tab]
    exact (List.getElem?_eq_some_iff.mp hp).1
  have hj := List.getElem?_eq_getElem hil
  obtain ⟨d, hd, e⟩ := R.tab.before h1 hi hj
  exact ⟨d, ⟨Nat.zero_le _, hd⟩, by rw [hj, e]⟩
end
section
variable {P : Program} {w : World} {κ : Type} [DecidableEq κ] {kn : KeyKind P w κ} {A : Around} {E : Value → Shared → Prop} {s : Shared}
theorem tup_but {h h' : Heap} {p : Addr × List κ} {a : Addr} {o : Obj} {es : Array (Int × Value)} {ep : Nat} {t : SetTable} (hp : TupAt kn h p) (ho : h.get? a = some o) (hd : o.data = .set es ep t) (hs : Heap.SameBut a h h') : TupAt kn h' p := by
  obtain ⟨o2, its, n, ho2, hc, hd2, hi⟩ := hp
  have ne : p.1 ≠ a := fun e => by
    rw [e, ho] at ho2
    rw [← Option.some.inj ho2, hd] at hd2
    exact nomatch hd2
  exact ⟨o2, its, n, (hs.2 p.1 ne).trans ho2, hc, hd2, hi⟩
theorem tup_keep {h h' : Heap} {p : Addr × List κ} (hp : TupAt kn h p) (hk : ∀ c o, h.get? c = some o → h'.get? c = some o) : TupAt kn h' p := by
  obtain ⟨o2, its, n, ho2, r⟩ := hp
  exact ⟨o2, its, n, hk _ _ ho2, r⟩
theorem mid_perm {α : Type} (L : List α) (p : Nat) (x : α) : (L.take p ++ x :: L.drop p).Perm (x :: L) := by
  have h := List.perm_middle (a := x) (l₁ := L.take p) (l₂ := L.drop p)
  rwa [List.take_append_drop] at h
theorem map_mid {α β : Type} (f : α → β) (L : List α) (p : Nat) (x : α) : (L.take p ++ x :: L.drop p).map f = (L.map f).take p ++ f x :: (L.map f).drop p := by
  rw [List.map_append, List.map_cons, List.map_take, List.map_drop]
/-- the rows in another order -/
theorem reorder {L : List (Addr × List κ)} {es : Array (Int × Value)} {order : Array Nat} (hr : es.toList = L.map (row kn)) (hp : order.toList.Perm (List.range L.length)) :
    ∃ M : List (Addr × List κ), (order.filterMap (es[·]?)).toList = M.map (row kn) ∧ M.Perm L ∧ (M.map fun p => hsh kn p.2) = order.toList.map fun i => (es.map (·.1)).getD i 0 := by
  have each : ∀ l : List Nat, (∀ i ∈ l, i < L.length) → l.filterMap (fun i => es[i]?) = (l.filterMap fun i => L[i]?).map (row kn) ∧ ((l.filterMap fun i => L[i]?).map fun p => hsh kn p.2) = l.map fun i => (es.map (·.1)).getD i 0 := by
    intro l
    induction l with
    | nil => intro _; exact ⟨rfl, rfl⟩
    | cons i l ih =>
      intro hl
      obtain ⟨e1, e2⟩ := ih fun j hj => hl j (List.mem_cons_of_mem _ hj)
      have hi := hl i List.mem_cons_self
      obtain ⟨p, hp⟩ : ∃ p, L[i]? = some p := ⟨_, List.getElem?_eq_getElem hi⟩
      have hrow := row_at hr hp
      rw [List.filterMap_cons_some hrow, List.filterMap_cons_some hp, List.map_cons, List.map_cons, List.map_cons, e1, e2]
      refine ⟨rfl, ?_⟩
      have e3 : (es.map (·.1))[i]? = some (hsh kn p.2) := by rw [Array.getElem?_map, hrow]; rfl
      have e4 : (es.map (·.1)).getD i 0 = hsh kn p.2 := by simp [Array.getD_eq_getD_getElem?, e3]
      rw [e4]
  obtain ⟨e1, e2⟩ := each order.toList fun i hi => List.mem_range.mp (hp.mem_iff.mp hi)
  refine ⟨_, by first | (rw [Array.toList_filterMap]; exact e1) | simpa using e1, ?_, e2⟩
  have all : (List.range L.length).filterMap (fun i => L[i]?) = L := by
    have z : ∀ n, n ≤ L.length → (List.range n).filterMap (fun i => L[i]?) = L.take n := by
      intro n
      induction n with
      | zero => intro _; rfl
      | succ n ih =>
        intro hn
        rw [List.range_succ, List.filterMap_append, ih (Nat.le_of_lt hn), List.take_succ, List.getElem?_eq_getElem hn, List.filterMap_cons_some (List.getElem?_eq_getElem hn)]; rfl
    rw [z _ (Nat.le_refl _), List.take_length]
  have h := hp.filterMap fun i => L[i]?
  rwa [all] at h
variable {a : Addr} {L : List (Addr × List κ)} {es : Array (Int × Value)} {ep : Nat} {t : SetTable}
/-- a larger table -/
theorem larger {o : Obj} (ho : s.heap.get? a = some o) (hx : o.ExactSet) (hd : o.data = .set es ep t) (rows : es.toList = L.map (row kn)) (sz : t.place.size = es.size) (dm : t.dummies = #[]) (fl : es.size ≤ t.mask)
    (one : (L.map Prod.snd).Nodup) (led : w.params.followText "set-order" = true ∨ t.led = true) (few : L.length < 64) {wanted M : Nat}
    (hw : SetTable.sizeAbove wanted - 1 = M) (hM : MaskOk M) (hw2 : SetTable.sizeAbove wanted ≤ 128) (room : L.length * 5 < M * 3) {Q : Unit → Shared → Prop}
    (q : ∀ h' L' es' ep' t', Heap.SameBut a s.heap h' → Tb kn h' a L' es' ep' t' → L'.Perm L → Q () { s with heap := h' }) : wpAny (model P w) A (setRelay a wanted) Q E s := by
  have hn := rows_len rows
  obtain ⟨t2, order, e, hp, T, em, el, _, _⟩ := relaid_ok t (hs := es.map (·.1)) (wanted := wanted) hw hM (by rw [Array.size_map, hn]; omega)
  rw [Array.size_map, hn] at hp
  obtain ⟨N, r1, r2, r3⟩ := reorder rows hp
  rw [← r3] at T
  have hz : (order.filterMap (es[·]?)).size = es.size := by rw [rows_len r1, r2.length_eq, hn]
  rw [setRelay_eq]
  refine wpAny_bind (wpAny_setState_of ho hd (fits_of sz dm fl) ?_)
  dsimp only
  refine wp_if_neg (by rw [sizeLine_eq]; omega) ?_
  try refine wpAny_bind (wpAny_pure ?_)
  rw [e]
  dsimp only
  refine wpAny_bind ?_
  refine wp_if_neg (by rw [hz]; simp) ?_
  try refine wpAny_bind (wpAny_pure ?_)
  refine wpAny_pure ?_
  dsimp only
  refine wpAny_storeSet_of ho hd ?_ (by rw [hz, hn, sizeLine_eq]; omega)
  have but : Heap.SameBut a s.heap (s.heap.update a (Obj.putSet (order.filterMap (es[·]?)) t2)) := Heap.SameBut.update ..
  refine q _ N _ (ep + 1) t2 but ⟨⟨_, store_at ho hd, ⟨hx.1, hx.2.1, hx.2.2⟩, rfl⟩, r1, T, (r2.map Prod.snd).nodup_iff.mpr one, by rw [el]; exact led, by rw [r2.length_eq, em]; exact room, by rw [r2.length_eq]; exact few⟩ r2
theorem plain_off {t : SetTable} {hs : List Int} (T : TabOk t hs) : TabOk { t with plain := false } hs := ⟨T.ris, T.dm, T.sz, T.mok, T.bd, T.reach⟩
/-- one tuple put in -/
theorem adding (pl : Plain kn) (R : Tb kn s.heap a L es ep t) (R2 : All kn s.heap L) {x : Addr} {k : List κ} (hx : TupAt kn s.heap (x, k)) (hu : A.units < cLine) (few : L.length + 1 < 64) {Q : Bool → Shared → Prop}
    (q : ∀ b h' L' es' ep' t', Heap.SameBut a s.heap h' → Tb kn h' a L' es' ep' t' → (L' = L ∧ k ∈ L.map Prod.snd ∨ L'.Perm ((x, k) :: L)) → Q b { s with heap := h' }) :
    wpAny (model P w) A (setAddHashed a (.ref x) (hsh kn k)) Q E s := by
  obtain ⟨o, ho, hex, hd⟩ := R.obj
  have hn := rows_len R.rows
  have hroom := R.room
  unfold setAddHashed
  refine wpAny_holding ?_
  rw [show (100000 : Nat) = 99999 + 1 from rfl, setAddHashedIn_succ]
  refine wpAny_bind (wpAny_setState_of ho hd R.fit ?_)
  dsimp only
  refine wp_if_neg (by simp [byScan, Value.scannable]) ?_
  try refine wpAny_bind (wpAny_pure ?_)
  refine wpAny_bind (seek0 pl R R2 hx hu (fun hm => ?_) fun n hm free full => ?_)
  · dsimp only
    exact wpAny_pure (q false s.heap L es ep t (Heap.SameBut.refl a s.heap) R (.inl ⟨rfl, hm⟩))
  dsimp only
  refine wpAny_bind (wpAny_setState_of ho hd R.fit ?_)
  dsimp only
  obtain ⟨q1, q2, q3, q4, q5, _, _, _, q9⟩ := R.tab.put free full
  generalize t.put (way t.mask (hsh kn k) n) = pt at q1 q3 q4 q5 q9 ⊢
  obtain ⟨t0, p0⟩ := pt
  dsimp only at q1 q3 q4 q5 q9 ⊢
  subst q1
  generalize SetTable.below t.place (way t.mask (hsh kn k) n) = p at q2 q3 ⊢
  -- whatever the table is called now
  have fin : ∀ t1 : SetTable, TabOk t1 ((L.map fun p => hsh kn p.2).take p ++ hsh kn k :: (L.map fun p => hsh kn p.2).drop p) → t1.mask = t.mask → t1.led = t.led → t1.fill = (L.map fun p => hsh kn p.2).length + 1 →
      wpAny (model P w) A (do
        storeSet a (SetTable.insertAt es p (hsh kn k, .ref x)) t1
        if !false && t1.tooFull then setRelay a (SetTable.grown (es.size + 1))
        return true) Q E s := by
    intro t1 T1 em el ef
    have hins : (SetTable.insertAt es p (hsh kn k, Value.ref x)).toList = (L.take p ++ (x, k) :: L.drop p).map (row kn) := by
      rw [SetTable.toList_insertAt, map_mid, R.rows]; rfl
    have pm := mid_perm L p (x, k)
    have hlen : (L.take p ++ (x, k) :: L.drop p).length = L.length + 1 := pm.length_eq
    have T2 : TabOk t1 ((L.take p ++ (x, k) :: L.drop p).map fun p => hsh kn p.2) := by rw [map_mid]; exact T1
    have one1 : ((L.take p ++ (x, k) :: L.drop p).map Prod.snd).Nodup := by
      refine (pm.map Prod.snd).nodup_iff.mpr ?_
      rw [List.map_cons]
      exact List.nodup_cons.mpr ⟨hm, R.one⟩
    have hsz := rows_len hins
    rw [hlen] at hsz
    generalize SetTable.insertAt es p (hsh kn k, Value.ref x) = es1 at hins hsz ⊢
    generalize L.take p ++ (x, k) :: L.drop p = L1 at pm hlen T2 one1 hins
    refine wpAny_bind (wpAny_storeSet_of ho hd ?_ (by rw [hsz, sizeLine_eq]; omega))
    have but : Heap.SameBut a s.heap (s.heap.update a (Obj.putSet es1 t1)) := Heap.SameBut.update ..
    have ho1 := store_at (es' := es1) (t' := t1) ho hd
    generalize s.heap.update a (Obj.putSet es1 t1) = h1 at but ho1 ⊢
    have led1 : w.params.followText "set-order" = true ∨ t1.led = true := by rw [el]; exact R.led
    cases full1 : t1.tooFull with
    | true =>
      have hb : (L.length + 1) * 5 ≥ t.mask * 3 := by
        have h := full1
        unfold SetTable.tooFull at h
        rw [decide_eq_true_eq, ef, em, List.length_map] at h
        exact h
      have two : (t.mask = 7 ∧ L.length = 4) ∨ (t.mask = 31 ∧ L.length = 18) := by
        rcases R.tab.mok with e | e | e <;> rw [e] at hb hroom
        · exact .inl ⟨e, by omega⟩
        · exact .inr ⟨e, by omega⟩
        · exfalso; omega
      have go : ∀ M, SetTable.sizeAbove (SetTable.grown (es.size + 1)) - 1 = M → MaskOk M → SetTable.sizeAbove (SetTable.grown (es.size + 1)) ≤ 128 → (L.length + 1) * 5 < M * 3 →
          wpAny (model P w) A (setRelay a (SetTable.grown (es.size + 1))) (fun _ s' => wpAny (model P w) A (pure true) Q E s') E { s with heap := h1 } := fun M g1 g2 g3 g4 => by
        refine larger (s := { s with heap := h1 }) ho1 ⟨hex.1, hex.2.1, hex.2.2⟩ rfl hins (by rw [tab_len T2, hsz, hlen]) T2.dm (by rw [hsz, em]; omega) one1 led1 (by rw [hlen]; exact few) g1 g2 g3 (by rw [hlen]; exact g4) ?_
        intro h2 L2 es2 ep2 t2 but2 R3 pm2
        exact wpAny_pure (q true h2 L2 es2 ep2 t2 (but.trans but2) R3 (.inr (pm2.trans pm)))
      first
        | (refine wpAny_bind ?_; refine wp_if_pos (by simp) ?_)
        | (refine wp_if_pos (by simp) ?_; refine wpAny_bind ?_)
      rcases two with ⟨_, e2⟩ | ⟨_, e2⟩
      · exact go 31 (by rw [hn, e2, size_20]) (.inr (.inl rfl)) (by rw [hn, e2, size_20]; decide) (by omega)
      · exact go 127 (by rw [hn, e2, size_76]) (.inr (.inr rfl)) (by rw [hn, e2, size_76]; decide) (by omega)
    | false =>
      first
        | refine wp_if_neg (by simp) ?_
        | (refine wpAny_bind ?_; refine wp_if_neg (by simp) ?_; refine wpAny_pure ?_)
      refine wpAny_pure (q true h1 L1 es1 (ep + 1) t1 but ⟨⟨_, ho1, ⟨hex.1, hex.2.1, hex.2.2⟩, rfl⟩, hins, T2, one1, led1, ?_, by rw [hlen]; exact few⟩ (.inr pm))
      have h := full1
      unfold SetTable.tooFull at h
      rw [decide_eq_false_iff_not, ef, em, List.length_map] at h
      rw [hlen, em]
      omega
  by_cases hpl : t0.plain = true
  · first
      | (refine wpAny_bind ?_; refine wp_if_pos hpl ?_; refine by_value pl hx fun r => ?_)
      | (refine wp_if_pos hpl ?_; refine wpAny_bind (by_value pl hx fun r => ?_))
    cases r with
    | true => simp only [if_true]; exact fin t0 q3 q4 q5 q9
    | false => simp only [Bool.false_eq_true, if_false]; exact fin _ (plain_off q3) q4 q5 q9
  · first
      | (refine wpAny_bind ?_; refine wp_if_neg hpl ?_; refine wpAny_pure ?_)
      | (refine wp_if_neg hpl ?_; refine wpAny_bind (wpAny_pure ?_))
    simp only [if_true]; exact fin t0 q3 q4 q5 q9
end
section
variable {P : Program} {w : World} {κ : Type} [DecidableEq κ] {kn : KeyKind P w κ} {A : Around} {E : Value → Shared → Prop} {s : Shared}
/-- L has what the first i of ks are, each once -/
structure Has (ks : List (Addr × List κ)) (i : Nat) (L : List (Addr × List κ)) : Prop where
  from_ : ∀ p ∈ L, p ∈ ks
  all : ∀ p ∈ ks.take i, p.2 ∈ L.map Prod.snd
  len : L.length ≤ i
theorem has_next {ks L L' : List (Addr × List κ)} {i : Nat} {x : Addr × List κ} (g : Has ks i L) (h : ks[i]? = some x) (c : (L' = L ∧ x.2 ∈ L.map Prod.snd) ∨ L'.Perm (x :: L)) : Has ks (i + 1) L' := by
  have tk : ks.take (i + 1) = ks.take i ++ [x] := by rw [List.take_succ, h]; rfl
  rcases c with ⟨rfl, hm⟩ | pm
  · refine ⟨g.from_, fun p hp => ?_, Nat.le_succ_of_le g.len⟩
    rw [tk] at hp
    rcases List.mem_append.mp hp with z | z
    · exact g.all p z
    · rw [List.mem_singleton.mp z]; exact hm
  · refine ⟨fun p hp => ?_, fun p hp => ?_, by rw [pm.length_eq]; exact Nat.succ_le_succ g.len⟩
    · rcases List.mem_cons.mp (pm.mem_iff.mp hp) with e | z
      · rw [e]; exact List.mem_of_getElem? h
      · exact g.from_ p z
    · rw [(pm.map Prod.snd).mem_iff, List.map_cons, List.mem_cons]
      rw [tk] at hp
      rcases List.mem_append.mp hp with z | z
      · exact .inr (g.all p z)
      · exact .inl (congrArg Prod.snd (List.mem_singleton.mp z))
theorem tb_keep {h h' : Heap} {a : Addr} {L : List (Addr × List κ)} {es : Array (Int × Value)} {ep : Nat} {t : SetTable} (R : Tb kn h a L es ep t) (k : ∀ o, h.get? a = some o → h'.get? a = some o) : Tb kn h' a L es ep t := by
  obtain ⟨o, ho, r⟩ := R.obj
  exact ⟨⟨o, k o ho, r⟩, R.rows, R.tab, R.one, R.led, R.room, R.few⟩
theorem tb_new {h : Heap} {a : Addr} (ho : h.get? a = some (DP.newSet w)) : Tb kn h a [] #[] 0 (.fresh 0 0 (!w.params.followText "set-order")) where
  obj := ⟨_, ho, ⟨rfl, rfl, rfl⟩, rfl⟩
  rows := rfl
  tab := ⟨.nil, rfl, rfl, .inl rfl, fun x h => (by cases h), fun i h j e => (by simp at e)⟩
  one := .nil
  led := by
    cases e : w.params.followText "set-order" with
    | true => exact .inl rfl
    | false => exact .inr rfl
  room := (by decide : 0 * 5 < 7 * 3)
  few := (by decide : 0 < 64)
/-- the loop of set.update over a list of tuples -/
theorem filling (pl : Plain kn) {I : Addr} {fp wr : List Addr} {G : Array GenState → Array GenState → Prop} {n : Nat} {Pv : Nat → Value → Prop} {St : Nat → Shared → Prop} {R : Result → Shared → Prop}
    (W : WalksS P w A.in1 I fp wr G n Pv St) {S : Addr} (hSf : S ∉ fp) {ks : List (Addr × List κ)} (few : ks.length < 64) (val : ∀ i v, Pv i v → ∃ p, ks[i]? = some p ∧ v = .ref p.1)
    {h0 : Heap} (hk : All kn h0 ks) (hS0 : h0.get? S = none) (hw0 : ∀ b ∈ wr, h0.get? b = none) (hu : A.in1.units < cLine)
    (q : ∀ s1 s' L es ep t, Moved (S :: wr) G s1 s' → Tb kn s'.heap S L es ep t → Has ks n L → (∀ b o, h0.get? b = some o → s'.heap.get? b = some o) → s1 = s → R (.ok (.ret .none)) s') :
    ∀ (j i : Nat) (s2 : Shared), n - i = j → i ≤ n → St i s2 → (∀ b o, h0.get? b = some o → s2.heap.get? b = some o) → (∃ L es ep t, Tb kn s2.heap S L es ep t ∧ Has ks i L) → (i = 0 → s2 = s) → (i ≠ 0 → Moved (S :: wr) G s s2) →
      codeAny (model P w) A (.builtin "set.update.loop" ⟨[.ref S, .ref I], []⟩) R s2 := by
  have hSw : S ∉ wr := fun h => hSf (W.sub _ h)
  have inS : ∀ b ∈ wr, b ∈ S :: wr := fun b hb => List.mem_cons_of_mem _ hb
  have still : ∀ {x y : Shared}, Moved wr G x y → (∀ b o, h0.get? b = some o → x.heap.get? b = some o) → ∀ b o, h0.get? b = some o → y.heap.get? b = some o := fun m k b o e => m.heap b o (fun hb => by rw [hw0 b hb] at e; cases e) (k b o e)
  have join : ∀ {i : Nat} {x y : Shared}, (i = 0 → x = s) → (i ≠ 0 → Moved (S :: wr) G s x) → Moved (S :: wr) G x y → Moved (S :: wr) G s y := fun {i x y} e0 e1 m => by
    by_cases c : i = 0
    · rw [← e0 c]; exact m
    · exact Moved.trans W.gtrans (e1 c) m
  intro j
  induction j with
  | zero =>
    intro i s2 hj hi hst kp ⟨L, es, ep, t, T, g⟩ e0 e1
    have hin : i = n := by omega
    subst hin
    refine codeAny_builtin F.entry_set_update_loop ?_
    rw [Around.under_plainId F.plain_set_update_loop _]
    show wpAny _ A.in1 (pyNext (.ref I) >>= _) _ _ s2
    refine wpAny_bind (W.done s2 _ _ hst fun s3 m => ?_)
    exact wpAny_pure (q s s3 L es ep t (join e0 e1 (m.mono inS)) (tb_keep T fun o e => m.heap S o hSw e) g (still m kp) rfl)
  | succ j ih =>
    intro i s2 hj hi hst kp ⟨L, es, ep, t, T, g⟩ e0 e1
    have hlt : i < n := by omega
    refine codeAny_builtin F.entry_set_update_loop ?_
    rw [Around.under_plainId F.plain_set_update_loop _]
    show wpAny _ A.in1 (pyNext (.ref I) >>= _) _ _ s2
    refine wpAny_bind (W.item i s2 _ _ hlt hst fun v s3 hP hst3 m => ?_)
    obtain ⟨p, hp, rfl⟩ := val i v hP
    have kp3 := still m kp
    have T3 : Tb kn s3.heap S L es ep t := tb_keep T fun o e => m.heap S o hSw e
    have hx : TupAt kn s3.heap p := tup_keep (hk p (List.mem_of_getElem? hp)) kp3
    have hL : All kn s3.heap L := fun r hr => tup_keep (hk r (g.from_ r hr)) kp3
    show wpAny _ A.in1 (holding [Value.ref p.1] (setAdd S (.ref p.1)) >>= _) _ _ s3
    refine wpAny_bind (wpAny_holding ?_)
    unfold setAdd
    refine wpAny_holding (wpAny_bind (wpAny_pyHash_tuple hu hx ?_))
    have hlen := (List.getElem?_eq_some_iff.mp hp).1
    refine adding (s := { s3 with toks := s3.toks + (p.2.length + 1) }) pl T3 hL hx hu (by have := g.len; omega) fun b h4 L4 es4 ep4 t4 but T4 c => ?_
    have keepB : ∀ b o, b ≠ S → s3.heap.get? b = some o → h4.get? b = some o := fun b o hb e => (but.2 b hb).trans e
    refine wpAny_pure ⟨plainId_quiet F.plain_set_update_loop _, ih (i + 1) _ (by omega) hlt (W.frame _ s3 _ _ hst3 (Nat.le_add_right _ _) fun b hb o e => keepB b o (fun e2 => hSf (e2 ▸ hb)) e) (fun b o e => keepB b o (fun z => by rw [z, hS0] at e; cases e) (kp3 b o e)) ⟨L4, es4, ep4, t4, T4, has_next g hp c⟩ (fun z => absurd z (Nat.succ_ne_zero _)) fun _ => ?_⟩
    exact join e0 e1 ((m.mono inS).then_heap (Nat.le_add_right _ _) fun b o hb e => keepB b o (fun z => hb (z ▸ List.mem_cons_self)) e)
/-- set(xs) -/
theorem set_made (pl : Plain kn) {l : Addr} {its : Array Value} (ks : List (Addr × List κ)) {Q : Value → Shared → Prop} (hh : A.handled = none) (hl : s.heap.IsList l its) (hit : its.toList = ks.map fun p => Value.ref p.1)
    (hk : All kn s.heap ks) (few : ks.length < 64) (hu : A.units + 3 < cLine)
    (q : ∀ (h' : Heap) (tk : Nat) L es ep t, Tb kn h' s.heap.objs.size L es ep t → Has ks ks.length L → (∀ b o, s.heap.get? b = some o → h'.get? b = some o) → Q (.ref s.heap.objs.size) { s with heap := h', toks := tk }) :
    wpAny (model P w) A (call (.type "set") [.ref l]) Q E s := by
  have hz : its.size = ks.length := by
    have e := congrArg List.length hit
    rwa [Array.length_toList, List.length_map] at e
  have C := F.called_set
  obtain ⟨c, tl, hmro⟩ := C.mro
  have hmade := C.made; have hsub := C.sub
  refine wpAny_call (codeAny_of_tree ?_)
  show wpAny _ _ (callAny (.type "set") _) _ _ _
  refine wpAny_pure ⟨Code.quiet_builtin _ (by decide +kernel), codeAny_builtin F.entry_type_call ?_⟩
  rw [Around.under_plain (weight_type_call_type "set" [.ref l] []) rfl]
  have h1 := C.notType; have h2 := C.canCreate
  have hct := F.typeCall_set_1 (.ref l)
  repeat (any_goals (first | assumption | wp_step))
  refine codeAny_mono (code_set_led1 (.ref l) (E := E) (Q₁ := fun obj s₁ => obj = .ref s.heap.objs.size ∧ s₁ = { s with heap := s.heap.push (DP.newSet w) }) ⟨rfl, rfl⟩) fun r s₁ hr => ?_
  cases r with
  | error e => exact hr
  | ok fl =>
  cases fl with
  | ret obj =>
    obtain ⟨rfl, rfl⟩ := hr
    have hS : (s.heap.push (DP.newSet w)).get? s.heap.objs.size = some (DP.newSet w) := Heap.get?_push_size _ rfl
    have hT : Shared.TypeIs { s with heap := s.heap.push (DP.newSet w) } (.ref s.heap.objs.size) "set" := ⟨_, hS, rfl⟩
    have hli := C.init.lookup; have hbi := C.init.bind (.ref s.heap.objs.size)
    repeat (any_goals (first | assumption | wp_step))
    refine codeAny_mono (codeAny_call_builtin (R := wants (fun r s₂ => r = .none ∧ ∃ h' tk L es ep t, s₂ = { s with heap := h', toks := tk } ∧ Tb kn h' s.heap.objs.size L es ep t ∧ Has ks ks.length L ∧ ∀ b o, s.heap.get? b = some o → h'.get? b = some o) E) C.init.plain F.entry_set_init (check_set_init_1 hT ?_)) fun r₂ s₂ hr₂ => ?_
    · obtain ⟨⟨ocls, odict, odata, oslots⟩, hol, hcl, nl, hdl⟩ := hl
      simp only at hcl hdl
      subst hcl hdl
      have hol' : (s.heap.push (DP.newSet w)).get? l = some { cls := .type "list", dict := odict, data := .seq its nl, slots := oslots } := Heap.get?_push_of_some _ hol
      have hsls := F.sub_list_set; have hslf := F.sub_list_frozenset
      have hne : (Value.type "list" == Value.type "dict") = false := by decide
      have hl1 : (s.heap.push (DP.newSet w)).IsList l its := ⟨_, hol', rfl, nl, rfl⟩
      unfold Builtin.«set.__init__» noKeywords Builtin.Frozenset.updateFrom
      generalize hPI : pyIter = PI
      wp_walk
      subst hPI
      refine wpAny_pyIter_list hl1 (wpAny_bind (wpAny_runValue ?_))
      have hlS : l < s.heap.objs.size := Heap.lt_size hol
      have hh3 : A.in1.in1.in1.handled = none := by simp [hh]
      have sz : (s.heap.push (DP.newSet w)).objs.size = s.heap.objs.size + 1 := Heap.size_push ..
      have neI : l ≠ (s.heap.push (DP.newSet w)).objs.size := by rw [sz]; exact Nat.ne_of_lt (Nat.lt_succ_of_lt hlS)
      have hSf : s.heap.objs.size ∉ [(s.heap.push (DP.newSet w)).objs.size, l] := by
        rw [sz]; simp only [List.mem_cons, List.not_mem_nil, or_false, not_or]; exact ⟨Nat.ne_of_lt (Nat.lt_succ_self _), Nat.ne_of_gt hlS⟩
      have val : ∀ (i : Nat) (v : Value), its[i]? = some v → ∃ p, ks[i]? = some p ∧ v = .ref p.1 := fun i v hv => by
        have e : its.toList[i]? = some v := by rw [Array.getElem?_toList]; exact hv
        rw [hit, List.getElem?_map, Option.map_eq_some_iff] at e
        obtain ⟨p, e1, e2⟩ := e
        exact ⟨p, e1, e2.symm⟩
      have gone : ∀ b, s.heap.objs.size ≤ b → s.heap.get? b = none := fun b hb => by
        cases e : s.heap.get? b with
        | none => rfl
        | some o => exact absurd (Heap.lt_size e) (Nat.not_lt.mpr hb)
      refine filling pl ((Walks.list hh3 _ l neI its).toS) hSf few val hk (gone _ (Nat.le_refl _)) (fun b hb => gone b (by rw [List.mem_singleton.mp hb, sz]; exact Nat.le_succ _)) hu ?fin (its.size - 0) 0 _ (by omega) (Nat.zero_le _) ⟨⟨_, Heap.get?_push_size _ rfl, rfl, rfl⟩, (hl1.push _)⟩ (fun b o e => Heap.get?_push_of_some _ (Heap.get?_push_of_some _ e)) ⟨[], _, _, _, tb_new (Heap.get?_push_of_some _ hS), ⟨fun p h => (by cases h), fun p h => (by simp at h), Nat.le_refl _⟩⟩ (fun _ => rfl) fun z => absurd rfl z
      case fin =>
        intro s1 s' L es ep t m T g k es1
        subst es1
        obtain ⟨h', g2, d', tk', os'⟩ := s'
        have eg : g2 = s.gens := m.gens
        have ed : d' = s.drawn := m.drawn
        have eo : os' = s.os := m.os
        subst eg ed eo
        refine wpAny_pure (?_ : wpAny _ _ (ret Value.none) _ _ _)
        rw [hz] at g
        exact wpAny_pure ⟨rfl, h', tk', L, es, ep, t, rfl, T, g, k⟩
    · cases r₂ with
      | error e => exact hr₂
      | ok fl₂ =>
      cases fl₂ with
      | ret r =>
        obtain ⟨rfl, h', tk, L, es, ep, t, rfl, T, g, k⟩ := hr₂
        repeat (any_goals (first | assumption | wp_step))
        exact q _ _ _ _ _ _ T g k
      | _ => exact hr₂.elim
  | _ => exact hr.elim
end
end SD
/-! The rules: set(xs) of a list of tuples of whole numbers and texts; sorted of such a set. -/
namespace SD
open PySem PySem.Spec PyProof.Rows L2 DP
theorem mix_plain (P : Program) (w : World) : Plain (mixKind P w) := fun k v h => by
  rcases keyIs_shape h with ⟨i, t, _, rfl⟩ | ⟨x, t, _, rfl⟩ <;> rfl
/-- a set with the tuples L -/
def SetDO (P : Program) (w : World) (a : Addr) (L : List (Addr × List Key)) : HO := .ext fun h => ∃ es ep t, Tb (mixKind P w) h a L es ep t
theorem set_new {P : Program} {w : World} {H : Hp} {h : Heap} {a : Addr} {L : List (Addr × List Key)} {es : Array (Int × Value)} {ep : Nat} {t : SetTable} (R : Tb (mixKind P w) h a L es ep t) : ObjOk P w H h a (SetDO P w a L) := by
  have ⟨o, ho, r⟩ := R.obj
  exact ⟨⟨es, ep, t, R⟩, ⟨o, ho⟩, fun h1 h2 ⟨es', ep', t', R'⟩ k => ⟨es', ep', t', tb_keep R' k⟩⟩
theorem keys_of {P : Program} {w : World} : ∀ {k : List Key} {us : List Value}, Vals (k.map kV) us → ItemsAre (mixKind P w) k us
  | [], _, .nil => .nil
  | n :: k, _, .cons r t => .cons (by
      cases n with
      | inl i =>
        obtain ⟨tk, rfl⟩ := r
        simp [mixKind, keyIs, Value.isInt]
      | inr z =>
        obtain ⟨tk, rfl⟩ := r
        simp [mixKind, keyIs, Value.isStrOf]) (keys_of t)
theorem refs_eq : ∀ {ks : List (Addr × List Key)} {us : List Value}, Vals (ks.map fun p => V.ref p.1) us → us = ks.map fun p => Value.ref p.1
  | [], _, .nil => rfl
  | p :: ks, _, .cons r t => by
    cases r
    rw [refs_eq t]; rfl
theorem refs_vals : ∀ (ks : List (Addr × List Key)), Vals (ks.map fun p => V.ref p.1) (ks.map fun p => Value.ref p.1)
  | [] => .nil
  | p :: ks => .cons rfl (refs_vals ks)
def kD : Key → PyData
  | .inl i => .int i
  | .inr z => .str z
section
variable {X : Cx}
theorem tup_inv {pins : List (Addr × Obj)} {σ : L2.St} {H : Hp} {s : Shared} {p : Addr × List Key} (I : Inv X pins σ H s) (h : SqT X.K H p.1 (p.2.map kV)) : TupAt (mixKind X.prog X.w) s.heap p := by
  obtain ⟨its, r, ⟨o, ho, hc, n, hd⟩, _⟩ := I.tuple h
  exact ⟨o, its.toArray, n, ho, hc, hd, by simpa using keys_of r⟩
/-- the tuples of the list stand there -/
def Stand (K : PySem.W.Frag) (H : Hp) (ks : List (Addr × List Key)) : Prop := ∀ p ∈ ks, SqT K H p.1 (p.2.map kV)
theorem Stand.same {K : PySem.W.Frag} {H H' : Hp} {ks : List (Addr × List Key)} (h : Stand K H ks) (S : Same H H') : Stand K H' ks := fun p hp => Same.sqT S (h p hp)
def rSetD (K : PySem.W.Frag) (P : Program) (w : World) : List V → Hp → VK → Prop := fun xs H Q => ∃ (l : Addr) (ks : List (Addr × List Key)), xs = [V.ref l] ∧ SqL K H l (ks.map fun p => V.ref p.1) ∧ Stand K H ks ∧ ks.length < 64 ∧
  ∀ a L, H a = none → (∀ p ∈ L, p ∈ ks) → (∀ p ∈ ks, p.2 ∈ L.map Prod.snd) → (L.map Prod.snd).Nodup → Q (.ref a) (upd H a (SetDO P w a L))
theorem cr_setD (hc : X.calm = true) (hu : X.A.units + 64 < cLine) : CallR X (.type "set") (rSetD X.K X.prog X.w) := by
  intro pins s σ H xs us Q I r h
  obtain ⟨l, ks, rfl, hl, hk, few, q⟩ := h
  rw [Vals.ref1 r]
  obtain ⟨its, rv, pl, hz⟩ := I.list hl
  refine set_made (P := X.prog) (w := X.w) (mix_plain _ _) ks (I.ok.hd hc) pl.isList (by simpa using refs_eq rv) (fun p hp => tup_inv I (hk p hp)) few (by omega) fun h' tk L es ep t T g k => ?_
  refine ⟨.ref s.heap.objs.size, upd H s.heap.objs.size (SetDO X.prog X.w s.heap.objs.size L), I.laid (t' := tk) k (Nat.le_refl _) (set_new T), rfl, q _ L (I.hok.fresh (Nat.le_refl _)) g.from_ (fun p hp => ?_) T.one⟩
  exact g.all p (by rw [List.take_length]; exact hp)
end
section
variable {P : Program} {w : World} {A : Around} {E : Value → Shared → Prop} {s : Shared}
def encK (p : Addr × List Key) : PyData := .tuple (p.2.map kD)
theorem reads_parts : ∀ {k : List Key} {us : List Value} {h : Heap}, ItemsAre (mixKind P w) k us → ReadsAll h us (k.map kD) []
  | _, _, _, .nil => .nil
  | _, _, h, .cons (k := n) a t => by
    rcases keyIs_shape a with ⟨i, tk, rfl, rfl⟩ | ⟨x, tk, rfl, rfl⟩
    · exact .cons (as := []) (.int _ _) (reads_parts t)
    · exact .cons (as := []) (.str _ _) (reads_parts t)
theorem reads_tup {h : Heap} {p : Addr × List Key} (x : TupAt (mixKind P w) h p) : Reads h (.ref p.1) (encK p) [] := by
  obtain ⟨o, its, n, ho, hc, hd, hi⟩ := x
  exact .tuple ho hc hd (reads_parts hi)
theorem each_refs : ∀ L : List (Addr × List Key), PySem.W.EachIs (fun (u : Value) (p : Addr × List Key) => u = .ref p.1) (L.map fun q => Value.ref q.1) L
  | [] => .nil
  | p :: L => .cons rfl (each_refs L)
theorem of_each : ∀ {us : List Value} {L : List (Addr × List Key)}, PySem.W.EachIs (fun (u : Value) (p : Addr × List Key) => u = .ref p.1) us L → us = L.map fun q => Value.ref q.1
  | _, _, .nil => rfl
  | _, _, .cons a t => by rw [a, of_each t]; rfl
theorem each_reads {h : Heap} : ∀ {L : List (Addr × List Key)} {a : Addr}, All (mixKind P w) h L → PySem.W.EachIs (fun (u : Value) (p : Addr × List Key) => ∃ as, Reads h u (encK p) as ∧ a ∉ as) (L.map fun q => Value.ref q.1) L
  | [], _, _ => .nil
  | p :: L, _, k => .cons ⟨[], reads_tup (k p List.mem_cons_self), by simp⟩ (each_reads fun q hq => k q (List.mem_cons_of_mem _ hq))
/-- what is known of the parts so that tuples can be put in order -/
structure Even (L : List (Addr × List Key)) : Prop where
  alike : ∀ p ∈ L, ∀ q ∈ L, PySem.W.alike (encK p) (encK q) = true
  some_ : ∀ p ∈ L, p.2 ≠ []
theorem Even.sub {L M : List (Addr × List Key)} (e : Even L) (h : ∀ p ∈ M, p ∈ L) : Even M := ⟨fun p hp q hq => e.alike p (h p hp) q (h q hq), fun p hp => e.some_ p (h p hp)⟩
theorem depth_parts : ∀ k : List Key, PyData.depthAll (k.map kD) = 0
  | [] => rfl
  | .inl i :: k => by
    show PyData.depthAll (PyData.int i :: k.map kD) = 0
    rw [PyData.depthAll, depth_parts k]; rfl
  | .inr z :: k => by
    show PyData.depthAll (PyData.str z :: k.map kD) = 0
    rw [PyData.depthAll, depth_parts k]; rfl
theorem depth_tup (p : Addr × List Key) : (encK p).depth = 1 := by
  unfold encK
  rw [PyData.depth, depth_parts]
theorem sorted_set {a : Addr} {L : List (Addr × List Key)} {es : Array (Int × Value)} {ep : Nat} {t : SetTable} {Q : Value → Shared → Prop} (R : Tb (mixKind P w) s.heap a L es ep t) (R2 : All (mixKind P w) s.heap L) (hh : A.handled = none) (hu : A.units + 64 < cLine) (ev : Even L)
    (q : ∀ s' p (out : Array Value) (c : Nat) (M : List (Addr × List Key)), (∀ b o, s.heap.get? b = some o → s'.heap.get? b = some o) → s'.gens = s.gens → s'.os = s.os → s.heap.objs.size ≤ p → M.Perm L →
      s'.heap.get? p = some (seqObj "list" out c) → out.toList = (M.mergeSort (PySem.W.dataLe false encK)).map (fun q => Value.ref q.1) → Q (.ref p) s') :
    wpAny (model P w) A (call (.builtin "sorted") [.ref a]) Q E s := by
  obtain ⟨o, ho, hex, hd⟩ := R.obj
  have hn := rows_len R.rows
  have few := R.few
  refine Calls.call_function_entry kind_sorted plain_sorted entry_sorted (args_sorted1 _) ?_
  unfold Builtin.«sorted»
  refine wpAny_bind (m := checkCount "sorted" 1 1 _) (wpAny_pure ?_)
  refine wpAny_bind (collect_set (A := A.in1) hh ⟨o, ho, hex.1, hd⟩ R.fit (by unfold scanBound; omega) R.tab.ris R.led fun s1 vs k1 hz g1 o1 pm => ?_)
  have hv : es.toList.map (·.2) = L.map fun q => Value.ref q.1 := by
    rw [R.rows, List.map_map]; rfl
  rw [hv] at pm
  -- the values' own list of rows
  obtain ⟨M, eM, pL⟩ : ∃ M : List (Addr × List Key), vs = M.map (fun q => Value.ref q.1) ∧ M.Perm L := by
    have z : ∀ {xs ys : List Value}, xs.Perm ys → ∀ L : List (Addr × List Key), ys = L.map (fun q => Value.ref q.1) → ∃ M : List (Addr × List Key), xs = M.map (fun q => Value.ref q.1) ∧ M.Perm L := by
      intro xs ys pm
      induction pm with
      | nil => intro L e; exact ⟨L, e, .refl _⟩
      | @cons x l1 l2 _ ih =>
        intro L e
        cases L with
        | nil => cases e
        | cons p L =>
          injection e with e1 e2
          obtain ⟨M, e3, p3⟩ := ih L e2
          exact ⟨p :: M, by rw [e1, e3]; rfl, p3.cons p⟩
      | swap x y l =>
        intro L e
        cases L with
        | nil => cases e
        | cons p L =>
          cases L with
          | nil => injection e with _ e2; cases e2
          | cons q L =>
            injection e with e1 e2
            injection e2 with e2 e3
            exact ⟨q :: p :: L, by rw [e1, e2, e3]; rfl, .swap _ _ _⟩
      | trans _ _ ih1 ih2 =>
        intro L e
        obtain ⟨M, e3, p3⟩ := ih2 L e
        obtain ⟨N, e4, p4⟩ := ih1 M e3
        exact ⟨N, e4, p4.trans p3⟩
    exact z pm L rfl
  subst eM
  have hml : M.length < 64 := by rw [pL.length_eq]; exact few
  have evM : Even M := ev.sub fun p hp => pL.mem_iff.mp hp
  refine wpAny_bind (wpAny_newList ?_ (by rw [List.length_map, sizeLine_eq]; omega))
  have hoL : (s1.heap.push (seqObj "list" (M.map fun q => Value.ref q.1).toArray 0)).get? s1.heap.objs.size = some (seqObj "list" (M.map fun q => Value.ref q.1).toArray 0) := Heap.get?_push_size _ rfl
  have stand : All (mixKind P w) (s1.heap.push (seqObj "list" (M.map fun q => Value.ref q.1).toArray 0)) M := fun p hp => tup_keep (R2 p (pL.mem_iff.mp hp)) fun b u e => Heap.get?_push_of_some _ (k1 b u e)
  refine wpAny_bind (wpAny_holding (PySem.W.list_sort_data (enc := encK) (s := { s1 with heap := s1.heap.push (seqObj "list" (M.map fun q => Value.ref q.1).toArray 0) }) hoL (each_refs M) (each_reads stand) (fun d hd' d' hd2 => ?_) (.inl fun d hd' => ?_) (by rw [sizeLine_eq]; omega) (fun p _ => ?_) fun out ho2 eo => ?_))
  · obtain ⟨p, hp, rfl⟩ := List.mem_map.mp hd'
    obtain ⟨p2, hp2, rfl⟩ := List.mem_map.mp hd2
    exact evM.alike p hp p2 hp2
  · obtain ⟨p, hp, rfl⟩ := List.mem_map.mp hd'
    have h2 := evM.some_ p hp
    unfold encK
    cases e : p.2 with
    | nil => exact absurd e h2
    | cons k r => exact ⟨_, _, rfl⟩
  · rw [depth_tup]
    have e : A.in1.units ≤ A.units + 1 := by first | exact Nat.le_refl _ | (show _ ≤ _; simp [Around.in1, Around.units])
    omega
  · obtain ⟨c, hc⟩ := sortedHeap_at (vs := M.map fun q => Value.ref q.1) (out := List.toArray out) hoL
    refine wpAny_pure ⟨_, rfl, q _ s1.heap.objs.size (List.toArray out) c M (fun b u e => ?_) g1 o1 hz pL hc (by simpa using of_each eo)⟩
    have e2 := k1 b u e
    have hlt := Heap.lt_size e2
    show (sortedHeap (s1.heap.push (seqObj "list" (M.map fun q => Value.ref q.1).toArray 0)) s1.heap.objs.size (M.map fun q => Value.ref q.1) (List.toArray out)).get? b = some u
    rw [sortedHeap_old (Nat.ne_of_lt hlt) (by rw [size_push']; exact Nat.lt_succ_of_lt hlt)]
    exact Heap.get?_push_of_some _ e2
end
section
variable {X : Cx}
/-- sorted(a set of tuples) -/
def rSortSetD (K : PySem.W.Frag) (P : Program) (w : World) : List V → Hp → VK → Prop := fun vs H Q => ∃ (a : Addr) (L : List (Addr × List Key)), vs = [V.ref a] ∧ H a = some (SetDO P w a L) ∧ Stand K H L ∧ Even L ∧
  ∀ (M : List (Addr × List Key)) (p : Addr), M.Perm L → H p = none → Q (.ref p) (upd H p (.lst ((M.mergeSort (PySem.W.dataLe false encK)).map fun q => V.ref q.1)))
theorem cr_sortSetD (hc : X.calm = true) (hu : X.A.units + 64 < cLine) : CallR X (.builtin "sorted") (rSortSetD X.K X.prog X.w) := by
  intro pins s σ H vs us Q I r h
  obtain ⟨a, L, rfl, ha, st, ev, q⟩ := h
  obtain ⟨es, ep, t, R⟩ : ∃ es ep t, Tb (mixKind X.prog X.w) s.heap a L es ep t := (I.hok a _ ha).1
  rw [Vals.ref1 r]
  refine sorted_set R (fun p hp => tup_inv I (st p hp)) (I.ok.hd hc) hu ev fun s' p out c M k g o hp pm hg hout => ?_
  have few := R.few
  have hlen : ((M.mergeSort (PySem.W.dataLe false encK)).map fun q => V.ref q.1).length ≤ sizeLine := by rw [List.length_map, List.length_mergeSort, pm.length_eq, sizeLine_eq]; omega
  have hn : H p = none := I.hok.fresh hp
  have hv : Vals ((M.mergeSort (PySem.W.dataLe false encK)).map fun q => V.ref q.1) out.toList := by rw [hout]; exact refs_vals _
  have J : Inv X pins σ (upd H p (.lst ((M.mergeSort (PySem.W.dataLe false encK)).map fun q => V.ref q.1))) { s with heap := s'.heap, gens := s'.gens, drawn := s'.drawn, toks := s'.toks } :=
    I.call (ch := []) (Un.laid k hp hn) (I.hok.laid k hp ⟨hlen, out.toList, c, hv, hg⟩) (by rw [g]; exact I.bare) (fun _ z => nomatch z)
  have e : s' = { s with heap := s'.heap, gens := s'.gens, drawn := s'.drawn, toks := s'.toks } := by
    cases s'; cases s; cases o; rfl
  rw [e]
  exact ⟨.ref p, _, J, rfl, q M p pm hn⟩
theorem setDK {K : PySem.W.Frag} {P : Program} {w : World} (hc : X.calm = true) (hu : X.A.units + 64 < cLine) (h : X.K = K := by rfl) (hp : X.prog = P := by rfl) (hw : X.w = w := by rfl) : CallR X (.type "set") (rSetD K P w) := by subst h hp hw; exact cr_setD hc hu
theorem sortSetDK {K : PySem.W.Frag} {P : Program} {w : World} (hc : X.calm = true) (hu : X.A.units + 64 < cLine) (h : X.K = K := by rfl) (hp : X.prog = P := by rfl) (hw : X.w = w := by rfl) : CallR X (.builtin "sorted") (rSortSetD K P w) := by subst h hp hw; exact cr_sortSetD hc hu
end
end SD
/-! == and != by an own class's __eq__ and __ne__, whatever they answer. -/
namespace DP
open PySem PySem.Spec PyProof.Rows L2
theorem rooms64 {A : Around} {k : Nat} (hr : Room k A) : A.units + 64 < cLine := by have := hr.un; omega
/-- what isinstance asks of an own class's instances -/
structure IsiC (K : PySem.W.Frag) (C : Addr) : Prop where
  ha : PySem.W.findIn K (.ref C) "__class__" = some (some (.builtin "object.__class__"))
  hn : PySem.W.specialIn K (.builtin "object.__class__") "__get__" = some (some (.builtin "getset_descriptor.__get__"))
  htk : PySem.W.takesIn K (.builtin "object.__class__") = some true
  hm : PySem.W.mroIn K C (.type "object") = some true
theorem kit_self (K : PySem.W.Frag) (C : Addr) : PySem.W.kitOne K (.ref C) (.ref C) = some true := if_pos (beq_self_eq_true _)
theorem kit_no {K : PySem.W.Frag} {S : Addr} {t : Value} (h0 : (t == .ref S) = false) (h2 : PySem.W.isClsIn K S = true) (h3 : PySem.W.typeIn K (.ref S) = some (.type "type")) {b : Option Bool} (h4 : PySem.W.subIn K t (.ref S) = b) : PySem.W.kitOne K t (.ref S) = b := by
  have e2 : ((PySem.W.clsIn K S).isSome && PySem.W.typeIn K (.ref S) == some (.type "type")) = true := by
    have h2' : (PySem.W.clsIn K S).isSome = true := h2
    rw [h2', h3] <;> rfl
  show (if (t == .ref S) = true then some true else if ((PySem.W.clsIn K S).isSome && PySem.W.typeIn K (.ref S) == some (.type "type")) = true then PySem.W.subIn K t (.ref S) else none) = b
  rw [h0, if_neg Bool.false_ne_true, if_pos e2]
  exact h4
section
variable {X : Cx} {CX : CXT} {C f : Addr} {fd : FuncData} {ps : List Str} {sp : Sp} {E : XK} {k : Nat} {op : CmpOp}
/-- the right side: of the same class, a list, a whole number -/
inductive Right (K : PySem.W.Frag) (C : Addr) (H : Hp) : V → Prop
  | ins {b dy gs} : H b = some (.ins C dy gs) → Right K C H (.ref b)
  | lst {b xs} : SqL K H b xs → PySem.W.notFirst K C (.type "list") = true → Right K C H (.ref b)
  | int {i} : PySem.W.notFirst K C (.type "int") = true → Right K C H (.int i)
  | any {v t} : TyX K H v (.type t) → PySem.W.notFirst K C (.type t) = true → Right K C H v
def rOwn (K : PySem.W.Frag) (C : Addr) (sp : Sp) (E : XK) : V → V → Hp → VK → Prop := fun x y H Q => ∃ a dx fs, x = .ref a ∧ H a = some (.ins C dx fs) ∧ Right K C H y ∧ sp [x, y] H (fun v H' => ∃ b, v = .bl b ∧ Q (.bl b) H') E
theorem own_run (F : FnOk X.prog X.w X.K X.mg X.base CX k f fd ps sp) (hs : PySem.W.findIn X.K (.ref C) (cmpInfo op).2.1 = some (some (.ref f))) (hf : PySem.W.isFn X.K (.ref f) = true) (hb : Binds X.K fd ps []) (hx : Passes CX X E) (hr : Room k X.A) : ∀ (pins : List (Addr × Obj)) (s : Shared) (σ : L2.St) (H : Hp) (x y : V) (v u : Value) (Q : VK), Inv X pins σ H s → RelV x v → RelV y u → rOwn X.K C sp E x y H Q → wpAny (model X.prog X.w) X.A (richCompare op v u) (EP X pins σ Q) X.xe s := by
  intro pins s σ H x y v u Q I rx ry hq
  obtain ⟨a, dx, fs, rfl, ha, hy, q⟩ := hq
  cases rx
  obtain ⟨mA, J, _⟩ := ins_get I.hok ha
  obtain ⟨od, J, _⟩ := J.look
  obtain ⟨m, hF⟩ := I.fr
  obtain ⟨tb, hl, hn⟩ : ∃ tb, PySem.W.Looks (model X.prog X.w) s.heap (typeOf u) tb ∧ PySem.W.notFirst X.K C tb = true := by
    cases hy with
    | ins h =>
      cases ry
      obtain ⟨mB, J', _⟩ := ins_get I.hok h
      obtain ⟨od', J', _⟩ := J'.look
      exact ⟨.ref C, J'.type, by simp [PySem.W.notFirst]⟩
    | lst h hn =>
      cases ry
      obtain ⟨its, rv, pl, hz⟩ := I.list h
      exact ⟨_, fun A Q E s1 k q => (by
        obtain ⟨o, ho, hc, r⟩ := pl.isList
        exact wpAny_typeOf_ref (k _ _ ho) (by rw [hc]; exact q)), hn⟩
    | int hn =>
      obtain ⟨t, rfl⟩ := ry
      exact ⟨_, fun A Q E s1 k q => wpAny_pure q, hn⟩
    | any h hn =>
      obtain ⟨Pk, kx, hp, _⟩ := kit_of I ry h
      exact ⟨_, kx.ty _ _ I.kIn hp, hn⟩
  refine PySem.W.cmp_K (op := op) (tb := tb) hr.units0 hF I.ok.mod.kin J hl hn hs hf ?_
  have r2 : Vals [V.ref a, y] [Value.ref a, u] := .cons rfl (.cons ry .nil)
  have hlen := F.len _ _ _ _ q
  refine wpAny_call (codeAny_mono (F.run X.A X.stack s H ⟨[.ref a, u], []⟩ [.ref a, u] [.ref a, y] _ E hr I.env0 (by
    have := hb s [.ref a, u] I.kIn (by simpa using hlen)
    simpa using this) r2 q) fun r s' hq => ?_)
  cases r with
  | error e => exact hx pins σ H s e s' I hq
  | ok fl =>
    cases fl with
    | ret w =>
      obtain ⟨z, H', I', rz, b, ez, q2⟩ := I.after hq
      subst ez
      cases rz
      exact ⟨.bl b, H', I', rfl, q2⟩
    | next => exact hq.elim
    | brk => exact hq.elim
    | cont => exact hq.elim
theorem op_ownEq (F : FnOk X.prog X.w X.K X.mg X.base CX k f fd ps sp) (hs : PySem.W.findIn X.K (.ref C) "__eq__" = some (some (.ref f))) (hf : PySem.W.isFn X.K (.ref f) = true) (hb : Binds X.K fd ps []) (hx : Passes CX X E) (hr : Room k X.A) : OpR X (compareOp .Eq) (rOwn X.K C sp E) := fun pins s σ H x y v u Q I rx ry hq =>
  own_run (op := .Eq) F hs hf hb hx hr pins s σ H x y v u Q I rx ry hq
theorem op_ownNe (F : FnOk X.prog X.w X.K X.mg X.base CX k f fd ps sp) (hs : PySem.W.findIn X.K (.ref C) "__ne__" = some (some (.ref f))) (hf : PySem.W.isFn X.K (.ref f) = true) (hb : Binds X.K fd ps []) (hx : Passes CX X E) (hr : Room k X.A) : OpR X (compareOp .NotEq) (rOwn X.K C sp E) := fun pins s σ H x y v u Q I rx ry hq =>
  own_run (op := .NotEq) F hs hf hb hx hr pins s σ H x y v u Q I rx ry hq
/-- in a comprehension: K named -/
theorem ownEqK {K : PySem.W.Frag} {P : Program} {w : World} {mg : Str → Option Value} {base : Heap} (F : FnOk P w K mg base CX k f fd ps sp) (hs : PySem.W.findIn K (.ref C) "__eq__" = some (some (.ref f))) (hf : PySem.W.isFn K (.ref f) = true) (hb : Binds K fd ps []) (hx : Passes CX X E) (hr : Room k X.A) (h1 : X.prog = P := by rfl) (h2 : X.w = w := by rfl) (h3 : X.K = K := by rfl) (h4 : X.mg = mg := by rfl) (h5 : X.base = base := by rfl) : OpR X (compareOp .Eq) (rOwn K C sp E) := by
  subst h1 h2 h3 h4 h5
  exact op_ownEq F hs hf hb hx hr
end
end DP
/-! Calls by keywords, in any order, with defaults: functions, methods, classes. -/
namespace KW
open PySem PySem.Spec PyProof.Rows L2 DP
/-- those of a list that stand at these places -/
def pick {α : Type} (is : List Nat) (l : List α) : List α := is.filterMap fun i => l[i]?
theorem vals_at : ∀ {vs : List V} {us : List Value} (r : Vals vs us) (i : Nat), (vs[i]? = none ∧ us[i]? = none) ∨ ∃ v u, vs[i]? = some v ∧ us[i]? = some u ∧ RelV v u
  | _, _, .nil, i => .inl ⟨by simp, by simp⟩
  | _, _, .cons h t, 0 => .inr ⟨_, _, rfl, rfl, h⟩
  | _, _, .cons h t, i + 1 => by simpa using vals_at t i
theorem pick_rel {vs : List V} {us : List Value} (r : Vals vs us) : ∀ is : List Nat, Vals (pick is vs) (pick is us)
  | [] => .nil
  | i :: is => by
    unfold pick
    rw [List.filterMap_cons, List.filterMap_cons]
    rcases vals_at r i with ⟨e1, e2⟩ | ⟨v, u, e1, e2, h⟩
    · rw [e1, e2]; exact pick_rel r is
    · rw [e1, e2]; exact .cons h (pick_rel r is)
/-- positional values, then the rest out of the keywords' values and the defaults -/
def gk {α : Type} (is : List Nat) (ds us ws : List α) : List α := us ++ pick is (ws ++ ds)
theorem gk_rel {is : List Nat} {dv vs zs : List V} {ds us ws : List Value} (rd : Vals dv ds) (r : Vals vs us) (rz : Vals zs ws) : Vals (gk is dv vs zs) (gk is ds us ws) := r.append (pick_rel (rz.append rd) is)
/-- all parameters are given -/
theorem kbn0 {K : PySem.W.Frag} {fd : FuncData} {ps ks : List Str} {n : Nat} (is : List Nat) (h : ∀ us ws : List Value, us.length = n → ws.length = ks.length → bindArgs fd ⟨us, ks.zip ws⟩ = pure (ps.zip (gk is [] us ws))) : KBn K fd ps n ks (gk is []) (gk is []) :=
  ⟨fun s us ws _ h1 h2 => .of_eq (h us ws h1 h2), fun r rz => gk_rel .nil r rz⟩
section
variable {K : PySem.W.Frag} {x qual : Str} {params : Arguments} {body : List Stmt} {scope : Scope} {dvs : List V} {f : Addr} {fd : FuncData} {ps : List Str}
/-- the lacking ones stand among the defaults -/
theorem kbnD (F : FunD K x qual params body scope dvs [] f fd) (n : Nat) (ks : List Str) (is : List Nat) (hd : dvs ≠ [])
    (h : ∀ (T : Addr) (kV doc pm : Value) (an : Option Addr) (cdv ct : Value) (us its ws : List Value), us.length = n → its.length = dvs.length → ws.length = ks.length →
      ∃ k, bindArgs (PySem.W.fnOf x qual params body scope (.ref T) kV doc pm an cdv ct) ⟨us, ks.zip ws⟩ = seqItems? (.ref T) >>= k ∧ k (some its.toArray) = pure (ps.zip (gk is its us ws))) : ∃ its : List Value, KBn K fd ps n ks (gk is its) (gk is dvs) := by
  obtain ⟨oc, od, dV, kV, doc, pm, an, cdv, ct, osl, rfl, lk, hcd, hD, hK⟩ := F.ex
  rcases hD with ⟨e, _⟩ | ⟨_, T, o, its, m, rfl, lT, oT, rT⟩
  · exact absurd e hd
  · refine ⟨its, fun s us ws X l1 l2 => ?_, fun r rz => gk_rel rT r rz⟩
    obtain ⟨k, e1, e2⟩ := h T kV doc pm an cdv ct us its ws l1 rT.length.symm l2
    refine BindsTo.of_looks fun M => ?_
    rw [e1]
    exact looks_items X lT oT (.of_pure e2)
end
section
variable {X : Cx} {CX : CXT} {k : Nat} {f C : Addr} {fd : FuncData} {ps ks : List Str} {sp : Sp} {E : XK} {x m : Str} {p pos apos : Pos} {o : Expr} {kws : List Keyword} {ta : TE} {tk : TA} {g : List Value → List Value → List Value} {gV : List V → List V → List V}
def tCallN0 (c : Nat) (sp : Sp) (gV : List V → List V → List V) (E : XK) (tk : TA) : TE := fun σ H Q => tk σ H fun zs H2 => zs.length = c ∧ sp (gV [] zs) H2 Q E
/-- f(k = v, ..) -/
theorem pe_callN0 (F : FnOk X.prog X.w X.K X.mg X.base CX k f fd ps sp) (hr : Room k X.A) (hg : Gl X x) (hm : X.mg x = some (.ref f)) (hk : PySem.W.keepIn X.K (.ref f) = true) (hb : KBn X.K fd ps 0 ks g gV) (hx : Passes CX X E) (hkw : PK X kws tk)
    (hall : (backToKw pos (keywordEach kws X.env)).all (·.1.isSome) = true := by rfl) (hks : (backToKw pos (keywordEach kws X.env)).filterMap (·.1) = ks := by rfl) (hdb : (x == ("__debug__" : Str)) = false := by decide)
    (hpl : ((backTo pos (starEach [] X.env)).any (·.1) || (backToKw pos (keywordEach kws X.env)).any (·.1.isNone)) = false := by rfl) :
    PE X (.Call (.Name x p) [] kws pos) (tCallN0 ks.length sp gV E tk) := by
  refine ⟨fun pins s σ H Q I h => ?_⟩
  refine wpAny_Call_Name_kw (ld_glob I hg hm ?_ hdb)
  refine PySem.W.callWith_KW0 (h₀ := X.base) I.ok.mod.kin hk hall ?_ hpl
  refine thn (hkw.run pos pins s σ H _ I h) fun ws s2 ⟨zs, H2, I2, rz, l2, q2⟩ => ⟨I2.kIn, ?_⟩
  rw [hks]
  exact run_fnN (us := []) (vs := []) F hr hb hx I2 .nil rz rfl l2 q2
def tMethN (C : Addr) (m : Str) (c : Nat) (sp : Sp) (gV : List V → List V → List V) (E : XK) (ta : TE) (tk : TA) : TE := fun σ H Q => ta σ H fun x H1 => ∃ a dx fs, x = .ref a ∧ H1 a = some (.ins C dx fs) ∧ fs.lookup m = none ∧ tk σ H1 fun zs H2 => zs.length = c ∧ sp (gV [.ref a] zs) H2 Q E
/-- o.m(k = v, ..) -/
theorem pe_methN {pl : Sem Bool} (he : PE X o ta) (c : Cls X.K C) (hm : Meth X.K C m f) (F : FnOk X.prog X.w X.K X.mg X.base CX k f fd ps sp) (hr : Room k X.A) (hb : KBn X.K fd ps 1 ks g gV) (hx : Passes CX X E) (hkw : PK X kws tk)
    (hall : (backToKw pos (keywordEach kws X.env)).all (·.1.isSome) = true := by rfl) (hks : (backToKw pos (keywordEach kws X.env)).filterMap (·.1) = ks := by rfl)
    (hpl : ((backTo pos (starEach [] X.env)).any (·.1) || (backToKw pos (keywordEach kws X.env)).any (·.1.isNone)) = false := by rfl)
    (ht : eval (.Call (.Attribute o m apos) [] kws pos) X.env = (do
      let ov ← eval o X.env
      standAt apos.atName
      let (f, first) ← holding [ov] (getMethod ov m pl)
      callWith pos f first (backTo pos (starEach [] X.env)) (backToKw pos (keywordEach kws X.env))) := by rfl) :
    PE X (.Call (.Attribute o m apos) [] kws pos) (tMethN C m ks.length sp gV E ta tk) := by
  refine ⟨fun pins s σ H Q I h => ?_⟩
  refine PySem.W.methodCall_KW (pl := pl) (thn (he.run pins s σ H _ I h) fun u s1 ⟨x, H1, I1, rx, a, dx, fs, ex, ea, l, q⟩ => ?_) ht
  subst ex
  obtain rfl : u = Value.ref a := rx
  refine getmeth_ok I1 ea c hm l ?_
  refine PySem.W.callWith_KW0 (first := [.ref a]) (h₀ := X.base) I.ok.mod.kin hm.kp hall ?_ hpl
  refine thn (hkw.run pos pins s1 σ H1 _ I1 q) fun ws s2 ⟨zs, H2, I2, rz, l2, q2⟩ => ⟨I2.kIn, ?_⟩
  rw [hks]
  exact run_fnN (us := [.ref a]) (vs := [.ref a]) F hr hb hx I2 (.cons rfl .nil) rz rfl l2 q2
end
section
variable {P : Program} {w : World} {K : PySem.W.Frag} {mg : Str → Option Value} {base : Heap} {x qual : Str} {st : Stmt} {dvs : List V} {f : Addr} {fd : FuncData}
/-- a def with defaults, by its body -/
theorem FunD.okN {N ps : List Str} {k : Nat} {sp : Sp} (F : FunD K x qual (defArgs st) (defBody st) (defScope st) dvs [] f fd) (S : FnScope N ps (defScope st)) (len : ∀ vs H Q E, sp vs H Q E → vs.length = ps.length)
    (hbody : ∀ (cdv : Value) (A : Around) (outer : List Env) (s : Shared) (H : Hp) (vs : List V) (Q : VK) (E : XK), Room k (A.deeper (envOfC qual (defScope st) s.heap.objs.size f cdv)) → sp vs H Q E →
      ∃ t, PSs (cxOf CX0 P w K mg base N qual (defScope st) f cdv A outer s H E).nox (defBody st) t ∧ t { nx := fun _ H' => Q .non H', rt := Q } (start N vs) H) : FnOk P w K mg base CX0 (k + 1) f fd ps sp :=
  F.ok S len fun cdv A outer s H vs Q E hr hsp => by
    obtain ⟨t, h, q⟩ := hbody cdv A outer s H vs Q E hr hsp
    exact ⟨t, h.nox, q⟩
end
end KW
namespace KA
open PySem PySem.Spec PyProof.Rows L2 DP
def top (i : Nat) : Stmt := PySem.Challenge.pw_darkpace_k26_hands_told.main.body.getD i (.Pass ⟨0, 0, 0, 0⟩)
abbrev slaw_deck : Stmt := top 22
abbrev N_law_deck : List Str := ["script", "great", "fold", "cell"]
abbrev P_law_deck : List Str := ["script"]
theorem sclaw_deck : FnScope N_law_deck P_law_deck (defScope slaw_deck) := ⟨rfl, rfl, rfl, by decide +kernel, rfl, by decide +kernel, by decide +kernel⟩
abbrev slaw_take : Stmt := top 23
abbrev N_law_take : List Str := ["deck", "many", "drawn", "k", "mixed"]
abbrev P_law_take : List Str := ["deck", "many"]
theorem sclaw_take : FnScope N_law_take P_law_take (defScope slaw_take) := ⟨rfl, rfl, rfl, by decide +kernel, rfl, by decide +kernel, by decide +kernel⟩
abbrev slaw_below : Stmt := top 24
abbrev N_law_below : List Str := ["deck", "many", "found", "left"]
abbrev P_law_below : List Str := ["deck", "many"]
theorem sclaw_below : FnScope N_law_below P_law_below (defScope slaw_below) := ⟨rfl, rfl, rfl, by decide +kernel, rfl, by decide +kernel, by decide +kernel⟩
abbrev slaw_wide : Stmt := top 25
abbrev N_law_wide : List Str := ["deck", "some"]
abbrev P_law_wide : List Str := ["deck"]
theorem sclaw_wide : FnScope N_law_wide P_law_wide (defScope slaw_wide) := ⟨rfl, rfl, rfl, by decide +kernel, rfl, by decide +kernel, by decide +kernel⟩
abbrev slaw_hidden : Stmt := top 26
abbrev N_law_hidden : List Str := ["deck", "wide", "many", "spots", "k", "begun", "ends", "spot"]
abbrev P_law_hidden : List Str := ["deck", "wide", "many"]
theorem sclaw_hidden : FnScope N_law_hidden P_law_hidden (defScope slaw_hidden) := ⟨rfl, rfl, rfl, by decide +kernel, rfl, by decide +kernel, by decide +kernel⟩
abbrev slaw_steps_of : Stmt := top 27
abbrev N_law_steps_of : List Str := ["deck", "wide", "many", "k"]
abbrev P_law_steps_of : List Str := ["deck", "wide"]
theorem sclaw_steps_of : FnScope N_law_steps_of P_law_steps_of (defScope slaw_steps_of) := ⟨rfl, rfl, rfl, by decide +kernel, rfl, by decide +kernel, by decide +kernel⟩
abbrev slaw_afar : Stmt := top 28
abbrev N_law_afar : List Str := ["deck", "wide", "pairs", "left", "found", "k", "spot", "there", "turns"]
abbrev P_law_afar : List Str := ["deck", "wide", "pairs"]
theorem sclaw_afar : FnScope N_law_afar P_law_afar (defScope slaw_afar) := ⟨rfl, rfl, rfl, by decide +kernel, rfl, by decide +kernel, by decide +kernel⟩
abbrev slaw_same : Stmt := top 29
abbrev N_law_same : List Str := ["found", "due", "k"]
abbrev P_law_same : List Str := ["found", "due"]
theorem sclaw_same : FnScope N_law_same P_law_same (defScope slaw_same) := ⟨rfl, rfl, rfl, by decide +kernel, rfl, by decide +kernel, by decide +kernel⟩
abbrev slaw_home : Stmt := top 30
abbrev N_law_home : List Str := ["wide", "pairs", "spot", "there"]
abbrev P_law_home : List Str := ["wide", "pairs"]
theorem sclaw_home : FnScope N_law_home P_law_home (defScope slaw_home) := ⟨rfl, rfl, rfl, by decide +kernel, rfl, by decide +kernel, by decide +kernel⟩
abbrev slaw_otherwise : Stmt := top 31
abbrev N_law_otherwise : List Str := ["deck", "wide", "pairs", "at", "spot", "there", "ways"]
abbrev P_law_otherwise : List Str := ["deck", "wide", "pairs"]
theorem sclaw_otherwise : FnScope N_law_otherwise P_law_otherwise (defScope slaw_otherwise) := ⟨rfl, rfl, rfl, by decide +kernel, rfl, by decide +kernel, by decide +kernel⟩
abbrev splace_by : Stmt := top 12
abbrev N_place_by : List Str := ["look", "side", "x", "length", "_", "start", "end"]
abbrev P_place_by : List Str := ["look", "side", "x", "length"]
theorem scplace_by : FnScope N_place_by P_place_by (defScope splace_by) := ⟨rfl, rfl, rfl, by decide +kernel, rfl, by decide +kernel, by decide +kernel⟩
abbrev stoo_far : Stmt := top 16
abbrev N_too_far : List Str := ["low", "high", "length"]
abbrev P_too_far : List Str := ["low", "high", "length"]
theorem sctoo_far : FnScope N_too_far P_too_far (defScope stoo_far) := ⟨rfl, rfl, rfl, by decide +kernel, rfl, by decide +kernel, by decide +kernel⟩
abbrev sclash : Stmt := top 17
abbrev N_clash : List Str := ["look", "other", "length"]
abbrev P_clash : List Str := ["look", "other", "length"]
theorem scclash : FnScope N_clash P_clash (defScope sclash) := ⟨rfl, rfl, rfl, by decide +kernel, rfl, by decide +kernel, by decide +kernel⟩
abbrev sDark_init : Stmt := inClass (top 18) 0
abbrev N_Dark_init : List Str := ["self", "length"]
abbrev P_Dark_init : List Str := ["self", "length"]
theorem scDark_init : FnScope N_Dark_init P_Dark_init (defScope sDark_init) := ⟨rfl, rfl, rfl, by decide +kernel, rfl, by decide +kernel, by decide +kernel⟩
abbrev sDark_eq : Stmt := inClass (top 18) 1
abbrev N_Dark_eq : List Str := ["self", "other"]
abbrev P_Dark_eq : List Str := ["self", "other"]
theorem scDark_eq : FnScope N_Dark_eq P_Dark_eq (defScope sDark_eq) := ⟨rfl, rfl, rfl, by decide +kernel, rfl, by decide +kernel, by decide +kernel⟩
abbrev sDark_length : Stmt := inClass (top 18) 3
abbrev N_Dark_length : List Str := ["self"]
abbrev P_Dark_length : List Str := ["self"]
theorem scDark_length : FnScope N_Dark_length P_Dark_length (defScope sDark_length) := ⟨rfl, rfl, rfl, by decide +kernel, rfl, by decide +kernel, by decide +kernel⟩
abbrev sDark_hear : Stmt := inClass (top 18) 4
abbrev N_Dark_hear : List Str := ["self", "word", "x", "y", "look", "other"]
abbrev P_Dark_hear : List Str := ["self", "word", "x", "y"]
theorem scDark_hear : FnScope N_Dark_hear P_Dark_hear (defScope sDark_hear) := ⟨rfl, rfl, rfl, by decide +kernel, rfl, by decide +kernel, by decide +kernel⟩
abbrev sDark_looks : Stmt := inClass (top 18) 6
abbrev N_Dark_looks : List Str := ["self"]
abbrev P_Dark_looks : List Str := ["self"]
theorem scDark_looks : FnScope N_Dark_looks P_Dark_looks (defScope sDark_looks) := ⟨rfl, rfl, rfl, by decide +kernel, rfl, by decide +kernel, by decide +kernel⟩
abbrev sDark_led_back : Stmt := inClass (top 18) 11
abbrev N_Dark_led_back : List Str := ["self", "back", "word", "x", "y"]
abbrev P_Dark_led_back : List Str := ["self"]
theorem scDark_led_back : FnScope N_Dark_led_back P_Dark_led_back (defScope sDark_led_back) := ⟨rfl, rfl, rfl, by decide +kernel, rfl, by decide +kernel, by decide +kernel⟩
abbrev sDarkcheck_word : Stmt := inClass (top 18) 12
abbrev N_Darkcheck_word : List Str := ["self", "word"]
abbrev P_Darkcheck_word : List Str := ["self", "word"]
theorem scDarkcheck_word : FnScope N_Darkcheck_word P_Darkcheck_word (defScope sDarkcheck_word) := ⟨rfl, rfl, rfl, by decide +kernel, rfl, by decide +kernel, by decide +kernel⟩
abbrev sDarkhome : Stmt := inClass (top 18) 13
abbrev N_Darkhome : List Str := ["self", "word", "x", "y", "turns"]
abbrev P_Darkhome : List Str := ["self", "word", "x", "y"]
theorem scDarkhome : FnScope N_Darkhome P_Darkhome (defScope sDarkhome) := ⟨rfl, rfl, rfl, by decide +kernel, rfl, by decide +kernel, by decide +kernel⟩
abbrev sDarkclashing : Stmt := inClass (top 18) 14
abbrev N_Darkclashing : List Str := ["self", "look", "other"]
abbrev P_Darkclashing : List Str := ["self", "look"]
theorem scDarkclashing : FnScope N_Darkclashing P_Darkclashing (defScope sDarkclashing) := ⟨rfl, rfl, rfl, by decide +kernel, rfl, by decide +kernel, by decide +kernel⟩
abbrev sHand_init : Stmt := inClass (top 20) 0
abbrev N_Hand_init : List Str := ["self", "length", "steps", "x", "y"]
abbrev P_Hand_init : List Str := ["self", "length", "steps"]
theorem scHand_init : FnScope N_Hand_init P_Hand_init (defScope sHand_init) := ⟨rfl, rfl, rfl, by decide +kernel, rfl, by decide +kernel, by decide +kernel⟩
abbrev sHand_eq : Stmt := inClass (top 20) 1
abbrev N_Hand_eq : List Str := ["self", "other"]
abbrev P_Hand_eq : List Str := ["self", "other"]
theorem scHand_eq : FnScope N_Hand_eq P_Hand_eq (defScope sHand_eq) := ⟨rfl, rfl, rfl, by decide +kernel, rfl, by decide +kernel, by decide +kernel⟩
abbrev sHand_ne : Stmt := inClass (top 20) 2
abbrev N_Hand_ne : List Str := ["self", "other"]
abbrev P_Hand_ne : List Str := ["self", "other"]
theorem scHand_ne : FnScope N_Hand_ne P_Hand_ne (defScope sHand_ne) := ⟨rfl, rfl, rfl, by decide +kernel, rfl, by decide +kernel, by decide +kernel⟩
abbrev sHand_length : Stmt := inClass (top 20) 3
abbrev N_Hand_length : List Str := ["self"]
abbrev P_Hand_length : List Str := ["self"]
theorem scHand_length : FnScope N_Hand_length P_Hand_length (defScope sHand_length) := ⟨rfl, rfl, rfl, by decide +kernel, rfl, by decide +kernel, by decide +kernel⟩
abbrev sHand_steps : Stmt := inClass (top 20) 4
abbrev N_Hand_steps : List Str := ["self", "_", "x", "y"]
abbrev P_Hand_steps : List Str := ["self"]
theorem scHand_steps : FnScope N_Hand_steps P_Hand_steps (defScope sHand_steps) := ⟨rfl, rfl, rfl, by decide +kernel, rfl, by decide +kernel, by decide +kernel⟩
abbrev slaw : Stmt := top 32
abbrev N_law : List Str := ["script", "deck", "lap", "wide", "pairs", "handed", "hand", "due", "told", "others", "size", "some", "alike", "other", "thing"]
abbrev P_law : List Str := ["script"]
theorem sclaw : FnScope N_law P_law (defScope slaw) := ⟨rfl, rfl, rfl, by decide +kernel, rfl, by decide +kernel, by decide +kernel⟩
structure Ad where
  C : Addr
  C_Hand : Addr
  a_law_deck : Addr
  d_law_deck : FuncData
  a_law_take : Addr
  d_law_take : FuncData
  a_law_below : Addr
  d_law_below : FuncData
  a_law_wide : Addr
  d_law_wide : FuncData
  a_law_hidden : Addr
  d_law_hidden : FuncData
  a_law_steps_of : Addr
  d_law_steps_of : FuncData
  a_law_afar : Addr
  d_law_afar : FuncData
  a_law_same : Addr
  d_law_same : FuncData
  a_law_home : Addr
  d_law_home : FuncData
  a_law_otherwise : Addr
  d_law_otherwise : FuncData
  a_place_by : Addr
  d_place_by : FuncData
  a_too_far : Addr
  d_too_far : FuncData
  a_clash : Addr
  d_clash : FuncData
  a_Dark_init : Addr
  d_Dark_init : FuncData
  a_Dark_eq : Addr
  d_Dark_eq : FuncData
  a_Dark_length : Addr
  d_Dark_length : FuncData
  a_Dark_hear : Addr
  d_Dark_hear : FuncData
  a_Dark_looks : Addr
  d_Dark_looks : FuncData
  a_Dark_led_back : Addr
  d_Dark_led_back : FuncData
  a_Darkcheck_word : Addr
  d_Darkcheck_word : FuncData
  a_Darkhome : Addr
  d_Darkhome : FuncData
  a_Darkclashing : Addr
  d_Darkclashing : FuncData
  a_Hand_init : Addr
  d_Hand_init : FuncData
  a_Hand_eq : Addr
  d_Hand_eq : FuncData
  a_Hand_ne : Addr
  d_Hand_ne : FuncData
  a_Hand_length : Addr
  d_Hand_length : FuncData
  a_Hand_steps : Addr
  d_Hand_steps : FuncData
  a_law : Addr
  d_law : FuncData
  v_SLOW : Value
  v_FAST : Value
  a_WORDS : Addr
  a_LW : Addr
  t_slow : Addr
  t_fast : Addr
structure Tx (K : PySem.W.Frag) (w : World) (mg : Str → Option Value) (Z : Ad) : Prop where
  F_law_deck : Fun K "_law_deck" "_law_deck" slaw_deck Z.a_law_deck Z.d_law_deck
  bb_law_deck : Binds K Z.d_law_deck P_law_deck []
  g_law_deck : mg "_law_deck" = some (.ref Z.a_law_deck)
  F_law_take : Fun K "_law_take" "_law_take" slaw_take Z.a_law_take Z.d_law_take
  bb_law_take : Binds K Z.d_law_take P_law_take []
  g_law_take : mg "_law_take" = some (.ref Z.a_law_take)
  F_law_below : Fun K "_law_below" "_law_below" slaw_below Z.a_law_below Z.d_law_below
  bb_law_below : Binds K Z.d_law_below P_law_below []
  g_law_below : mg "_law_below" = some (.ref Z.a_law_below)
  F_law_wide : Fun K "_law_wide" "_law_wide" slaw_wide Z.a_law_wide Z.d_law_wide
  bb_law_wide : Binds K Z.d_law_wide P_law_wide []
  g_law_wide : mg "_law_wide" = some (.ref Z.a_law_wide)
  F_law_hidden : Fun K "_law_hidden" "_law_hidden" slaw_hidden Z.a_law_hidden Z.d_law_hidden
  bb_law_hidden : Binds K Z.d_law_hidden P_law_hidden []
  g_law_hidden : mg "_law_hidden" = some (.ref Z.a_law_hidden)
  F_law_steps_of : Fun K "_law_steps_of" "_law_steps_of" slaw_steps_of Z.a_law_steps_of Z.d_law_steps_of
  bb_law_steps_of : Binds K Z.d_law_steps_of P_law_steps_of []
  g_law_steps_of : mg "_law_steps_of" = some (.ref Z.a_law_steps_of)
  F_law_afar : Fun K "_law_afar" "_law_afar" slaw_afar Z.a_law_afar Z.d_law_afar
  bb_law_afar : Binds K Z.d_law_afar P_law_afar []
  g_law_afar : mg "_law_afar" = some (.ref Z.a_law_afar)
  F_law_same : Fun K "_law_same" "_law_same" slaw_same Z.a_law_same Z.d_law_same
  bb_law_same : Binds K Z.d_law_same P_law_same []
  g_law_same : mg "_law_same" = some (.ref Z.a_law_same)
  F_law_home : Fun K "_law_home" "_law_home" slaw_home Z.a_law_home Z.d_law_home
  bb_law_home : Binds K Z.d_law_home P_law_home []
  g_law_home : mg "_law_home" = some (.ref Z.a_law_home)
  F_law_otherwise : Fun K "_law_otherwise" "_law_otherwise" slaw_otherwise Z.a_law_otherwise Z.d_law_otherwise
  bb_law_otherwise : Binds K Z.d_law_otherwise P_law_otherwise []
  g_law_otherwise : mg "_law_otherwise" = some (.ref Z.a_law_otherwise)
  F_place_by : Fun K "place_by" "place_by" splace_by Z.a_place_by Z.d_place_by
  bb_place_by : Binds K Z.d_place_by P_place_by []
  g_place_by : mg "place_by" = some (.ref Z.a_place_by)
  F_too_far : Fun K "too_far" "too_far" stoo_far Z.a_too_far Z.d_too_far
  bb_too_far : Binds K Z.d_too_far P_too_far []
  g_too_far : mg "too_far" = some (.ref Z.a_too_far)
  F_clash : Fun K "clash" "clash" sclash Z.a_clash Z.d_clash
  bb_clash : Binds K Z.d_clash P_clash []
  g_clash : mg "clash" = some (.ref Z.a_clash)
  F_Dark_init : Fun K "__init__" "Dark.__init__" sDark_init Z.a_Dark_init Z.d_Dark_init
  bb_Dark_init : Binds K Z.d_Dark_init P_Dark_init []
  F_Dark_eq : Fun K "__eq__" "Dark.__eq__" sDark_eq Z.a_Dark_eq Z.d_Dark_eq
  bb_Dark_eq : Binds K Z.d_Dark_eq P_Dark_eq []
  m_Dark_eq : Meth K Z.C "__eq__" Z.a_Dark_eq
  F_Dark_length : Fun K "length" "Dark.length" sDark_length Z.a_Dark_length Z.d_Dark_length
  bb_Dark_length : Binds K Z.d_Dark_length P_Dark_length []
  m_Dark_length : Meth K Z.C "length" Z.a_Dark_length
  F_Dark_hear : Fun K "hear" "Dark.hear" sDark_hear Z.a_Dark_hear Z.d_Dark_hear
  bb_Dark_hear : Binds K Z.d_Dark_hear P_Dark_hear []
  m_Dark_hear : Meth K Z.C "hear" Z.a_Dark_hear
  F_Dark_looks : Fun K "looks" "Dark.looks" sDark_looks Z.a_Dark_looks Z.d_Dark_looks
  bb_Dark_looks : Binds K Z.d_Dark_looks P_Dark_looks []
  m_Dark_looks : Meth K Z.C "looks" Z.a_Dark_looks
  F_Dark_led_back : Fun K "led_back" "Dark.led_back" sDark_led_back Z.a_Dark_led_back Z.d_Dark_led_back
  bb_Dark_led_back : Binds K Z.d_Dark_led_back P_Dark_led_back []
  m_Dark_led_back : Meth K Z.C "led_back" Z.a_Dark_led_back
  F_Darkcheck_word : Fun K "_check_word" "Dark._check_word" sDarkcheck_word Z.a_Darkcheck_word Z.d_Darkcheck_word
  bb_Darkcheck_word : Binds K Z.d_Darkcheck_word P_Darkcheck_word []
  m_Darkcheck_word : Meth K Z.C "_check_word" Z.a_Darkcheck_word
  F_Darkhome : Fun K "_home" "Dark._home" sDarkhome Z.a_Darkhome Z.d_Darkhome
  bb_Darkhome : Binds K Z.d_Darkhome P_Darkhome []
  m_Darkhome : Meth K Z.C "_home" Z.a_Darkhome
  F_Darkclashing : Fun K "_clashing" "Dark._clashing" sDarkclashing Z.a_Darkclashing Z.d_Darkclashing
  bb_Darkclashing : Binds K Z.d_Darkclashing P_Darkclashing []
  m_Darkclashing : Meth K Z.C "_clashing" Z.a_Darkclashing
  F_Hand_init : Fun K "__init__" "Hand.__init__" sHand_init Z.a_Hand_init Z.d_Hand_init
  bb_Hand_init : Binds K Z.d_Hand_init P_Hand_init []
  F_Hand_eq : Fun K "__eq__" "Hand.__eq__" sHand_eq Z.a_Hand_eq Z.d_Hand_eq
  bb_Hand_eq : Binds K Z.d_Hand_eq P_Hand_eq []
  m_Hand_eq : Meth K Z.C_Hand "__eq__" Z.a_Hand_eq
  F_Hand_ne : Fun K "__ne__" "Hand.__ne__" sHand_ne Z.a_Hand_ne Z.d_Hand_ne
  bb_Hand_ne : Binds K Z.d_Hand_ne P_Hand_ne []
  m_Hand_ne : Meth K Z.C_Hand "__ne__" Z.a_Hand_ne
  F_Hand_length : Fun K "length" "Hand.length" sHand_length Z.a_Hand_length Z.d_Hand_length
  bb_Hand_length : Binds K Z.d_Hand_length P_Hand_length []
  m_Hand_length : Meth K Z.C_Hand "length" Z.a_Hand_length
  F_Hand_steps : Fun K "steps" "Hand.steps" sHand_steps Z.a_Hand_steps Z.d_Hand_steps
  bb_Hand_steps : Binds K Z.d_Hand_steps P_Hand_steps []
  m_Hand_steps : Meth K Z.C_Hand "steps" Z.a_Hand_steps
  F_law : Fun K "law" "law" slaw Z.a_law Z.d_law
  bb_law : Binds K Z.d_law P_law []
  g_law : mg "law" = some (.ref Z.a_law)
  kn_Hand_init_steps_length : KBn K Z.d_Hand_init P_Hand_init 1 ["steps", "length"] (KW.gk [1, 0] []) (KW.gk [1, 0] [])
  cl : Cls K Z.C
  g_Dark : mg "Dark" = some (.ref Z.C)
  cl_Hand : Cls K Z.C_Hand
  g_Hand : mg "Hand" = some (.ref Z.C_Hand)
  mk_Hand : Mk K Z.C_Hand Z.a_Hand_init
  nHand__dark : NoAttr K Z.C_Hand "_dark"
  nHand__back : NoAttr K Z.C_Hand "_back"
  isi : IsiC K Z.C
  no_list : PySem.W.kitOne K (.type "list") (.ref Z.C) = some false
  no_int : PySem.W.kitOne K (.type "int") (.ref Z.C) = some false
  nf_list : PySem.W.notFirst K Z.C (.type "list") = true
  nf_int : PySem.W.notFirst K Z.C (.type "int") = true
  isi_Hand : IsiC K Z.C_Hand
  no_Hand_NoneType : PySem.W.kitOne K (.type "NoneType") (.ref Z.C_Hand) = some false
  nf_Hand_NoneType : PySem.W.notFirst K Z.C_Hand (.type "NoneType") = true
  no_Hand_int : PySem.W.kitOne K (.type "int") (.ref Z.C_Hand) = some false
  nf_Hand_int : PySem.W.notFirst K Z.C_Hand (.type "int") = true
  no_Hand_str : PySem.W.kitOne K (.type "str") (.ref Z.C_Hand) = some false
  nf_Hand_str : PySem.W.notFirst K Z.C_Hand (.type "str") = true
  no_Hand_list : PySem.W.kitOne K (.type "list") (.ref Z.C_Hand) = some false
  nf_Hand_list : PySem.W.notFirst K Z.C_Hand (.type "list") = true
  no_Hand_tuple : PySem.W.kitOne K (.type "tuple") (.ref Z.C_Hand) = some false
  nf_Hand_tuple : PySem.W.notFirst K Z.C_Hand (.type "tuple") = true
  no_Hand_dict : PySem.W.kitOne K (.type "dict") (.ref Z.C_Hand) = some false
  nf_Hand_dict : PySem.W.notFirst K Z.C_Hand (.type "dict") = true
  mk_Dark : Mk K Z.C Z.a_Dark_init
  n_length : NoAttr K Z.C "_length"
  n_looks : NoAttr K Z.C "_looks"
  b_len : mg "len" = none
  b_range : mg "range" = none
  b_sorted : mg "sorted" = none
  b_set : mg "set" = none
  b_abs : mg "abs" = none
  b_list : mg "list" = none
  b_int : mg "int" = none
  b_isinstance : mg "isinstance" = none
  b_tuple : mg "tuple" = none
  b_bool : mg "bool" = none
  b_all : mg "all" = none
  b_min : mg "min" = none
  g_SLOW : mg "SLOW" = some Z.v_SLOW
  r_SLOW : RelV (.str "slow") Z.v_SLOW
  g_FAST : mg "FAST" = some Z.v_FAST
  r_FAST : RelV (.str "fast") Z.v_FAST
  g_WORDS : mg "WORDS" = some (.ref Z.a_WORDS)
  kd_WORDS : ∃ es n, KDict K w Z.a_WORDS es n
  w_slow : PySem.W.nsIn K Z.a_WORDS "slow" = some (some (.ref Z.t_slow))
  w_fast : PySem.W.nsIn K Z.a_WORDS "fast" = some (some (.ref Z.t_fast))
  q_slow : ∀ H, SqT K H Z.t_slow [.str "at", .str "from"]
  q_fast : ∀ H, SqT K H Z.t_fast [.str "at", .str "upto"]
  g_LOOK_WORDS : mg "LOOK_WORDS" = some (.ref Z.a_LW)
  q_LW : ∀ H, SqT K H Z.a_LW [.str "at", .str "from", .str "upto"]
end KA
/-! Looks in plain Lean. -/
namespace KA
open PySem PySem.Spec PyProof.Rows L2 DP
/-- a look: word, x, y -/
abbrev Lk := Str × Int × Int
def encL (l : Lk) : PyData := .tuple [.str l.1, .int l.2.1, .int l.2.2]
def WordOk (x : Str) : Prop := x = "at" ∨ x = "from" ∨ x = "upto"
def SideOk (x : Str) : Prop := x = "slow" ∨ x = "fast"
/-- the words of a side, by truth -/
def onSide (sd x : Str) : Bool := if sd = "slow" then (decide (x = "at") || decide (x = "from")) else (decide (x = "at") || decide (x = "upto"))
/-- where a look alone tells that x is led -/
def plc (sd : Str) (l : Lk) (x L : Int) : Int := if sd = "slow" then l.2.2 + (x - l.2.1) / L * L else l.2.2 - (l.2.1 - x) / L * L
def Sized (n : Nat) (l : Lk) : Prop := l.2.1.natAbs < 2 ^ n ∧ l.2.2.natAbs < 2 ^ n
theorem slow_ne : ¬ (("fast" : Str) = "slow") := by decide +kernel
theorem plc_slow (l : Lk) (x L : Int) : plc "slow" l x L = l.2.2 + (x - l.2.1) / L * L := if_pos rfl
theorem plc_fast (l : Lk) (x L : Int) : plc "fast" l x L = l.2.2 - (l.2.1 - x) / L * L := if_neg slow_ne
def tooFar (a b : Lk) (L : Int) : Bool := onSide "slow" a.1 && onSide "fast" b.1 && decide (b.2.2 < plc "slow" a b.2.1 L)
def clashB (a b : Lk) (L : Int) : Bool := tooFar a b L || tooFar b a L
/-- brought home -/
def home (L : Int) (l : Lk) : Lk := (l.1, l.2.1 - l.2.1 / L * L, l.2.2 - l.2.1 / L * L)
theorem nat_div {a L : Int} (h : 0 < L) : (a / L).natAbs ≤ a.natAbs + 1 := Nat.le_succ_of_le (Int.natAbs_ediv_le_natAbs a L)
theorem sub_lt {a b : Int} {n : Nat} (ha : a.natAbs < 2 ^ n) (hb : b.natAbs < 2 ^ n) : (a - b).natAbs < 2 ^ (n + 1) := by
  rw [Nat.pow_succ]; omega
theorem add_lt {a b : Int} {n : Nat} (ha : a.natAbs < 2 ^ n) (hb : b.natAbs < 2 ^ n) : (a + b).natAbs < 2 ^ (n + 1) := by
  rw [Nat.pow_succ]; omega
theorem div_lt {a L : Int} {n : Nat} (h : 0 < L) (ha : a.natAbs < 2 ^ n) : (a / L).natAbs < 2 ^ (n + 1) := by
  have := nat_div (a := a) h
  have h1 : 1 ≤ 2 ^ n := Nat.one_le_two_pow
  rw [Nat.pow_succ]; omega
theorem lt_up {a : Int} {m n : Nat} (ha : a.natAbs < 2 ^ m) (h : m ≤ n) : a.natAbs < 2 ^ n := Nat.lt_of_lt_of_le ha (Nat.pow_le_pow_right (by decide) h)
section
variable {K : PySem.W.Frag} {H : Hp}
theorem dp_look {v : V} {l : Lk} (h : Dp K H v (encL l)) : ∃ a, v = .ref a ∧ SqT K H a [.str l.1, .int l.2.1, .int l.2.2] := by
  have h' : Dp K H v (.tuple [.str l.1, .int l.2.1, .int l.2.2]) := h
  cases h' with
  | tup s a =>
    cases a with
    | cons a1 a =>
      cases a with
      | cons a2 a =>
        cases a with
        | cons a3 a =>
          cases a; cases a1; cases a2; cases a3
          exact ⟨_, rfl, s⟩
theorem dp_list {v : V} {ds : List PyData} (h : Dp K H v (.list ds)) : ∃ a xs, v = .ref a ∧ SqL K H a xs ∧ DpAll K H xs ds := by
  cases h with
  | lst s a => exact ⟨_, _, rfl, s, a⟩
end
theorem decl_words {x : Str} (h : WordOk x) : inV (.str x) [.str "at", .str "from"] = onSide "slow" x ∧ inV (.str x) [.str "at", .str "upto"] = onSide "fast" x ∧ inV (.str x) [.str "at", .str "from", .str "upto"] = true := by
  rcases h with e | e | e <;> subst e <;> decide +kernel
theorem yes_ite {σ : L2.St} {H : Hp} {A B : Hp → Prop} (h : A H) : tYes σ H (fun b H3 => if b = true then A H3 else B H3) := by
  show (if true = true then A H else B H)
  rw [if_pos rfl]
  exact h
/-- data without lists: tuples, numbers, texts -/
def noL : PyData → Bool
  | .list _ => false
  | .dict _ => false
  | .tuple xs => noLs xs
  | _ => true
where noLs : List PyData → Bool
  | [] => true
  | x :: xs => noL x && noLs xs
/-- tuples stand -/
def Tups (H H' : Hp) : Prop := ∀ b xs, Rd H b (.tup xs) → Rd H' b (.tup xs)
theorem Tups.of_same {H H' : Hp} (S : Same H H') : Tups H H' := fun _ _ h => DP.Same.rd S h
theorem Tups.upd_lst {H : Hp} {D : Addr} {ys : List V} {o : HO} (h : H D = some (.lst ys)) : Tups H (upd H D o) := fun b xs hb => by
  have hn : b ≠ D := by
    rintro rfl
    rcases hb with e | ⟨q, e⟩ <;> rw [h] at e <;> cases e
  rcases hb with e | ⟨q, e⟩
  · exact .inl ((upd_ne hn).trans e)
  · exact .inr ⟨q, (upd_ne hn).trans e⟩
theorem Tups.upd_ins {H : Hp} {D C dx : Addr} {fs : List (Str × V)} {o : HO} (h : H D = some (.ins C dx fs)) : Tups H (upd H D o) := fun b xs hb => by
  have hn : b ≠ D := by
    rintro rfl
    rcases hb with e | ⟨q, e⟩ <;> rw [h] at e <;> cases e
  rcases hb with e | ⟨q, e⟩
  · exact .inl ((upd_ne hn).trans e)
  · exact .inr ⟨q, (upd_ne hn).trans e⟩
theorem Tups.trans {H H1 H2 : Hp} (a : Tups H H1) (b : Tups H1 H2) : Tups H H2 := fun c xs h => b c xs (a c xs h)
section
variable {K : PySem.W.Frag} {H H' : Hp}
mutual
theorem dp_tups (S : Tups H H') : ∀ (d : PyData) (v : V), noL d = true → Dp K H v d → Dp K H' v d
  | .none, _, _, h => by cases h; exact .non
  | .bool _, _, _, h => by cases h; exact .bl _
  | .int _, _, _, h => by cases h; exact .int _
  | .str _, _, _, h => by cases h; exact .str _
  | .list _, _, n, _ => by simp [noL] at n
  | .dict _, _, n, _ => by simp [noL] at n
  | .tuple ds, _, n, h => by
    cases h with
    | tup s a =>
      refine .tup ?_ (dpAll_tups S ds _ (by simpa [noL] using n) a)
      rcases s with s | s
      · exact .inl (S _ _ s)
      · exact .inr s
theorem dpAll_tups (S : Tups H H') : ∀ (ds : List PyData) (vs : List V), noL.noLs ds = true → DpAll K H vs ds → DpAll K H' vs ds
  | [], _, _, h => by cases h; exact .nil
  | d :: ds, _, n, h => by
    rw [noL.noLs, Bool.and_eq_true] at n
    cases h with
    | cons a b => exact .cons (dp_tups S d _ n.1 a) (dpAll_tups S ds _ n.2 b)
end
theorem noLs_map {β : Type} {enc : β → PyData} (h : ∀ b, noL (enc b) = true) : ∀ bs : List β, noL.noLs (bs.map enc) = true
  | [] => rfl
  | b :: bs => by
    show noL.noLs (enc b :: bs.map enc) = true
    rw [noL.noLs, h b, noLs_map h bs]; rfl
theorem noL_encL (l : Lk) : noL (encL l) = true := rfl
/-- one more at the list that a comprehension makes -/
theorem acc_step {D : Addr} {ys : List V} {ds : List PyData} {y : V} {d : PyData} (hD : H D = some (.lst ys)) (hn : noL.noLs ds = true) (hd : noL d = true) (h : DpAll K H ys ds) (hy : Dp K H y d) :
    DpAll K (upd H D (.lst (ys ++ [y]))) (ys ++ [y]) (ds ++ [d]) :=
  dpAll_snoc (dpAll_tups (Tups.upd_lst hD) _ _ hn h) (dp_tups (Tups.upd_lst hD) _ _ hd hy)
end
theorem same_set {H : Hp} {p : Addr} {o : HO} {H1 : Hp} (S : Same H H1) (hn : H p = none) : Same H (upd H1 p o) := fun b u e => by rw [upd_ne (ne_of_none e hn)]; exact S b u e
theorem take_snoc {α : Type} : ∀ {l : List α} {i : Nat} {x : α}, l[i]? = some x → l.take (i + 1) = l.take i ++ [x]
  | [], i, x, h => by simp at h
  | a :: l, 0, x, h => by
    have e : a = x := Option.some.inj h
    subst e
    rfl
  | a :: l, i + 1, x, h => by
    have ih := take_snoc (l := l) (i := i) (x := x) h
    show a :: l.take (i + 1) = a :: l.take i ++ [x]
    rw [ih]; rfl
theorem map_at {α β : Type} {f : α → β} {l : List α} {i : Nat} {y : β} (h : (l.map f)[i]? = some y) : ∃ x, l[i]? = some x ∧ y = f x := by
  rw [List.getElem?_map] at h
  cases e : l[i]? with
  | none => rw [e] at h; cases h
  | some x => rw [e] at h; exact ⟨x, rfl, (Option.some.inj h).symm⟩
end KA
namespace KA
open PySem PySem.Spec PyProof.Rows L2 DP
def spPlace (K : PySem.W.Frag) : Sp := fun vs H Q _ => ∃ (v : V) (l : Lk) (sd : Str) (x L : Int), vs = [v, .str sd, .int x, .int L] ∧ Dp K H v (encL l) ∧ SideOk sd ∧ 0 < L ∧ L.natAbs < 2 ^ 200 ∧ x.natAbs < 2 ^ 400 ∧ Sized 400 l ∧ Q (.int (plc sd l x L)) H
def spFar (K : PySem.W.Frag) (f : Lk → Lk → Int → Bool) : Sp := fun vs H Q _ => ∃ (v u : V) (a b : Lk) (L : Int), vs = [v, u, .int L] ∧ Dp K H v (encL a) ∧ Dp K H u (encL b) ∧ WordOk a.1 ∧ WordOk b.1 ∧ 0 < L ∧ L.natAbs < 2 ^ 200 ∧ Sized 400 a ∧ Sized 400 b ∧ Q (.bl (f a b L)) H
section
variable {P : Program} {w : World} {K : PySem.W.Frag} {mg : Str → Option Value} {base : Heap} {Z : Ad}
theorem ok_place_by (T : Tx K w mg Z) : FnOk P w K mg base CX0 1 Z.a_place_by Z.d_place_by P_place_by (spPlace K) := by
  refine T.F_place_by.ok scplace_by (fun vs H Q E h => ?_) (fun cdv A outer s H vs Q E hr h => ?_)
  · obtain ⟨v, l, sd, x, L, rfl, _⟩ := h
    rfl
  · obtain ⟨v, l, sd, x, L, rfl, hv, hsd, hL, hLb, hx, hl, k⟩ := h
    obtain ⟨a, rfl, ha⟩ := dp_look hv
    refine ⟨_, (pss_cons (ps_asg (pv 0) (tupK (K := K) (by rfl) (pgs_cons (pg_name (i := 4) scplace_by.nd rfl (Or.inl rfl)) (pgs_cons (pg_name (i := 5) scplace_by.nd rfl (Or.inl rfl)) (pgs_cons (pg_name (i := 6) scplace_by.nd rfl (Or.inl rfl)) pgs_nil)))))
      (C8.pss_cut (ps_if (pt_cmpR op_eq (pv 1) (pe_glob rfl T.g_SLOW T.r_SLOW) (nomark _)) (pss_one (ps_ret (pe_op op_add (pv 6) (pe_op op_mulW (pe_op op_fdivW (pe_op op_sub (pv 2) (pv 5)) (pv 3)) (pv 3))))) pss_nil)
      (pss_one (ps_ret (pe_op op_sub (pv 6) (pe_op op_mulW (pe_op op_fdivW (pe_op op_sub (pv 5) (pv 2)) (pv 3)) (pv 3))))))), ?_⟩
    refine ⟨_, rfl, _, _, rfl, ha, rfl, _, _, rfl, _, _, rfl, _, _, rfl, rfl, ?_⟩
    have e1 : (x - l.2.1).natAbs < 2 ^ 401 := sub_lt hx hl.1
    have e2 : (l.2.1 - x).natAbs < 2 ^ 401 := sub_lt hl.1 hx
    rcases hsd with e | e
    · subst e
      rw [plc_slow] at k
      refine ⟨fun _ _ => False, ⟨_, rfl, rfl, _, rfl, iteT ⟨_, rfl, _, rfl, _, rfl, _, _, rfl, rfl, _, rfl, _, _, rfl, rfl, wide_div hL hLb (by decide) (by decide), _, rfl, _, _, rfl, rfl, wide_mul (div_lt hL e1) hLb (by decide) (by decide) (by decide), _, _, rfl, rfl, k⟩⟩, fun _ _ z => z.elim⟩
    · subst e
      rw [plc_fast] at k
      refine ⟨fun σ' H' => σ' = [some (.ref a), some (.str "fast"), some (.int x), some (.int L), some (.str l.1), some (.int l.2.1), some (.int l.2.2)] ∧ H' = H, ⟨_, rfl, rfl, _, rfl, ?_⟩, ?_⟩
      · have e3 : decide (V.str "fast" = V.str "slow") = false := by decide +kernel
        rw [e3]
        exact iteF ⟨rfl, rfl⟩
      · rintro σ1 H1 ⟨rfl, rfl⟩
        exact ⟨_, rfl, _, rfl, _, rfl, _, _, rfl, rfl, _, rfl, _, _, rfl, rfl, wide_div hL hLb (by decide) (by decide), _, rfl, _, _, rfl, rfl, wide_mul (div_lt hL e2) hLb (by decide) (by decide) (by decide), _, _, rfl, rfl, k⟩
theorem ok_too_far (T : Tx K w mg Z) : FnOk P w K mg base CX0 2 Z.a_too_far Z.d_too_far P_too_far (spFar K tooFar) := by
  refine T.F_too_far.ok sctoo_far (fun vs H Q E h => ?_) (fun cdv A outer s H vs Q E hr h => ?_)
  · obtain ⟨v, u, a, b, L, rfl, _⟩ := h
    rfl
  · obtain ⟨v, u, a, b, L, rfl, hv, hu, wa, wb, hL, hLb, sa, sb, k⟩ := h
    obtain ⟨p, rfl, hp⟩ := dp_look hv
    obtain ⟨q, rfl, hq⟩ := dp_look hu
    obtain ⟨es, n, DW⟩ := T.kd_WORDS
    obtain ⟨da1, da2, _⟩ := decl_words wa
    obtain ⟨db1, db2, _⟩ := decl_words wb
    refine ⟨_, (C8.pss_cut (ps_if (PW.pt (pw_or (pt_cmpR (notInS (K := K)) (pe_ix (ixT (K := K)) (pv 0) pe_int (fun _ _ => rfl)) (pe_ix (ix_kd DW) (pe_glob (v := .ref Z.a_WORDS) rfl T.g_WORDS rfl) (pe_glob rfl T.g_SLOW T.r_SLOW) (fun _ _ => rfl)) (by rfl)) (pw_or1 (pt_cmpR (notInS (K := K)) (pe_ix (ixT (K := K)) (pv 1) pe_int (fun _ _ => rfl)) (pe_ix (ix_kd DW) (pe_glob (v := .ref Z.a_WORDS) rfl T.g_WORDS rfl) (pe_glob rfl T.g_FAST T.r_FAST) (fun _ _ => rfl)) (by rfl))))) (pss_one (ps_ret pe_bl)) pss_nil)
      (pss_one (ps_ret (pe_cmpR op_gt (pe_call (ok_place_by T) (hr.mono (by decide)) (by rfl) T.g_place_by T.F_place_by.kp T.bb_place_by .nil pass0 (pa_cons (pv 0) (pa_cons (pe_glob rfl T.g_SLOW T.r_SLOW) (pa_cons (pe_ix (ixT (K := K)) (pv 1) pe_int (fun _ _ => rfl)) (pa_cons (pv 2) pa_nil))))) (pe_ix (ixT (K := K)) (pv 1) pe_int (fun _ _ => rfl)) (nomark _))))), ?_⟩
    unfold tooFar at k
    refine ⟨fun σ' H' => σ' = [some (.ref p), some (.ref q), some (.int L)] ∧ H' = H ∧ onSide "slow" a.1 = true ∧ onSide "fast" b.1 = true, ?_, ?_⟩
    · refine ⟨_, rfl, _, _, _, _, rfl, rfl, hp, rfl, _, _, .ref Z.t_slow, rfl, rfl, T.w_slow, rfl, _, _, rfl, .inr (T.q_slow _), rfl, rfl, _, rfl, ?_⟩
      cases c1 : onSide "slow" a.1 with
      | false =>
        rw [c1] at da1 k
        have : (if true = true then !inV (V.str a.1) [V.str "at", V.str "from"] else inV (V.str a.1) [V.str "at", V.str "from"]) = true := by rw [if_pos rfl, da1]; rfl
        rw [this]
        exact iteT (iteT k)
      | true =>
        rw [c1] at da1
        have : (if true = true then !inV (V.str a.1) [V.str "at", V.str "from"] else inV (V.str a.1) [V.str "at", V.str "from"]) = false := by rw [if_pos rfl, da1]; rfl
        rw [this]
        refine iteF ⟨_, rfl, _, _, _, _, rfl, rfl, hq, rfl, _, _, .ref Z.t_fast, rfl, rfl, T.w_fast, rfl, _, _, rfl, .inr (T.q_fast _), rfl, rfl, _, rfl, ?_⟩
        cases c2 : onSide "fast" b.1 with
        | false =>
          rw [c2] at db2
          rw [c1, c2] at k
          have : (if true = true then !inV (V.str b.1) [V.str "at", V.str "upto"] else inV (V.str b.1) [V.str "at", V.str "upto"]) = true := by rw [if_pos rfl, db2]; rfl
          rw [this]
          exact iteT k
        | true =>
          rw [c2] at db2
          have : (if true = true then !inV (V.str b.1) [V.str "at", V.str "upto"] else inV (V.str b.1) [V.str "at", V.str "upto"]) = false := by rw [if_pos rfl, db2]; rfl
          rw [this]
          exact iteF ⟨rfl, rfl, rfl, rfl⟩
    · rintro σ1 H1 ⟨rfl, rfl, c1, c2⟩
      rw [c1, c2] at k
      refine ⟨_, rfl, _, rfl, _, _, _, _, rfl, rfl, hq, rfl, _, rfl, ?_⟩
      exact ⟨_, a, "slow", b.2.1, L, rfl, hv, .inl rfl, hL, hLb, sb.1, sa, _, rfl, _, _, _, _, rfl, rfl, hq, rfl, _, _, rfl, rfl, k⟩
theorem ok_clash (T : Tx K w mg Z) : FnOk P w K mg base CX0 3 Z.a_clash Z.d_clash P_clash (spFar K clashB) := by
  refine T.F_clash.ok scclash (fun vs H Q E h => ?_) (fun cdv A outer s H vs Q E hr h => ?_)
  · obtain ⟨v, u, a, b, L, rfl, _⟩ := h
    rfl
  · obtain ⟨v, u, a, b, L, rfl, hv, hu, wa, wb, hL, hLb, sa, sb, k⟩ := h
    refine ⟨_, (pss_one (ps_ret (pe_or (pe_call (ok_too_far T) (hr.mono (by decide)) (by rfl) T.g_too_far T.F_too_far.kp T.bb_too_far .nil pass0 (pa_cons (pv 0) (pa_cons (pv 1) (pa_cons (pv 2) pa_nil)))) (pe_one (pe_call (ok_too_far T) (hr.mono (by decide)) (by rfl) T.g_too_far T.F_too_far.kp T.bb_too_far .nil pass0 (pa_cons (pv 1) (pa_cons (pv 0) (pa_cons (pv 2) pa_nil)))))))), ?_⟩
    unfold clashB at k
    refine ⟨_, rfl, _, rfl, _, rfl, v, u, a, b, L, rfl, hv, hu, wa, wb, hL, hLb, sa, sb, _, rfl, ?_⟩
    cases c : tooFar a b L with
    | true => rw [c] at k; exact iteT k
    | false =>
      rw [c] at k
      exact iteF ⟨_, rfl, _, rfl, _, rfl, u, v, b, a, L, rfl, hu, hv, wb, wa, hL, hLb, sb, sa, k⟩
end
end KA
namespace KA
open PySem PySem.Spec PyProof.Rows L2 DP
def sideOf (sd : Str) (ls : List Lk) : List Lk := ls.filter fun l => onSide sd l.1
def spSide (K : PySem.W.Frag) : Sp := fun vs H Q _ => ∃ (v : V) (ls : List Lk) (sd : Str), vs = [v, .str sd] ∧ Dp K H v (.list (ls.map encL)) ∧ SideOk sd ∧ (∀ l ∈ ls, WordOk l.1) ∧ ls.length ≤ 1000 ∧
  ∀ H' p, H p = none → Same H H' → (∃ vs, H' p = some (.lst vs) ∧ DpAll K H' vs ((sideOf sd ls).map encL)) → Q (.ref p) H'
/-- a step: where, by which look -/
def encS (sd : Str) (x L : Int) (l : Lk) : PyData := .tuple [.int (plc sd l x L), encL l]
/-- the best step's place -/
def IsBest (sd : Str) (ls : List Lk) (x L m : Int) : Prop := (∃ l ∈ ls, plc sd l x L = m) ∧ ∀ l ∈ ls, if sd = "slow" then plc sd l x L ≤ m else m ≤ plc sd l x L
def spBest (K : PySem.W.Frag) : Sp := fun vs H Q _ => ∃ (v : V) (ls : List Lk) (sd : Str) (x L : Int), vs = [v, .str sd, .int x, .int L] ∧ Dp K H v (.list (ls.map encL)) ∧ SideOk sd ∧ (∀ l ∈ ls, WordOk l.1 ∧ Sized 400 l) ∧ ls.length ≤ 1000 ∧ 0 < L ∧ L.natAbs < 2 ^ 200 ∧ x.natAbs < 2 ^ 400 ∧
  (ls = [] → Q .non H) ∧ ∀ H' r l, l ∈ ls → Same H H' → IsBest sd ls x L (plc sd l x L) → Dp K H' r (encS sd x L l) → Q r H'
/-! ### the best step -/
theorem alike_step (sd : Str) (x L : Int) (a b : Lk) : PySem.W.alike (encS sd x L a) (encS sd x L b) = true := by simp [encS, encL, PySem.W.alike, PySem.W.alikeAll]
theorem steps_alike (sd : Str) (x L : Int) (ls : List Lk) : PySem.W.AlikeAll (ls.map (encS sd x L)) := by
  refine ⟨fun a ha b hb => ?_, fun a ha => ?_⟩
  · obtain ⟨p, _, rfl⟩ := List.mem_map.mp ha
    obtain ⟨q, _, rfl⟩ := List.mem_map.mp hb
    exact alike_step _ _ _ _ _
  · obtain ⟨p, _, rfl⟩ := List.mem_map.mp ha
    exact fun e => by cases e
theorem lay_look {l : Lk} (h : WordOk l.1) : (encL l).canLay0 = true := by
  obtain ⟨a, b, c⟩ := l
  have h : WordOk a := h
  rcases h with e | e | e <;> subst e <;> simp [encL, PyData.canLay0, PyData.canLayAll0] <;> decide +kernel
theorem steps_lay (sd : Str) (x L : Int) : ∀ ls : List Lk, (∀ l ∈ ls, WordOk l.1) → PyData.canLayAll0 (ls.map (encS sd x L)) = true
  | [], _ => rfl
  | l :: ls, h => by
    have h1 := lay_look (h l List.mem_cons_self)
    have h2 := steps_lay sd x L ls fun q hq => h q (List.mem_cons_of_mem _ hq)
    show PyData.canLayAll0 (encS sd x L l :: ls.map (encS sd x L)) = true
    simp [PyData.canLayAll0, h2, encS, PyData.canLay0, h1]
theorem steps_depth (sd : Str) (x L : Int) : ∀ ls : List Lk, PyData.depthAll (ls.map (encS sd x L)) ≤ 60
  | [] => by simp [PyData.depthAll]
  | l :: ls => by
    have h2 := steps_depth sd x L ls
    show PyData.depthAll (encS sd x L l :: ls.map (encS sd x L)) ≤ 60
    have h3 : (encS sd x L l).depth = 2 := by simp [encS, encL, PyData.depth, PyData.depthAll]
    rw [PyData.depthAll, h3]
    omega
/-- a greater place is a greater step -/
theorem lt_step {sd : Str} {x L : Int} {a b : Lk} (h : plc sd a x L < plc sd b x L) : PySem.W.dataLt (encS sd x L a) (encS sd x L b) = true := by
  unfold encS
  rw [PySem.W.dataLt_tuple, PySem.W.dataLt_cons (by simp [PySem.W.alike])]
  have e : PyData.eqv (.int (plc sd a x L)) (.int (plc sd b x L)) = false := by simp [PyData.eqv]; omega
  rw [e, if_neg Bool.false_ne_true, PySem.W.dataLt_int]
  exact decide_eq_true h
theorem le_step {sd : Str} {x L : Int} {a b : Lk} (h : PySem.W.dataLt (encS sd x L a) (encS sd x L b) = true) : plc sd a x L ≤ plc sd b x L := by
  unfold encS at h
  rw [PySem.W.dataLt_tuple, PySem.W.dataLt_cons (by simp [PySem.W.alike])] at h
  by_cases e : plc sd a x L = plc sd b x L
  · omega
  · have e' : PyData.eqv (.int (plc sd a x L)) (.int (plc sd b x L)) = false := by simp [PyData.eqv]; omega
    rw [e', if_neg Bool.false_ne_true, PySem.W.dataLt_int] at h
    have := of_decide_eq_true h
    omega
theorem max_go (x L : Int) : ∀ (ls : List Lk) (l : Lk), ∃ q, (q = l ∨ q ∈ ls) ∧ (ls.map (encS "slow" x L)).foldl (fun a y => if PySem.W.dataLt a y then y else a) (encS "slow" x L l) = encS "slow" x L q ∧ plc "slow" l x L ≤ plc "slow" q x L ∧ ∀ p ∈ ls, plc "slow" p x L ≤ plc "slow" q x L
  | [], l => ⟨l, .inl rfl, rfl, Int.le_refl _, fun _ h => by cases h⟩
  | y :: ls, l => by
    rw [List.map_cons, List.foldl_cons]
    cases c : PySem.W.dataLt (encS "slow" x L l) (encS "slow" x L y) with
    | true =>
      rw [if_pos rfl]
      obtain ⟨q, hq, e, h1, h2⟩ := max_go x L ls y
      have := le_step c
      refine ⟨q, ?_, e, by omega, fun p hp => ?_⟩
      · rcases hq with e | e
        · subst e; exact .inr List.mem_cons_self
        · exact .inr (List.mem_cons_of_mem _ e)
      · rcases List.mem_cons.mp hp with e | e
        · subst e; exact h1
        · exact h2 p e
    | false =>
      rw [if_neg Bool.false_ne_true]
      obtain ⟨q, hq, e, h1, h2⟩ := max_go x L ls l
      refine ⟨q, ?_, e, h1, fun p hp => ?_⟩
      · rcases hq with e | e
        · exact .inl e
        · exact .inr (List.mem_cons_of_mem _ e)
      · rcases List.mem_cons.mp hp with e | e
        · subst e
          by_cases hlt : plc "slow" l x L < plc "slow" p x L
          · rw [lt_step hlt] at c; cases c
          · omega
        · exact h2 p e
theorem max_step (x L : Int) (l : Lk) (ls : List Lk) : ∃ q, q ∈ l :: ls ∧ PySem.W.maxD (encS "slow" x L l) (ls.map (encS "slow" x L)) = encS "slow" x L q ∧ IsBest "slow" (l :: ls) x L (plc "slow" q x L) := by
  obtain ⟨q, hq, e, h1, h2⟩ := max_go x L ls l
  have hm : q ∈ l :: ls := by
    rcases hq with e | e
    · subst e; exact List.mem_cons_self
    · exact List.mem_cons_of_mem _ e
  refine ⟨q, hm, e, ⟨q, hm, rfl⟩, fun p hp => ?_⟩
  rw [if_pos rfl]
  rcases List.mem_cons.mp hp with e | e
  · subst e; exact h1
  · exact h2 p e
theorem min_go (x L : Int) : ∀ (ls : List Lk) (l : Lk), ∃ q, (q = l ∨ q ∈ ls) ∧ (ls.map (encS "fast" x L)).foldl (fun a y => if PySem.W.dataLt y a then y else a) (encS "fast" x L l) = encS "fast" x L q ∧ plc "fast" q x L ≤ plc "fast" l x L ∧ ∀ p ∈ ls, plc "fast" q x L ≤ plc "fast" p x L
  | [], l => ⟨l, .inl rfl, rfl, Int.le_refl _, fun _ h => by cases h⟩
  | y :: ls, l => by
    rw [List.map_cons, List.foldl_cons]
    cases c : PySem.W.dataLt (encS "fast" x L y) (encS "fast" x L l) with
    | true =>
      rw [if_pos rfl]
      obtain ⟨q, hq, e, h1, h2⟩ := min_go x L ls y
      have := le_step c
      refine ⟨q, ?_, e, by omega, fun p hp => ?_⟩
      · rcases hq with e | e
        · subst e; exact .inr List.mem_cons_self
        · exact .inr (List.mem_cons_of_mem _ e)
      · rcases List.mem_cons.mp hp with e | e
        · subst e; exact h1
        · exact h2 p e
    | false =>
      rw [if_neg Bool.false_ne_true]
      obtain ⟨q, hq, e, h1, h2⟩ := min_go x L ls l
      refine ⟨q, ?_, e, h1, fun p hp => ?_⟩
      · rcases hq with e | e
        · exact .inl e
        · exact .inr (List.mem_cons_of_mem _ e)
      · rcases List.mem_cons.mp hp with e | e
        · subst e
          by_cases hlt : plc "fast" p x L < plc "fast" l x L
          · rw [lt_step hlt] at c; cases c
          · omega
        · exact h2 p e
theorem min_step (x L : Int) (l : Lk) (ls : List Lk) : ∃ q, q ∈ l :: ls ∧ PySem.W.minD (encS "fast" x L l) (ls.map (encS "fast" x L)) = encS "fast" x L q ∧ IsBest "fast" (l :: ls) x L (plc "fast" q x L) := by
  obtain ⟨q, hq, e, h1, h2⟩ := min_go x L ls l
  have hm : q ∈ l :: ls := by
    rcases hq with e | e
    · subst e; exact List.mem_cons_self
    · exact List.mem_cons_of_mem _ e
  refine ⟨q, hm, e, ⟨q, hm, rfl⟩, fun p hp => ?_⟩
  rw [if_neg slow_ne]
  rcases List.mem_cons.mp hp with e | e
  · subst e; exact h1
  · exact h2 p e
section
variable {P : Program} {w : World} {K : PySem.W.Frag} {mg : Str → Option Value} {base : Heap} {Z : Ad}
theorem words_side {sd x : Str} (hs : SideOk sd) (hx : WordOk x) : inV (.str x) (if sd = "slow" then [.str "at", .str "from"] else [.str "at", .str "upto"]) = onSide sd x := by
  obtain ⟨h1, h2, _⟩ := decl_words hx
  rcases hs with e | e
  · subst e; rw [if_pos rfl]; exact h1
  · subst e; rw [if_neg slow_ne]; exact h2
end
end KA
namespace KA
open PySem PySem.Spec PyProof.Rows L2 DP
/-- a Dark's fields -/
def df (L : Int) (la : Addr) : List (Str × V) := [("_length", .int L), ("_looks", .ref la)]
theorem ne_ll : ¬ (("_looks" : Str) = "_length") := by decide +kernel
theorem ne_ll' : ¬ (("_length" : Str) = "_looks") := by decide +kernel
theorem df_length (L : Int) (la : Addr) : (df L la).lookup ("_length" : Str) = some (.int L) := by simp [df, List.lookup]
theorem df_looks (L : Int) (la : Addr) : (df L la).lookup ("_looks" : Str) = some (.ref la) := by
  have h : (("_looks" : Str) == ("_length" : Str)) = false := by decide +kernel
  simp [df, List.lookup, h]
theorem df_no (L : Int) (la : Addr) {m : Str} (h1 : (m == ("_length" : Str)) = false) (h2 : (m == ("_looks" : Str)) = false) : (df L la).lookup m = none := by simp [df, List.lookup, h1, h2]
theorem df_put1 (v : V) : putF "_length" v [] = [(("_length" : Str), v)] := rfl
theorem df_put2 (L : Int) (la : Addr) : putF "_looks" (.ref la) [("_length", .int L)] = df L la := by
  show (if ("_length" : Str) = "_looks" then _ else _) = _
  rw [if_neg ne_ll']; rfl
theorem df_put3 (L : Int) (la lb : Addr) : putF "_looks" (.ref lb) (df L la) = df L lb := by
  show (if ("_length" : Str) = "_looks" then _ else (("_length" : Str), V.int L) :: putF "_looks" (.ref lb) [("_looks", .ref la)]) = _
  rw [if_neg ne_ll']
  show (("_length" : Str), V.int L) :: (if ("_looks" : Str) = "_looks" then _ else _) = _
  rw [if_pos rfl]; rfl
/-- what is free there was free before -/
structure FreeIn (H H' : Hp) : Prop where
  free : ∀ {b : Addr}, H' b = none → H b = none
structure DarkAt (Z : Ad) (K : PySem.W.Frag) (H : Hp) (d : Addr) (L : Int) (ls : List Lk) : Prop where
  ex : ∃ dx la vs, H d = some (.ins Z.C dx (df L la)) ∧ H la = some (.lst vs) ∧ DpAll K H vs (ls.map encL)
  pos : 0 < L
  big : L.natAbs < 2 ^ 200
  ok : ∀ l ∈ ls, WordOk l.1 ∧ Sized 302 l
  len : ls.length ≤ 60
theorem DarkAt.same {Z : Ad} {K : PySem.W.Frag} {H H' : Hp} {d : Addr} {L : Int} {ls : List Lk} (D : DarkAt Z K H d L ls) (S : Same H H') : DarkAt Z K H' d L ls := by
  obtain ⟨dx, la, vs, h1, h2, h3⟩ := D.ex
  exact ⟨⟨dx, la, vs, S _ _ h1, S _ _ h2, dpAll_mono S _ _ h3⟩, D.pos, D.big, D.ok, D.len⟩
theorem Sized.up {m n : Nat} {l : Lk} (h : Sized m l) (hm : m ≤ n) : Sized n l := ⟨lt_up h.1 hm, lt_up h.2 hm⟩
theorem df_inj {C C' dx dx' : Addr} {L L' : Int} {la la' : Addr} (h : some (HO.ins C dx (df L la)) = some (HO.ins C' dx' (df L' la'))) : la = la' := by
  have h1 : df L la = df L' la' := by injection h with h; injection h
  simp [df] at h1
  exact h1.2
def spInit (Z : Ad) (K : PySem.W.Frag) : Sp := fun vs H Q _ => ∃ (d dx : Addr) (L : Int), vs = [.ref d, .int L] ∧ H d = some (.ins Z.C dx []) ∧ 0 < L ∧ L.natAbs < 2 ^ 200 ∧ ∀ H' : Hp, DarkAt Z K H' d L [] → (∀ la dx, H' d = some (.ins Z.C dx (df L la)) → H la = none) → (∀ b o, H b = some o → b ≠ d → H' b = some o) → Q .non H'
def spLooks (Z : Ad) (K : PySem.W.Frag) : Sp := fun vs H Q _ => ∃ (d : Addr) (L : Int) (ls : List Lk), vs = [.ref d] ∧ DarkAt Z K H d L ls ∧ ∀ (p : Addr) (xs : List V) (H' : Hp), H p = none → Same H H' → H' p = some (.lst xs) → DpAll K H' xs (ls.map encL) → Q (.ref p) H'
def spWord : Sp := fun vs H Q _ => ∃ (d : V) (x : Str), vs = [d, .str x] ∧ WordOk x ∧ Q .non H
def spHome (Z : Ad) (K : PySem.W.Frag) : Sp := fun vs H Q _ => ∃ (d : Addr) (L : Int) (ls : List Lk) (l : Lk), vs = [.ref d, .str l.1, .int l.2.1, .int l.2.2] ∧ DarkAt Z K H d L ls ∧ WordOk l.1 ∧ Sized 300 l ∧ ∀ H' r, Same H H' → Dp K H' r (encL (home L l)) → Q r H'
def spClashing (Z : Ad) (K : PySem.W.Frag) : Sp := fun vs H Q _ => ∃ (d : Addr) (v : V) (L : Int) (ls : List Lk) (l : Lk), vs = [.ref d, v] ∧ DarkAt Z K H d L ls ∧ Dp K H v (encL l) ∧ WordOk l.1 ∧ Sized 302 l ∧
  (ls.find? (fun o => clashB l o L) = none → Q .non H) ∧ ∀ o r, ls.find? (fun o => clashB l o L) = some o → Dp K H r (encL o) → Q r H
/-- what is heard -/
def heard (L : Int) (ls : List Lk) (l : Lk) : List Lk := if home L l ∈ ls then ls else (ls ++ [home L l]).mergeSort (PySem.W.dataLe false encL)
def spHear (Z : Ad) (K : PySem.W.Frag) : Sp := fun vs H Q _ => ∃ (d : Addr) (L : Int) (ls : List Lk) (l : Lk), vs = [.ref d, .str l.1, .int l.2.1, .int l.2.2] ∧ DarkAt Z K H d L ls ∧ WordOk l.1 ∧ Sized 300 l ∧ ls.length < 60 ∧ (∀ o ∈ ls, clashB (home L l) o L = false) ∧
  ∀ H', DarkAt Z K H' d L (heard L ls l) → (∀ la dx, H' d = some (.ins Z.C dx (df L la)) → (∃ dx', H d = some (.ins Z.C dx' (df L la))) ∨ H la = none) → (∀ b o, H b = some o → b ≠ d → H' b = some o) → Q .non H'
def spBound (Z : Ad) (K : PySem.W.Frag) : Sp := fun vs H Q _ => ∃ (d : Addr) (L : Int) (ls : List Lk) (sd : Str) (x : Int), vs = [.ref d, .str sd, .int x] ∧ DarkAt Z K H d L ls ∧ SideOk sd ∧ x.natAbs < 2 ^ 400 ∧
  (sideOf sd ls = [] → ∀ H', Same H H' → Q .non H') ∧ ∀ m H', Same H H' → IsBest sd (sideOf sd ls) x L m → Q (.int m) H'
/-- what a side tells of x: None, or the best place -/
def Tells (sd : Str) (ls : List Lk) (x L : Int) (v : V) : Prop := (sideOf sd ls = [] ∧ v = .non) ∨ ∃ m, v = .int m ∧ IsBest sd (sideOf sd ls) x L m
def spSideOf (Z : Ad) (K : PySem.W.Frag) (sd : Str) : Sp := fun vs H Q _ => ∃ (d : Addr) (L : Int) (ls : List Lk) (x : Int), vs = [.ref d, .int x] ∧ DarkAt Z K H d L ls ∧ x.natAbs < 2 ^ 400 ∧
  ∀ v H', Same H H' → Tells sd ls x L v → Q v H'
theorem same_put {H : Hp} {d C dx : Addr} {fs fs' : List (Str × V)} (h : H d = some (.ins C dx fs)) : FreeIn H (upd H d (.ins C dx fs')) := ⟨fun {b} hb => by
  by_cases e : b = d
  · subst e; rw [upd_same] at hb; cases hb
  · rw [upd_ne e] at hb; exact hb⟩
theorem emod_small {x L : Int} (h : 0 < L) (hb : L.natAbs < 2 ^ 200) : (x - x / L * L).natAbs < 2 ^ 200 := by
  have e : x - x / L * L = x % L := by
    have := Int.mul_ediv_add_emod x L
    rw [Int.mul_comm (x / L) L]; omega
  rw [e]
  have h1 := Int.emod_nonneg x (show L ≠ 0 by omega)
  have h2 := Int.emod_lt_of_pos x h
  have h3 : (x % L).natAbs ≤ L.natAbs := by clear hb; omega
  exact Nat.lt_of_le_of_lt h3 hb
theorem home_sized {L : Int} {l : Lk} (h : 0 < L) (hb : L.natAbs < 2 ^ 200) (hl : Sized 300 l) : Sized 302 (home L l) := by
  have h0 := emod_small (x := l.2.1) h hb
  refine ⟨lt_up h0 (by decide), ?_⟩
  show (l.2.2 - l.2.1 / L * L).natAbs < 2 ^ 302
  have e : l.2.2 - l.2.1 / L * L = l.2.2 + ((l.2.1 - l.2.1 / L * L) - l.2.1) := by omega
  rw [e]
  have h1 : ((l.2.1 - l.2.1 / L * L) - l.2.1).natAbs < 2 ^ 301 := sub_lt (lt_up h0 (by decide)) hl.1
  exact add_lt (lt_up hl.2 (by decide)) h1
section
variable {P : Program} {w : World} {K : PySem.W.Frag} {mg : Str → Option Value} {base : Heap} {Z : Ad}
theorem ok_Dark_init (T : Tx K w mg Z) : FnOk P w K mg base CX0 1 Z.a_Dark_init Z.d_Dark_init P_Dark_init (spInit Z K) := by
  refine T.F_Dark_init.ok scDark_init (fun vs H Q E h => ?_) (fun cdv A outer s H vs Q E hr h => ?_)
  · obtain ⟨d, dx, L, rfl, _⟩ := h
    rfl
  · obtain ⟨d, dx, L, rfl, hd, hL, hLb, k⟩ := h
    refine ⟨_, (C8.pss_cut (ps_if (pt_cmpR op_lt (pv 1) pe_int (nomark _)) (pss_one ps_never) pss_nil)
      (pss_cons (ps_fld (pv 0) (pv 1) rfl)
      (pss_one (ps_fld (pv 0) (pe_lst pa_nil) rfl)))), ?_⟩
    refine ⟨fun σ' H' => σ' = [some (.ref d), some (.int L)] ∧ H' = H, ?_, ?_⟩
    · refine ⟨_, rfl, _, _, rfl, rfl, _, rfl, ?_⟩
      exact ite2 (fun c => (by have c' := of_decide_eq_true c; omega : False)) (fun _ => ⟨rfl, rfl⟩)
    · rintro σ1 H1 ⟨rfl, rfl⟩
      refine ⟨_, rfl, _, rfl, d, Z.C, dx, [], rfl, hd, T.cl, T.n_length, (by show 0 < 1000; decide), ?_⟩
      refine ⟨(by show 0 ≤ sizeLine; decide), fun p hp => ?_⟩
      have h1 : (upd H1 d (.ins Z.C dx (putF "_length" (.int L) []))) d = some (.ins Z.C dx [("_length", .int L)]) := upd_same
      have hdp : d ≠ p := ne_of_none h1 hp
      refine ⟨_, rfl, d, Z.C, dx, [("_length", .int L)], rfl, (upd_ne hdp).trans h1, T.cl, T.n_looks, (by show 1 < 1000; decide), ?_⟩
      refine k _ ⟨⟨dx, p, [], Eq.trans upd_same (congrArg (fun q => some (HO.ins Z.C dx q)) (df_put2 L p)), (upd_ne (Ne.symm hdp)).trans upd_same, .nil⟩, hL, hLb, (fun _ z => absurd z (by simp)), Nat.zero_le _⟩ (fun la' dx' e => ?_) fun b o e hb => ?_
      · rw [upd_same, df_put2] at e
        rw [← df_inj e]
        exact (same_put hd).free hp
      have e1 : (upd H1 d (.ins Z.C dx (putF "_length" (.int L) []))) b = some o := (upd_ne hb).trans e
      exact (upd_ne hb).trans ((upd_ne (ne_of_none e1 hp)).trans e1)
theorem ok_Dark_looks (T : Tx K w mg Z) : FnOk P w K mg base CX0 1 Z.a_Dark_looks Z.d_Dark_looks P_Dark_looks (spLooks Z K) := by
  refine T.F_Dark_looks.ok scDark_looks (fun vs H Q E h => ?_) (fun cdv A outer s H vs Q E hr h => ?_)
  · obtain ⟨d, L, ls, rfl, _⟩ := h
    rfl
  · obtain ⟨d, L, ls, rfl, D, k⟩ := h
    obtain ⟨dx, la, xs, h1, h2, h3⟩ := D.ex
    refine ⟨_, (pss_one (ps_ret (pe_callTy (listK (K := K)) (by rfl) T.b_list (by decide +kernel) (pa_cons (fldK (K := K) (pv 0) rfl) pa_nil)))), ?_⟩
    refine ⟨_, rfl, d, Z.C, dx, _, _, rfl, h1, T.cl, T.n_looks, df_looks _ _, la, xs, rfl, .inl (SqL.of h2), fun p hp => ?_⟩
    exact k p xs _ hp (same_upd hp) upd_same (dpAll_mono (same_upd hp) _ _ h3)
theorem ok_Darkcheck_word (T : Tx K w mg Z) : FnOk P w K mg base CX0 1 Z.a_Darkcheck_word Z.d_Darkcheck_word P_Darkcheck_word (spWord) := by
  refine T.F_Darkcheck_word.ok scDarkcheck_word (fun vs H Q E h => ?_) (fun cdv A outer s H vs Q E hr h => ?_)
  · obtain ⟨d, x, rfl, _⟩ := h
    rfl
  · obtain ⟨d, x, rfl, hx, k⟩ := h
    refine ⟨_, (pss_one (ps_if (pt_cmpR (notInS (K := K)) (pv 1) (pe_glob (v := .ref Z.a_LW) rfl T.g_LOOK_WORDS rfl) (by rfl)) (pss_one ps_never) pss_nil)), ?_⟩
    obtain ⟨_, _, e⟩ := decl_words hx
    refine ⟨_, rfl, _, _, rfl, .inr (T.q_LW _), rfl, rfl, _, rfl, ?_⟩
    have e2 : (if true = true then !inV (V.str x) [V.str "at", V.str "from", V.str "upto"] else inV (V.str x) [V.str "at", V.str "from", V.str "upto"]) = false := by rw [if_pos rfl, e]; rfl
    rw [e2]
    exact iteF k
theorem ok_Darkhome (T : Tx K w mg Z) : FnOk P w K mg base CX0 2 Z.a_Darkhome Z.d_Darkhome P_Darkhome (spHome Z K) := by
  refine T.F_Darkhome.ok scDarkhome (fun vs H Q E h => ?_) (fun cdv A outer s H vs Q E hr h => ?_)
  · obtain ⟨d, L, ls, l, rfl, _⟩ := h
    rfl
  · obtain ⟨d, L, ls, l, rfl, D, hw, hl, k⟩ := h
    obtain ⟨dx, la, xs, h1, h2, h3⟩ := D.ex
    refine ⟨_, (pss_cons (ps_expr (pe_meth (pv 0) T.cl T.m_Darkcheck_word (ok_Darkcheck_word T) (hr.mono (by decide)) T.bb_Darkcheck_word .nil pass0 (pa_cons (pv 1) pa_nil)))
      (pss_cons (ps_set (i := 4) scDarkhome.nd rfl (Or.inl rfl) (pe_op op_fdivW (pv 2) (fldK (K := K) (pv 0) rfl)))
      (pss_one (ps_ret (pe_tup (pa_cons (pv 1) (pa_cons (pe_op op_sub (pv 2) (pe_op op_mulW (pv 4) (fldK (K := K) (pv 0) rfl))) (pa_cons (pe_op op_sub (pv 3) (pe_op op_mulW (pv 4) (fldK (K := K) (pv 0) rfl))) pa_nil)))))))), ?_⟩
    refine ⟨_, rfl, d, dx, _, rfl, h1, df_no _ _ (by decide +kernel) (by decide +kernel), _, rfl, _, _, rfl, hw, ?_⟩
    refine ⟨_, rfl, _, rfl, d, Z.C, dx, _, _, rfl, h1, T.cl, T.n_length, df_length _ _, _, _, rfl, rfl, wide_div D.pos D.big (by decide) (by decide), ?_⟩
    have b1 : (l.2.1 / L).natAbs < 2 ^ 301 := div_lt D.pos hl.1
    refine ⟨_, rfl, _, rfl, _, rfl, _, rfl, d, Z.C, dx, _, _, rfl, h1, T.cl, T.n_length, df_length _ _, _, _, rfl, rfl, wide_mul b1 D.big (by decide) (by decide) (by decide), _, _, rfl, rfl, ?_⟩
    refine ⟨_, rfl, _, rfl, _, rfl, d, Z.C, dx, _, _, rfl, h1, T.cl, T.n_length, df_length _ _, _, _, rfl, rfl, wide_mul b1 D.big (by decide) (by decide) (by decide), _, _, rfl, rfl, (by show 3 ≤ sizeLine; decide), fun p hp => ?_⟩
    exact k _ _ (same_upd hp) (.tup (SqT.of upd_same) (.cons (.str _) (.cons (.int _) (.cons (.int _) .nil))))
theorem ok_Darkclashing (T : Tx K w mg Z) : FnOk P w K mg base CX0 4 Z.a_Darkclashing Z.d_Darkclashing P_Darkclashing (spClashing Z K) := by
  refine T.F_Darkclashing.ok scDarkclashing (fun vs H Q E h => ?_) (fun cdv A outer s H vs Q E hr h => ?_)
  · obtain ⟨d, v, L, ls, l, rfl, _⟩ := h
    rfl
  · obtain ⟨d, v, L, ls, l, rfl, D, hv, hw, hl, k0, k⟩ := h
    obtain ⟨dx, la, xs, h1, h2, h3⟩ := D.ex
    have hxl : xs.length = ls.length := by rw [dpAll_len h3, List.length_map]
    refine ⟨_, (pss_cons (ps_for PassesOwn.never rfl (pi_list (fldK (K := K) (pv 0) rfl)) (pg_name (i := 2) scDarkclashing.nd rfl (Or.inl rfl)) (pss_one (ps_if (pt_val (pe_call (ok_clash T) (hr.mono (by decide)) (by rfl) T.g_clash T.F_clash.kp T.bb_clash .nil pass0 (pa_cons (pv 1) (pa_cons (pv 2) (pa_cons (fldK (K := K) (pv 0) rfl) pa_nil))))) (pss_one (ps_ret (pv 2))) pss_nil)))
      (pss_one (ps_ret pe_non))), ?_⟩
    refine ⟨_, rfl, d, Z.C, dx, _, _, rfl, h1, T.cl, T.n_looks, df_looks _ _, la, rfl, ⟨_, SqL.of h2⟩, ?_⟩
    refine for_list (K := K) (a := la) (xs := xs) (fun i σ' H' => ∃ u, σ' = [some (.ref d), some v, u] ∧ H' = H ∧ (ls.take i).find? (fun o => clashB l o L) = none) ⟨none, rfl, rfl, rfl⟩ (fun i σ' H' _ ⟨_, _, e, _⟩ => by rw [e]; exact SqL.of h2) ?_ ?_
    · rintro i y σ' H' hi ⟨u, rfl, rfl, hno⟩
      obtain ⟨e, hdi, hdy⟩ := dpAll_get h3 hi
      obtain ⟨o, ho, rfl⟩ := map_at hdi
      have hok := D.ok o (List.mem_of_getElem? ho)
      refine ⟨_, rfl, _, rfl, _, rfl, d, Z.C, dx, _, _, rfl, h1, T.cl, T.n_length, df_length _ _, v, y, l, o, L, rfl, hv, hdy, hw, hok.1, D.pos, D.big, hl.up (by decide), hok.2.up (by decide), _, rfl, ?_⟩
      have hsp : ls = ls.take i ++ o :: ls.drop (i + 1) := by
        have h4 := List.getElem?_eq_some_iff.mp ho
        obtain ⟨h5, h6⟩ := h4
        rw [← h6, List.getElem_cons_drop, List.take_append_drop]
      cases c : clashB l o L with
      | true =>
        refine iteT ⟨_, rfl, k o y ?_ hdy⟩
        rw [hsp, List.find?_append, hno, List.find?_cons, c]
        rfl
      | false =>
        refine iteF ⟨_, rfl, rfl, ?_⟩
        rw [take_snoc ho, List.find?_append, hno, List.find?_cons, c]
        rfl
    · rintro σ' H' ⟨u, rfl, rfl, hno⟩
      rw [List.take_of_length_le (by rw [hxl]; exact Nat.le_refl _)] at hno
      exact k0 hno
theorem alike_looks (ls : List Lk) : PySem.W.AllAlike (ls.map encL) := PySem.W.AllAlike.of fun _ _ => by simp [encL, PySem.W.alike, PySem.W.alikeAll]
theorem depth_look (l : Lk) : (encL l).depth = 1 := by simp [encL, PyData.depth, PyData.depthAll]
theorem shaped_look {l : Lk} (h : WordOk l.1) : SeqAt.shaped (encL l) = true := by
  unfold SeqAt.shaped
  rw [lay_look h, depth_look]; rfl
theorem lay_looks : ∀ ls : List Lk, (∀ l ∈ ls, WordOk l.1) → PyData.canLayAll0 (ls.map encL) = true
  | [], _ => rfl
  | l :: ls, h => by
    show PyData.canLayAll0 (encL l :: ls.map encL) = true
    rw [PyData.canLayAll0, lay_look (h l List.mem_cons_self), lay_looks ls fun q hq => h q (List.mem_cons_of_mem _ hq)]; rfl
theorem depth_looks : ∀ ls : List Lk, PyData.depthAll (ls.map encL) ≤ 1
  | [] => by simp [PyData.depthAll]
  | l :: ls => by
    show PyData.depthAll (encL l :: ls.map encL) ≤ 1
    rw [PyData.depthAll, depth_look]
    have := depth_looks ls
    omega
theorem shaped_looks {ls : List Lk} (h : ∀ l ∈ ls, WordOk l.1) : SeqAt.shaped (.list (ls.map encL)) = true := by
  unfold SeqAt.shaped
  rw [PyData.canLay0, lay_looks ls h, PyData.depth]
  have := depth_looks ls
  simp; omega
theorem eqv_look (a b : Lk) : PyData.eqv (encL a) (encL b) = decide (a = b) := by
  obtain ⟨a1, a2, a3⟩ := a
  obtain ⟨b1, b2, b3⟩ := b
  simp [encL, PyData.eqv, PyData.eqvAll]
  by_cases h1 : a1 = b1 <;> by_cases h2 : a2 = b2 <;> by_cases h3 : a3 = b3 <;> simp [h1, h2, h3]
theorem any_look (ls : List Lk) (l : Lk) : ((ls.map encL).any fun z => PyData.eqv z (encL l)) = decide (l ∈ ls) := by
  rw [List.any_map]
  rw [Bool.eq_iff_iff, List.any_eq_true, decide_eq_true_eq]
  constructor
  · rintro ⟨o, ho, e⟩
    have e' : decide (o = l) = true := by rw [← eqv_look]; exact e
    rw [← of_decide_eq_true e']; exact ho
  · intro h
    exact ⟨l, h, by show PyData.eqv (encL l) (encL l) = true; rw [eqv_look]; simp⟩
theorem heard_mem {L : Int} {ls : List Lk} {l o : Lk} : o ∈ heard L ls l ↔ o ∈ ls ∨ o = home L l := by
  unfold heard
  by_cases c : home L l ∈ ls
  · rw [if_pos c]
    exact ⟨.inl, fun h => h.elim id fun e => e ▸ c⟩
  · rw [if_neg c, (List.mergeSort_perm _ _).mem_iff, List.mem_append, List.mem_singleton]
theorem heard_len (L : Int) (ls : List Lk) (l : Lk) : (heard L ls l).length ≤ ls.length + 1 := by
  unfold heard
  split
  · omega
  · rw [(List.mergeSort_perm _ _).length_eq, List.length_append]; simp
theorem ok_Dark_hear (T : Tx K w mg Z) : FnOk P w K mg base CX0 5 Z.a_Dark_hear Z.d_Dark_hear P_Dark_hear (spHear Z K) := by
  refine T.F_Dark_hear.ok scDark_hear (fun vs H Q E h => ?_) (fun cdv A outer s H vs Q E hr h => ?_)
  · obtain ⟨d, L, ls, l, rfl, _⟩ := h
    rfl
  · obtain ⟨d, L, ls, l, rfl, D, hw, hl, hlen, hno, k⟩ := h
    obtain ⟨dx, la, xs, h1, h2, h3⟩ := D.ex
    have hfind : ls.find? (fun o => clashB (home L l) o L) = none := List.find?_eq_none.mpr fun o ho => by rw [hno o ho]; exact Bool.false_ne_true
    have hsz := home_sized D.pos D.big hl
    refine ⟨_, (pss_cons (ps_set (i := 4) scDark_hear.nd rfl (Or.inl rfl) (pe_meth (pv 0) T.cl T.m_Darkhome (ok_Darkhome T) (hr.mono (by decide)) T.bb_Darkhome .nil pass0 (pa_cons (pv 1) (pa_cons (pv 2) (pa_cons (pv 3) pa_nil)))))
      (pss_cons (ps_set (i := 5) scDark_hear.nd rfl (Or.inl rfl) (pe_meth (pv 0) T.cl T.m_Darkclashing (ok_Darkclashing T) (hr.mono (by decide)) T.bb_Darkclashing .nil pass0 (pa_cons (pv 4) pa_nil)))
      (C8.pss_cut (ps_if (pt_cmpR op_notN (pv 5) pe_non (nomark _)) (pss_one ps_never) pss_nil)
      (pss_one (ps_if (pt_cmpR (notInDK (K := K) (rooms hr)) (pv 4) (fldK (K := K) (pv 0) rfl) (by rfl)) (pss_one (ps_fld (pv 0) (pe_callB (sortDK (K := K) encL (rooms hr)) (by rfl) T.b_sorted (by decide +kernel) (pa_cons (pe_op op_cat (fldK (K := K) (pv 0) rfl) (pe_lst (pa_cons (pv 4) pa_nil))) pa_nil)) rfl)) pss_nil))))), ?_⟩
    refine ⟨_, rfl, d, dx, _, rfl, h1, df_no _ _ (by decide +kernel) (by decide +kernel), _, rfl, _, rfl, _, rfl, d, L, ls, l, rfl, D, hw, hl, fun H1 r S hr => ?_⟩
    have D1 := D.same S
    refine ⟨_, rfl, d, dx, _, rfl, S _ _ h1, df_no _ _ (by decide +kernel) (by decide +kernel), _, rfl, d, r, L, ls, home L l, rfl, D1, hr, hw, hsz, fun _ => ?_, fun o r ho => ?_⟩
    · refine ⟨fun σ' H' => σ' = [some (.ref d), some (.str l.1), some (.int l.2.1), some (.int l.2.2), some r, some .non] ∧ H' = H1, ?_, ?_⟩
      · exact ⟨_, rfl, rfl, _, rfl, iteF ⟨rfl, rfl⟩⟩
      · rintro σ2 H2 ⟨rfl, rfl⟩
        have hwords : ∀ o ∈ ls, WordOk o.1 := fun o ho => (D.ok o ho).1
        have hds := dpAll_mono S _ _ h3
        refine ⟨_, rfl, _, rfl, d, Z.C, dx, _, _, rfl, S _ _ h1, T.cl, T.n_looks, df_looks _ _, encL (home L l), ls.map encL, hr, .lst (SqL.of (S _ _ h2)) hds, shaped_look hw, shaped_looks hwords, _, rfl, ?_⟩
        rw [any_look]
        have fin : ∀ H', DarkAt Z K H' d L (heard L ls l) → (∀ la dx, H' d = some (.ins Z.C dx (df L la)) → (∃ dx', H d = some (.ins Z.C dx' (df L la))) ∨ H la = none) → (∀ b o, H2 b = some o → b ≠ d → H' b = some o) → Q .non H' := fun H' DD ff kk => k H' DD ff fun b o e hb => kk b o (S b o e) hb
        have okH : ∀ o ∈ heard L ls l, WordOk o.1 ∧ Sized 302 o := fun o ho => by
          rcases heard_mem.mp ho with h | h
          · exact D.ok o h
          · subst h; exact ⟨hw, hsz⟩
        have lenH : (heard L ls l).length ≤ 60 := Nat.le_trans (heard_len L ls l) hlen
        by_cases c : home L l ∈ ls
        · have e : (!decide (home L l ∈ ls)) = false := by simp [c]
          rw [e]
          refine iteF (fin H2 ?_ (fun la' dx' e => ?_) fun _ _ e _ => e)
          · have eh : heard L ls l = ls := if_pos c
            rw [eh]; exact D1
          · have e2 := e.symm.trans (S _ _ h1)
            rw [df_inj e2]
            exact .inl ⟨dx, h1⟩
        · have e : (!decide (home L l ∈ ls)) = true := by simp [c]
          rw [e]
          refine iteT ⟨_, rfl, d, Z.C, dx, _, _, rfl, S _ _ h1, T.cl, T.n_looks, df_looks _ _, _, rfl, (by show 1 ≤ sizeLine; decide), fun p hp => ?_⟩
          have S2 := same_upd (o := HO.lst [r]) hp
          have h2' := S2 _ _ (S _ _ h2)
          refine ⟨la, p, xs, [r], rfl, rfl, h2', upd_same, ?_, fun p2 hp2 => ?_⟩
          · have : xs.length = ls.length := by rw [dpAll_len h3, List.length_map]
            exact Nat.le_of_lt (small1000 (by simp; omega))
          have S3 := S2.trans (same_upd (o := HO.lst (xs ++ [r])) hp2)
          have hall : DpAll K (upd (upd H2 p (.lst [r])) p2 (.lst (xs ++ [r]))) (xs ++ [r]) ((ls ++ [home L l]).map encL) := by
            rw [List.map_append]
            exact dpAll_snoc (dpAll_mono S3 _ _ hds) (dp_mono S3 _ _ hr)
          refine ⟨p2, xs ++ [r], ls ++ [home L l], rfl, SqL.of upd_same, hall, alike_looks _, PySem.W.Sortable.tuples fun _ => ⟨_, _, rfl⟩, fun b _ => by rw [depth_look]; decide, fun p3 ys H3 hp3 S4 hy hys => ?_⟩
          have S5 := S3.trans S4
          have h1' := S5 _ _ (S _ _ h1)
          have hd3 : d ≠ p3 := fun e => by
            subst e
            rw [(S3 _ _ (S _ _ h1))] at hp3
            cases hp3
          refine ⟨_, rfl, d, Z.C, dx, df L la, rfl, h1', T.cl, T.n_looks, (by show 2 < 1000; decide), ?_⟩
          refine fin _ ⟨⟨dx, p3, ys, Eq.trans upd_same (congrArg (fun q => some (HO.ins Z.C dx q)) (df_put3 L la p3)), (upd_ne (Ne.symm hd3)).trans hy, ?_⟩, D.pos, D.big, okH, lenH⟩ (fun la' dx' e => ?_) fun b o e hb => (upd_ne hb).trans (S5 _ _ e)
          rotate_left
          · rw [upd_same, df_put3] at e
            rw [← df_inj e]
            exact .inr (S.free (S3.free hp3))
          have eh : heard L ls l = (ls ++ [home L l]).mergeSort (PySem.W.dataLe false encL) := if_neg c
          rw [eh]
          exact dpAll_tups (Tups.upd_ins h1') _ _ (noLs_map noL_encL _) hys
    · rw [hfind] at ho; cases ho
end
end KA
namespace KA
open PySem PySem.Spec PyProof.Rows L2 DP
/-! What the looks of a side tell, in plain Lean (laws that do without the tray's Law6). -/
theorem side_low {x : Str} (h : onSide "slow" x = true) : x = "at" ∨ x = "from" := by
  unfold onSide at h
  rw [if_pos rfl, Bool.or_eq_true, decide_eq_true_eq, decide_eq_true_eq] at h
  exact h
theorem side_high {x : Str} (h : onSide "fast" x = true) : x = "at" ∨ x = "upto" := by
  unfold onSide at h
  rw [if_neg slow_ne, Bool.or_eq_true, decide_eq_true_eq, decide_eq_true_eq] at h
  exact h
theorem plc_home {L : Int} (hL : 0 < L) (sd : Str) (l : Lk) (x : Int) : plc sd (home L l) x L = plc sd l x L := by
  unfold plc home
  split
  · show l.2.2 - l.2.1 / L * L + (x - (l.2.1 - l.2.1 / L * L)) / L * L = l.2.2 + (x - l.2.1) / L * L
    have e : x - (l.2.1 - l.2.1 / L * L) = (x - l.2.1) + l.2.1 / L * L := by omega
    rw [e, Int.add_mul_ediv_right _ _ (by omega), Int.add_mul]; omega
  · show l.2.2 - l.2.1 / L * L - (l.2.1 - l.2.1 / L * L - x) / L * L = l.2.2 - (l.2.1 - x) / L * L
    have e : l.2.1 - l.2.1 / L * L - x = (l.2.1 - x) + (-(l.2.1 / L)) * L := by rw [Int.neg_mul]; omega
    rw [e, Int.add_mul_ediv_right _ _ (by omega), Int.add_mul, Int.neg_mul]; omega
theorem fold_mem {L : Int} : ∀ (ls acc : List Lk) (o : Lk), o ∈ ls.foldl (heard L) acc ↔ o ∈ acc ∨ ∃ l ∈ ls, o = home L l
  | [], acc, o => by simp
  | l :: ls, acc, o => by
    rw [List.foldl_cons, fold_mem ls, heard_mem]
    constructor
    · rintro ((h | h) | ⟨q, hq, e⟩)
      · exact .inl h
      · exact .inr ⟨l, List.mem_cons_self, h⟩
      · exact .inr ⟨q, List.mem_cons_of_mem _ hq, e⟩
    · rintro (h | ⟨q, hq, e⟩)
      · exact .inl (.inl h)
      · rcases List.mem_cons.mp hq with h | h
        · subst h; exact .inl (.inr e)
        · exact .inr ⟨q, h, e⟩
theorem fold_len {L : Int} : ∀ (ls acc : List Lk), (ls.foldl (heard L) acc).length ≤ acc.length + ls.length
  | [], acc => by simp
  | l :: ls, acc => by
    have h1 := fold_len (L := L) ls (heard L acc l)
    have h2 := heard_len L acc l
    rw [List.foldl_cons, List.length_cons]; omega
theorem mem_side {sd : Str} {ls : List Lk} {l : Lk} : l ∈ sideOf sd ls ↔ l ∈ ls ∧ onSide sd l.1 = true := by
  unfold sideOf; rw [List.mem_filter]
/-- the best of the looks is the best of them brought home -/
theorem best_home {L : Int} (hL : 0 < L) {sd : Str} {ls hs : List Lk} {x m : Int} (hh : ∀ o, o ∈ hs ↔ ∃ l ∈ ls, o = home L l) (h : IsBest sd (sideOf sd hs) x L m) : IsBest sd (sideOf sd ls) x L m := by
  obtain ⟨⟨o, ho, e⟩, h2⟩ := h
  obtain ⟨ho1, ho2⟩ := mem_side.mp ho
  obtain ⟨l, hl, rfl⟩ := (hh o).mp ho1
  rw [plc_home hL] at e
  refine ⟨⟨l, mem_side.mpr ⟨hl, ho2⟩, e⟩, fun q hq => ?_⟩
  obtain ⟨hq1, hq2⟩ := mem_side.mp hq
  have := h2 (home L q) (mem_side.mpr ⟨(hh _).mpr ⟨q, hq1, rfl⟩, hq2⟩)
  rw [plc_home hL] at this
  exact this
theorem best_one {sd : Str} {ls : List Lk} {x L m m' : Int} (h : IsBest sd ls x L m) (h' : IsBest sd ls x L m') : m = m' := by
  obtain ⟨⟨a, ha, ea⟩, h2⟩ := h
  obtain ⟨⟨b, hb, eb⟩, h2'⟩ := h'
  have q1 := h2 b hb
  have q2 := h2' a ha
  rw [eb] at q1
  rw [ea] at q2
  split at q1 <;> split at q2 <;> first | omega | (exfalso; simp_all)
theorem side_nil {L : Int} {sd : Str} {ls hs : List Lk} (hh : ∀ o, o ∈ hs ↔ ∃ l ∈ ls, o = home L l) : sideOf sd hs = [] ↔ sideOf sd ls = [] := by
  constructor
  · intro h
    refine List.eq_nil_iff_forall_not_mem.mpr fun l hl => ?_
    obtain ⟨h1, h2⟩ := mem_side.mp hl
    have : home L l ∈ sideOf sd hs := mem_side.mpr ⟨(hh _).mpr ⟨l, h1, rfl⟩, h2⟩
    rw [h] at this; cases this
  · intro h
    refine List.eq_nil_iff_forall_not_mem.mpr fun o ho => ?_
    obtain ⟨h1, h2⟩ := mem_side.mp ho
    obtain ⟨l, hl, rfl⟩ := (hh o).mp h1
    have : l ∈ sideOf sd ls := mem_side.mpr ⟨hl, h2⟩
    rw [h] at this; cases this
theorem plc_shift {L : Int} (hL : 0 < L) (sd : Str) (l : Lk) (x k : Int) : plc sd l (x + k * L) L = plc sd l x L + k * L := by
  unfold plc
  split
  · have e : x + k * L - l.2.1 = (x - l.2.1) + k * L := by omega
    rw [e, Int.add_mul_ediv_right _ _ (by omega), Int.add_mul]; omega
  · have e : l.2.1 - (x + k * L) = (l.2.1 - x) + (-k) * L := by rw [Int.neg_mul]; omega
    rw [e, Int.add_mul_ediv_right _ _ (by omega), Int.add_mul, Int.neg_mul]; omega
theorem far_home {L : Int} (hL : 0 < L) (a b : Lk) : tooFar (home L a) (home L b) L = tooFar a b L := by
  unfold tooFar
  have e1 : (home L b).2.2 = b.2.2 - b.2.1 / L * L := rfl
  have e2 : (home L b).2.1 = b.2.1 + (-(b.2.1 / L)) * L := by show b.2.1 - b.2.1 / L * L = _; rw [Int.neg_mul]; omega
  rw [e1, e2, plc_home hL, plc_shift hL, Int.neg_mul]
  congr 1
  rw [decide_eq_decide]
  constructor <;> intro h <;> omega
theorem clash_home {L : Int} (hL : 0 < L) (a b : Lk) : clashB (home L a) (home L b) L = clashB a b L := by
  unfold clashB
  rw [far_home hL, far_home hL]
/-- the best place, as a number -/
noncomputable def bst (sd : Str) (ls : List Lk) (x L : Int) : Int := by
  classical exact if h : ∃ m, IsBest sd ls x L m then h.choose else 0
theorem bst_of {sd : Str} {ls : List Lk} {x L m : Int} (h : IsBest sd ls x L m) : bst sd ls x L = m := by
  have e : ∃ m, IsBest sd ls x L m := ⟨m, h⟩
  unfold bst
  rw [dif_pos e]
  exact best_one e.choose_spec h
theorem bst_slow {ls : List Lk} (h : ls ≠ []) (x L : Int) : IsBest "slow" ls x L (bst "slow" ls x L) := by
  cases ls with
  | nil => exact absurd rfl h
  | cons l r =>
    obtain ⟨q, _, _, b⟩ := max_step x L l r
    rw [bst_of b]; exact b
theorem bst_fast {ls : List Lk} (h : ls ≠ []) (x L : Int) : IsBest "fast" ls x L (bst "fast" ls x L) := by
  cases ls with
  | nil => exact absurd rfl h
  | cons l r =>
    obtain ⟨q, _, _, b⟩ := min_step x L l r
    rw [bst_of b]; exact b
theorem plc_mono {L : Int} (hL : 0 < L) (sd : Str) (l : Lk) {x y : Int} (h : x ≤ y) : plc sd l x L ≤ plc sd l y L := by
  unfold plc
  split
  · have h1 := Int.mul_le_mul_of_nonneg_right (Int.ediv_le_ediv hL (by omega : x - l.2.1 ≤ y - l.2.1)) (Int.le_of_lt hL)
    omega
  · have h1 := Int.mul_le_mul_of_nonneg_right (Int.ediv_le_ediv hL (by omega : l.2.1 - y ≤ l.2.1 - x)) (Int.le_of_lt hL)
    omega
theorem best_mono {L : Int} (hL : 0 < L) {sd : Str} {ls : List Lk} {x y m m' : Int} (h : IsBest sd ls x L m) (h' : IsBest sd ls y L m') (hxy : x ≤ y) : m ≤ m' := by
  obtain ⟨⟨l, hl, e⟩, h2⟩ := h
  obtain ⟨⟨l', hl', e'⟩, h2'⟩ := h'
  have q1 := h2' l hl
  have q2 := h2 l' hl'
  by_cases c : sd = "slow"
  · rw [if_pos c] at q1
    have := plc_mono hL sd l hxy
    omega
  · rw [if_neg c] at q2
    have := plc_mono hL sd l' hxy
    omega
theorem best_shift {L : Int} (hL : 0 < L) {sd : Str} {ls : List Lk} {x m : Int} (k : Int) (h : IsBest sd ls x L m) : IsBest sd ls (x + k * L) L (m + k * L) := by
  obtain ⟨⟨l, hl, e⟩, h2⟩ := h
  refine ⟨⟨l, hl, by rw [plc_shift hL, e]⟩, fun q hq => ?_⟩
  have := h2 q hq
  rw [plc_shift hL]
  split at this
  · rw [if_pos (by assumption)]; omega
  · rw [if_neg (by assumption)]; omega
theorem far_le {L : Int} {a b : Lk} (h : tooFar a b L = false) (ha : onSide "slow" a.1 = true) (hb : onSide "fast" b.1 = true) : plc "slow" a b.2.1 L ≤ b.2.2 := by
  unfold tooFar at h
  rw [ha, hb, Bool.true_and, Bool.true_and, decide_eq_false_iff_not] at h
  omega
theorem far_no {L : Int} {a b : Lk} (h : onSide "slow" a.1 = true → onSide "fast" b.1 = true → plc "slow" a b.2.1 L ≤ b.2.2) : tooFar a b L = false := by
  unfold tooFar
  cases c1 : onSide "slow" a.1 with
  | false => rfl
  | true =>
    cases c2 : onSide "fast" b.1 with
    | false => rfl
    | true =>
      rw [Bool.true_and, Bool.true_and, decide_eq_false_iff_not]
      have := h c1 c2
      omega
theorem no_far_of {L : Int} {a b : Lk} (h : clashB a b L = false) : tooFar a b L = false ∧ tooFar b a L = false := by
  unfold clashB at h
  rw [Bool.or_eq_false_iff] at h
  exact h
theorem cross {L : Int} (hL : 0 < L) {a b : Lk} (h : plc "slow" a b.2.1 L ≤ b.2.2) (x : Int) : plc "slow" a x L ≤ plc "fast" b x L := by
  rw [plc_fast]
  have hj : (b.2.1 - x) / L * L ≤ b.2.1 - x := by
    have := Int.mul_ediv_add_emod (b.2.1 - x) L
    have h0 := Int.emod_nonneg (b.2.1 - x) (show L ≠ 0 by omega)
    rw [Int.mul_comm] at this
    omega
  generalize (b.2.1 - x) / L = j at hj ⊢
  have h1 := plc_mono hL "slow" a (by omega : x + j * L ≤ b.2.1)
  rw [plc_shift hL] at h1
  omega
theorem low_high {L : Int} (hL : 0 < L) {hs : List Lk} (hnc : ∀ a ∈ hs, ∀ b ∈ hs, clashB a b L = false) {x m m' : Int} (h : IsBest "slow" (sideOf "slow" hs) x L m) (h' : IsBest "fast" (sideOf "fast" hs) x L m') : m ≤ m' := by
  obtain ⟨⟨l, hl, e⟩, _⟩ := h
  obtain ⟨⟨l', hl', e'⟩, _⟩ := h'
  obtain ⟨h1, h2⟩ := mem_side.mp hl
  obtain ⟨h1', h2'⟩ := mem_side.mp hl'
  rw [← e, ← e']
  exact cross hL (far_le (no_far_of (hnc l h1 l' h1')).1 h2 h2') x
end KA
namespace KA
open PySem PySem.Spec PyProof.Rows L2 DP
/-- the length of the list at g -/
def lenAt (H : Hp) (g : Addr) : Nat := match H g with | some (.lst xs) => xs.length | _ => 0
theorem lenAt_of {H : Hp} {g : Addr} {xs : List V} (h : H g = some (.lst xs)) : lenAt H g = xs.length := by unfold lenAt; rw [h]
theorem atI_last {α : Type} {xs : List α} (h : 0 < xs.length) : atI xs (-1) = xs[xs.length - 1]? := by
  unfold atI ixN
  rw [if_neg (by decide), if_pos (by omega)]
  show xs[_]? = _
  congr 1
  omega
theorem same_made {H : Hp} {d dx : Addr} {o : HO} (hdn : H d = none) (hdx : H dx = none) : Same H (upd (upd H dx (.own d)) d o) := fun b o e => by
  rw [upd_ne (ne_of_none e hdn), upd_ne (ne_of_none e hdx)]; exact e
/-- all stands but one object -/
def Out (d : Addr) (H H' : Hp) : Prop := ∀ c o, H c = some o → c ≠ d → H' c = some o
theorem Out.tups {d C dx : Addr} {fs : List (Str × V)} {H H' : Hp} (k : Out d H H') (h : H d = some (.ins C dx fs)) : Tups H H' := fun c zs hc => by
  have hcb : c ≠ d := by
    rintro rfl
    rcases hc with e | ⟨q, e⟩ <;> rw [h] at e <;> cases e
  rcases hc with e | ⟨q, e⟩
  · exact .inl (k _ _ e hcb)
  · exact .inr ⟨q, k _ _ e hcb⟩
theorem Out.dark {Z : Ad} {K : PySem.W.Frag} {H H' : Hp} {d e C dx : Addr} {fs : List (Str × V)} {L : Int} {ls : List Lk} (k : Out d H H') (D : DarkAt Z K H e L ls) (h : H d = some (.ins C dx fs)) (hne : e ≠ d) : DarkAt Z K H' e L ls := by
  obtain ⟨dx2, la, vs, h1, h2, h3⟩ := D.ex
  exact ⟨⟨dx2, la, vs, k _ _ h1 hne, k _ _ h2 (fun q => by rw [q, h] at h2; cases h2), dpAll_tups (k.tups h) _ _ (noLs_map noL_encL ls) h3⟩, D.pos, D.big, D.ok, D.len⟩
theorem Out.sqL {K : PySem.W.Frag} {H H' : Hp} {d C dx p : Addr} {fs : List (Str × V)} {xs : List V} (k : Out d H H') (h : H d = some (.ins C dx fs)) (q : SqL K H p xs) : SqL K H' p xs := by
  rcases q with q | q
  · have hp : p ≠ d := by
      rintro rfl
      rcases q with e | ⟨z, e⟩ <;> rw [h] at e <;> cases e
    rcases q with e | ⟨z, e⟩
    · exact .inl (.inl (k _ _ e hp))
    · exact .inl (.inr ⟨z, k _ _ e hp⟩)
  · exact .inr q
end KA
namespace KA
open PySem PySem.Spec PyProof.Rows L2 DP
/-! ### hands under which nobody overtakes, and looks that they fit -/
structure Hand (L : Int) (f : Int → Int) : Prop where
  mono : ∀ x y, x ≤ y → f x ≤ f y
  turn : ∀ x k, f (x + k * L) = f x + k * L
def Fits (f : Int → Int) (l : Lk) : Prop := (onSide "slow" l.1 = true → l.2.2 ≤ f l.2.1) ∧ (onSide "fast" l.1 = true → f l.2.1 ≤ l.2.2)
theorem fit_low {L : Int} (hL : 0 < L) {f : Int → Int} (F : Hand L f) {l : Lk} (h : Fits f l) (hs : onSide "slow" l.1 = true) (x : Int) : plc "slow" l x L ≤ f x := by
  have h1 := h.1 hs
  have h2 := Int.mul_ediv_add_emod (x - l.2.1) L
  have h3 := Int.emod_nonneg (x - l.2.1) (show L ≠ 0 by omega)
  rw [Int.mul_comm] at h2
  have h4 := F.mono (l.2.1 + (x - l.2.1) / L * L) x (by omega)
  rw [F.turn] at h4
  rw [plc_slow]; omega
theorem fit_high {L : Int} (hL : 0 < L) {f : Int → Int} (F : Hand L f) {l : Lk} (h : Fits f l) (hs : onSide "fast" l.1 = true) (x : Int) : f x ≤ plc "fast" l x L := by
  have h1 := h.2 hs
  have h2 := Int.mul_ediv_add_emod (l.2.1 - x) L
  have h3 := Int.emod_nonneg (l.2.1 - x) (show L ≠ 0 by omega)
  rw [Int.mul_comm] at h2
  have h4 := F.mono x (l.2.1 + (-((l.2.1 - x) / L)) * L) (by rw [Int.neg_mul]; omega)
  rw [F.turn, Int.neg_mul] at h4
  rw [plc_fast]; omega
theorem fit_far {L : Int} (hL : 0 < L) {f : Int → Int} (F : Hand L f) {a b : Lk} (ha : Fits f a) (hb : Fits f b) : tooFar a b L = false :=
  far_no fun h1 h2 => Int.le_trans (fit_low hL F ha h1 b.2.1) (hb.2 h2)
theorem fit_clash {L : Int} (hL : 0 < L) {f : Int → Int} (F : Hand L f) {a b : Lk} (ha : Fits f a) (hb : Fits f b) : clashB a b L = false := by
  unfold clashB
  rw [fit_far hL F ha hb, fit_far hL F hb ha]; rfl
theorem fit_home {L : Int} {f : Int → Int} (F : Hand L f) {l : Lk} (h : Fits f l) : Fits f (home L l) := by
  have e : f (home L l).2.1 = f l.2.1 - l.2.1 / L * L := by
    show f (l.2.1 - l.2.1 / L * L) = _
    have := F.turn l.2.1 (-(l.2.1 / L))
    rw [Int.neg_mul] at this
    rw [Int.sub_eq_add_neg, this]; omega
  refine ⟨fun hs => ?_, fun hs => ?_⟩
  · have := h.1 hs
    rw [e]
    show l.2.2 - l.2.1 / L * L ≤ _
    omega
  · have := h.2 hs
    rw [e]
    show _ ≤ l.2.2 - l.2.1 / L * L
    omega
/-- some places, and where they are led: rising, within a turn -/
structure Rises (L : Int) (prs : List (Int × Int)) : Prop where
  ne : prs ≠ []
  ord : prs.Pairwise fun a b => a.1 < b.1 ∧ a.2 ≤ b.2
  on : ∀ s ∈ prs, 0 ≤ s.1 ∧ s.1 < L
  turn : ∃ b : Int, b.natAbs < 2 ^ 104 ∧ ∀ s ∈ prs, b ≤ s.2 ∧ s.2 ≤ b + L
theorem pw_at {α : Type} {R : α → α → Prop} {l : List α} (h : l.Pairwise R) {a b : α} (ha : a ∈ l) (hb : b ∈ l) : a = b ∨ R a b ∨ R b a := by
  obtain ⟨i, hi, rfl⟩ := List.getElem_of_mem ha
  obtain ⟨j, hj, rfl⟩ := List.getElem_of_mem hb
  rw [List.pairwise_iff_getElem] at h
  rcases Nat.lt_trichotomy i j with e | e | e
  · exact .inr (.inl (h i j hi hj e))
  · subst e; exact .inl rfl
  · exact .inr (.inr (h j i hj hi e))
def atL (s : Int × Int) : Lk := ("at", s.1, s.2)
theorem Rises.lead {L : Int} (hL : 0 < L) {prs : List (Int × Int)} (R : Rises L prs) : ∃ f, Hand L f ∧ ∀ s ∈ prs, f s.1 = s.2 := by
  have hne : prs.map atL ≠ [] := fun e => R.ne (List.map_eq_nil_iff.mp e)
  refine ⟨fun x => bst "slow" (prs.map atL) x L, ⟨fun x y h => best_mono hL (bst_slow hne x L) (bst_slow hne y L) h, fun x k => bst_of (best_shift hL k (bst_slow hne x L))⟩, fun s hs => bst_of ⟨⟨atL s, List.mem_map.mpr ⟨s, hs, rfl⟩, ?_⟩, fun l hl => ?_⟩⟩
  · rw [plc_slow]
    show s.2 + (s.1 - s.1) / L * L = s.2
    rw [Int.sub_self, Int.zero_ediv, Int.zero_mul, Int.add_zero]
  · obtain ⟨q, hq, rfl⟩ := List.mem_map.mp hl
    rw [if_pos rfl, plc_slow]
    show q.2 + (s.1 - q.1) / L * L ≤ s.2
    have h1 := R.on s hs
    have h2 := R.on q hq
    obtain ⟨b, _, hb⟩ := R.turn
    have h3 := hb s hs
    have h4 := hb q hq
    rcases pw_at R.ord hq hs with e | e | e
    · rw [e, Int.sub_self, Int.zero_ediv, Int.zero_mul]; omega
    · rw [Int.ediv_eq_zero_of_lt (by omega) (by omega), Int.zero_mul]; omega
    · have e2 : (s.1 - q.1) / L = -1 := by
        have e1 : s.1 - q.1 = (s.1 - q.1 + L) + (-1) * L := by omega
        rw [e1, Int.add_mul_ediv_right _ _ (by omega), Int.ediv_eq_zero_of_lt (by omega) (by omega)]
        rfl
      rw [e2]; omega
/-- a look that is said of such places -/
def Said (L : Int) (prs : List (Int × Int)) (l : Lk) : Prop := WordOk l.1 ∧ ∃ s ∈ prs, l.2.1 = s.1 ∧ (l.1 = "at" → l.2.2 = s.2) ∧ (l.1 = "from" → l.2.2 ≤ s.2 ∧ s.2 ≤ l.2.2 + L) ∧ (l.1 = "upto" → s.2 ≤ l.2.2 ∧ l.2.2 ≤ s.2 + L)
theorem Said.fits {L : Int} {prs : List (Int × Int)} {f : Int → Int} (hf : ∀ s ∈ prs, f s.1 = s.2) {l : Lk} (h : Said L prs l) : Fits f l := by
  obtain ⟨_, s, hs, e, h1, h2, h3⟩ := h
  rw [Fits, e, hf s hs]
  refine ⟨fun c => ?_, fun c => ?_⟩
  · rcases side_low c with e | e
    · exact Int.le_of_eq (h1 e)
    · exact (h2 e).1
  · rcases side_high c with e | e
    · exact Int.le_of_eq (h1 e).symm
    · exact (h3 e).1
theorem Said.sized {L : Int} (hL : 0 < L) (hLb : L.natAbs < 2 ^ 100) {prs : List (Int × Int)} (R : Rises L prs) {l : Lk} (h : Said L prs l) : Sized 110 l := by
  obtain ⟨w, s, hs, e, h1, h2, h3⟩ := h
  have h4 := R.on s hs
  obtain ⟨b, hb, hb2⟩ := R.turn
  have h5 := hb2 s hs
  refine ⟨?_, ?_⟩
  · rw [e]; exact lt_up (Nat.lt_of_le_of_lt (by omega : s.1.natAbs ≤ L.natAbs) hLb) (by decide)
  · have e1 : (2 : Nat) ^ 110 = 2 ^ 104 * 64 := by decide
    have e2 : (2 : Nat) ^ 100 ≤ 2 ^ 104 := by decide
    rw [e1]
    generalize (2 : Nat) ^ 104 = B at hb e2 ⊢
    generalize (2 : Nat) ^ 100 = C at hLb e2
    rcases w with w | w | w
    · rw [h1 w]; omega
    · have := h2 w; omega
    · have := h3 w; omega
/-- heard some turns on -/
theorem home_turned {L : Int} (hL : 0 < L) (w : Str) (x y k : Int) : home L (w, x + k * L, y + k * L) = home L (w, x, y) := by
  have e : (x + k * L) / L = x / L + k := by rw [Int.add_mul_ediv_right _ _ (by omega)]
  show (w, x + k * L - (x + k * L) / L * L, y + k * L - (x + k * L) / L * L) = (w, x - x / L * L, y - x / L * L)
  rw [e, Int.add_mul]
  congr 1
  congr 1 <;> omega
theorem heard_turned {L : Int} (hL : 0 < L) (ls : List Lk) (w : Str) (x y k : Int) : heard L ls (w, x + k * L, y + k * L) = heard L ls (w, x, y) := by
  unfold heard
  rw [home_turned hL]
/-- all heard -/
def heardAll (L : Int) (ls : List Lk) : List Lk := ls.foldl (heard L) []
theorem heardAll_mem {L : Int} {ls : List Lk} (o : Lk) : o ∈ heardAll L ls ↔ ∃ l ∈ ls, o = home L l := by
  unfold heardAll
  rw [fold_mem]; simp
end KA
namespace KA
open PySem PySem.Spec PyProof.Rows L2 DP
/-! ### where hands, used by turns, lead a place -/
theorem bst_is {sd : Str} (hs : SideOk sd) {ls : List Lk} (h : ls ≠ []) (x L : Int) : IsBest sd ls x L (bst sd ls x L) := by
  rcases hs with e | e <;> subst e
  · exact bst_slow h x L
  · exact bst_fast h x L
/-- one use: none where there is no look of the side -/
noncomputable def stp (sd : Str) (L : Int) (ls : List Lk) (y : Int) : Option Int := by
  classical exact if ls = [] then none else some (bst sd ls y L)
theorem stp_nil {sd : Str} {L y : Int} : stp sd L [] y = none := by
  unfold stp; rw [if_pos rfl]
theorem stp_best {sd : Str} {L y m : Int} {ls : List Lk} (h : IsBest sd ls y L m) : stp sd L ls y = some m := by
  obtain ⟨⟨l, hl, _⟩, _⟩ := id h
  have hne : ls ≠ [] := fun e => by rw [e] at hl; cases hl
  unfold stp
  rw [if_neg hne, bst_of h]
theorem stp_some {sd : Str} (hs : SideOk sd) {L y : Int} {ls : List Lk} (h : ls ≠ []) : stp sd L ls y = some (bst sd ls y L) := stp_best (bst_is hs h y L)
theorem stp_shift {sd : Str} (hs : SideOk sd) {L : Int} (hL : 0 < L) (ls : List Lk) (y k : Int) : stp sd L ls (y + k * L) = (stp sd L ls y).map (· + k * L) := by
  by_cases h : ls = []
  · subst h; rw [stp_nil, stp_nil]; rfl
  · rw [stp_best (best_shift hL k (bst_is hs h y L)), stp_best (bst_is hs h y L)]; rfl
noncomputable def it (sd : Str) (L : Int) (kn : List (List Lk)) (x : Int) : Nat → Option Int
  | 0 => some x
  | n + 1 => (it sd L kn x n).bind (stp sd L (kn.getD (n % kn.length) []))
theorem it_succ {sd : Str} {L : Int} {kn : List (List Lk)} {x : Int} (n : Nat) : it sd L kn x (n + 1) = (it sd L kn x n).bind (stp sd L (kn.getD (n % kn.length) [])) := rfl
theorem it_none {sd : Str} {L : Int} {kn : List (List Lk)} {x : Int} {n : Nat} (h : it sd L kn x n = none) : ∀ k, it sd L kn x (n + k) = none
  | 0 => h
  | k + 1 => by
    show (it sd L kn x (n + k)).bind _ = none
    rw [it_none h k]; rfl
/-- where it stands at the same hand, whole turns on, it goes on alike -/
theorem it_turn {sd : Str} (hs : SideOk sd) {L : Int} (hL : 0 < L) {kn : List (List Lk)} {x k : Int} {s t : Nat} (hm : s % kn.length = t % kn.length) (h : it sd L kn x t = (it sd L kn x s).map (· + k * L)) : ∀ n, it sd L kn x (t + n) = (it sd L kn x (s + n)).map (· + k * L)
  | 0 => h
  | n + 1 => by
    show it sd L kn x (t + n + 1) = (it sd L kn x (s + n + 1)).map _
    rw [it_succ, it_succ, it_turn hs hL hm h n]
    have e : (t + n) % kn.length = (s + n) % kn.length := by rw [Nat.add_mod, ← hm, ← Nat.add_mod]
    rw [e]
    cases it sd L kn x (s + n) with
    | none => rfl
    | some y => exact stp_shift hs hL _ y k
theorem it_laps {sd : Str} (hs : SideOk sd) {L : Int} (hL : 0 < L) {kn : List (List Lk)} {x k : Int} {s p : Nat} (hm : s % kn.length = (s + p) % kn.length) (h : it sd L kn x (s + p) = (it sd L kn x s).map (· + k * L)) (r : Nat) : ∀ t : Nat, it sd L kn x (s + r + t * p) = (it sd L kn x (s + r)).map (· + t * (k * L))
  | 0 => by
    rw [Nat.zero_mul]
    cases it sd L kn x (s + r) with
    | none => simp
    | some y => simp
  | t + 1 => by
    have h1 := it_turn hs hL hm h (r + t * p)
    have e1 : s + p + (r + t * p) = s + r + (t + 1) * p := by rw [Nat.add_mul]; omega
    have e2 : s + (r + t * p) = s + r + t * p := by omega
    rw [e1, e2] at h1
    rw [h1, it_laps hs hL hm h r t]
    cases it sd L kn x (s + r) with
    | none => rfl
    | some y =>
      show some (y + (t : Int) * (k * L) + k * L) = some (y + ((t + 1 : Nat) : Int) * (k * L))
      rw [Int.natCast_add, Int.add_mul]
      congr 1
      omega
/-- two rounds that tell the same of each place lead alike -/
theorem it_alike {sd : Str} {L : Int} {kn kn' : List (List Lk)} {x : Int} (hl : kn.length = kn'.length) (h : ∀ i y, i < kn.length → stp sd L (kn.getD i []) y = stp sd L (kn'.getD i []) y) (hm : 0 < kn.length) : ∀ n, it sd L kn x n = it sd L kn' x n
  | 0 => rfl
  | n + 1 => by
    show (it sd L kn x n).bind _ = (it sd L kn' x n).bind _
    rw [it_alike hl h hm n]
    cases it sd L kn' x n with
    | none => rfl
    | some y =>
      show stp sd L (kn.getD (n % kn.length) []) y = stp sd L (kn'.getD (n % kn'.length) []) y
      rw [← hl]
      exact h _ y (Nat.mod_lt _ hm)
/-! ### the walk -/
structure WalkOk (sd : Str) (L : Int) (kn : List (List Lk)) (x : Int) (ps : List Int) (tl : List Lk) : Prop where
  len : ps.length = tl.length + 1
  zero : ps[0]? = some x
  step : ∀ i l, tl[i]? = some l → l ∈ kn.getD (i % kn.length) [] ∧ ∃ y z, ps[i]? = some y ∧ ps[i + 1]? = some z ∧ plc sd l y L = z ∧ IsBest sd (kn.getD (i % kn.length) []) y L z
/-- how it ends -/
def EndOk (L : Int) (kn : List (List Lk)) (ps : List Int) (tl : List Lk) : Option Nat → Prop
  | none => kn.getD (tl.length % kn.length) [] = []
  | some s => s < tl.length ∧ s % kn.length = tl.length % kn.length ∧ ∃ a b, ps[s]? = some a ∧ ps[tl.length]? = some b ∧ a % L = b % L
theorem WalkOk.it {sd : Str} {L : Int} {kn : List (List Lk)} {x : Int} {ps : List Int} {tl : List Lk} (W : WalkOk sd L kn x ps tl) : ∀ (i : Nat) (y : Int), ps[i]? = some y → it sd L kn x i = some y
  | 0, y, h => by
    rw [W.zero] at h
    exact h
  | i + 1, y, h => by
    have hi := (List.getElem?_eq_some_iff.mp h).1
    have hl := W.len
    obtain ⟨_, y0, z, h1, h2, _, h4⟩ := W.step i _ (List.getElem?_eq_getElem (by omega : i < tl.length))
    rw [h2] at h
    rw [← Option.some.inj h]
    show (KA.it sd L kn x i).bind _ = _
    rw [W.it i y0 h1]
    exact stp_best h4
/-- behind any uses: the walk's own answer -/
theorem behind_in {sd : Str} {L : Int} {kn : List (List Lk)} {x : Int} {ps : List Int} {tl : List Lk} (W : WalkOk sd L kn x ps tl) {n : Nat} (h : n < ps.length) : it sd L kn x n = some (ps.getD n 0) := by
  refine W.it n _ ?_
  rw [List.getD_eq_getElem?_getD, List.getElem?_eq_getElem h]; rfl
theorem behind_none {sd : Str} {L : Int} {kn : List (List Lk)} {x : Int} {ps : List Int} {tl : List Lk} (W : WalkOk sd L kn x ps tl) (h : EndOk L kn ps tl none) {n : Nat} (hn : ps.length ≤ n) : it sd L kn x n = none := by
  have hl := W.len
  have h1 : it sd L kn x (tl.length + 1) = none := by
    show (it sd L kn x tl.length).bind _ = none
    rw [show kn.getD (tl.length % kn.length) [] = [] from h]
    cases it sd L kn x tl.length with
    | none => rfl
    | some y => exact stp_nil
  have h2 := it_none h1 (n - (tl.length + 1))
  rwa [show tl.length + 1 + (n - (tl.length + 1)) = n by omega] at h2
theorem behind_laps {sd : Str} (hs : SideOk sd) {L : Int} (hL : 0 < L) {kn : List (List Lk)} {x : Int} {ps : List Int} {tl : List Lk} (W : WalkOk sd L kn x ps tl) {s : Nat} (h : EndOk L kn ps tl (some s)) (t r : Nat) (hr : s + r < ps.length) :
    it sd L kn x (s + r + t * (tl.length - s)) = some (ps.getD (s + r) 0 + t * (ps.getD tl.length 0 - ps.getD s 0)) := by
  obtain ⟨h1, h2, a, b, ha, hb, hab⟩ := h
  have ea := W.it s a ha
  have eb := W.it _ b hb
  have e1 : s + (tl.length - s) = tl.length := by omega
  obtain ⟨k, hk⟩ : ∃ k, b = a + k * L := by
    refine ⟨b / L - a / L, ?_⟩
    have q1 := Int.mul_ediv_add_emod a L
    have q2 := Int.mul_ediv_add_emod b L
    rw [Int.mul_comm] at q1 q2
    rw [Int.sub_mul]
    omega
  have hit : it sd L kn x (s + (tl.length - s)) = (it sd L kn x s).map (· + k * L) := by
    rw [e1, ea, eb, hk]; rfl
  rw [it_laps hs hL (by rw [e1]; exact h2) hit r t, behind_in W hr]
  have ga : ps.getD s 0 = a := by rw [List.getD_eq_getElem?_getD, ha]; rfl
  have gb : ps.getD tl.length 0 = b := by rw [List.getD_eq_getElem?_getD, hb]; rfl
  rw [ga, gb, hk]
  show some (ps.getD (s + r) 0 + (t : Int) * (k * L)) = some (ps.getD (s + r) 0 + (t : Int) * (a + k * L - a))
  rw [show a + k * L - a = k * L by omega]
/-! ### sizes -/
theorem plc_near {L : Int} (hL : 0 < L) (sd : Str) (l : Lk) (x : Int) : (plc sd l x L - x).natAbs ≤ (l.2.2 - l.2.1).natAbs + L.natAbs := by
  unfold plc
  split
  · have q := Int.mul_ediv_add_emod (x - l.2.1) L
    have q0 := Int.emod_nonneg (x - l.2.1) (show L ≠ 0 by omega)
    have q1 := Int.emod_lt_of_pos (x - l.2.1) hL
    rw [Int.mul_comm] at q
    omega
  · have q := Int.mul_ediv_add_emod (l.2.1 - x) L
    have q0 := Int.emod_nonneg (l.2.1 - x) (show L ≠ 0 by omega)
    have q1 := Int.emod_lt_of_pos (l.2.1 - x) hL
    rw [Int.mul_comm] at q
    omega
/-- a hand's looks are such as a Dark keeps -/
def KnOk (kn : List (List Lk)) : Prop := ∀ ls ∈ kn, ls.length ≤ 60 ∧ ∀ l ∈ ls, WordOk l.1 ∧ Sized 310 l
theorem KnOk.get {kn : List (List Lk)} (h : KnOk kn) (i : Nat) : (kn.getD i []).length ≤ 60 ∧ ∀ l ∈ kn.getD i [], WordOk l.1 ∧ Sized 310 l := by
  by_cases hi : i < kn.length
  · have e : kn.getD i [] = kn[i] := by rw [List.getD_eq_getElem?_getD, List.getElem?_eq_getElem hi]; rfl
    rw [e]
    exact h _ (List.getElem_mem hi)
  · have e : kn.getD i [] = [] := by rw [List.getD_eq_getElem?_getD, List.getElem?_eq_none (by omega)]; rfl
    rw [e]
    exact ⟨Nat.zero_le _, fun l hl => by cases hl⟩
theorem step_near {L : Int} (hL : 0 < L) (hLb : L.natAbs < 2 ^ 200) {l : Lk} (h : Sized 310 l) (sd : Str) (x : Int) : (plc sd l x L - x).natAbs ≤ 2 ^ 312 := by
  have h1 := plc_near hL sd l x
  have h2 : (l.2.2 - l.2.1).natAbs < 2 ^ 311 := sub_lt h.2 h.1
  have h3 : L.natAbs < 2 ^ 311 := lt_up hLb (by decide)
  have h4 : (2 : Nat) ^ 312 = 2 ^ 311 + 2 ^ 311 := by rw [Nat.pow_succ, Nat.mul_two]
  omega
theorem WalkOk.small {sd : Str} {L : Int} (hL : 0 < L) (hLb : L.natAbs < 2 ^ 200) {kn : List (List Lk)} (hk : KnOk kn) {x : Int} {ps : List Int} {tl : List Lk} (W : WalkOk sd L kn x ps tl) : ∀ (i : Nat) (y : Int), ps[i]? = some y → y.natAbs ≤ x.natAbs + i * 2 ^ 312
  | 0, y, h => by
    rw [W.zero] at h
    rw [← Option.some.inj h]; omega
  | i + 1, y, h => by
    have hi := (List.getElem?_eq_some_iff.mp h).1
    have hl := W.len
    obtain ⟨hm, y0, z, h1, h2, h3, _⟩ := W.step i _ (List.getElem?_eq_getElem (by omega : i < tl.length))
    rw [h2] at h
    rw [← Option.some.inj h, ← h3]
    have q1 := W.small hL hLb hk i y0 h1
    have q2 := step_near hL hLb ((hk.get _).2 _ hm).2 sd y0
    rw [Nat.add_mul, Nat.one_mul]
    generalize (2 : Nat) ^ 312 = B at q1 q2 ⊢
    generalize i * B = c at q1 ⊢
    omega
/-! ### the marks: hand and place within the turn -/
def mark (L : Int) (m : Nat) (ps : List Int) (i : Nat) : Nat × Int := (i % m, ps.getD i 0 % L)
def marks (L : Int) (m : Nat) (ps : List Int) (n : Nat) : List (Nat × Int) := (List.range n).map (mark L m ps)
def cand (L : Int) (kn : List (List Lk)) (x : Int) : List (Nat × Int) := (0, x % L) :: ((List.range kn.length).map fun j => (kn.getD j []).map fun l => ((j + 1) % kn.length, l.2.2 % L)).flatten
theorem nodup_le {α : Type} [DecidableEq α] : ∀ {l l' : List α}, l.Nodup → (∀ a ∈ l, a ∈ l') → l.length ≤ l'.length
  | [], l', _, _ => Nat.zero_le _
  | a :: l, l', hn, hs => by
    obtain ⟨h1, h2⟩ := List.nodup_cons.mp hn
    have ha := hs a List.mem_cons_self
    have h3 : ∀ b ∈ l, b ∈ l'.erase a := fun b hb => (List.mem_erase_of_ne (fun e => h1 (by rw [← e]; exact hb))).mpr (hs b (List.mem_cons_of_mem _ hb))
    have h4 := nodup_le h2 h3
    have h5 := List.length_erase_of_mem ha
    have h6 := List.length_pos_of_mem ha
    rw [List.length_cons]; omega
theorem flat_le {β γ : Type} {f : β → List γ} {c : Nat} : ∀ {l : List β}, (∀ b ∈ l, (f b).length ≤ c) → (l.map f).flatten.length ≤ l.length * c
  | [], _ => by simp
  | b :: l, h => by
    have h1 := flat_le (l := l) fun q hq => h q (List.mem_cons_of_mem _ hq)
    have h2 := h b List.mem_cons_self
    rw [List.map_cons, List.flatten_cons, List.length_append, List.length_cons, Nat.add_mul]
    omega
theorem cand_len {L : Int} {kn : List (List Lk)} (hk : KnOk kn) (x : Int) : (cand L kn x).length ≤ kn.length * 60 + 1 := by
  unfold cand
  rw [List.length_cons]
  have h := flat_le (f := fun j => (kn.getD j []).map fun l : Lk => ((j + 1) % kn.length, l.2.2 % L)) (c := 60) (l := List.range kn.length) fun j _ => by
    rw [List.length_map]; exact (hk.get j).1
  rw [List.length_range] at h
  omega
theorem plc_mod {L : Int} (sd : Str) (l : Lk) (x : Int) : plc sd l x L % L = l.2.2 % L := by
  unfold plc
  split
  · exact Int.add_mul_emod_self_right ..
  · rw [Int.sub_eq_add_neg, ← Int.neg_mul]
    exact Int.add_mul_emod_self_right ..
theorem mark_cand {sd : Str} {L : Int} {kn : List (List Lk)} (hm : 0 < kn.length) {x : Int} {ps : List Int} {tl : List Lk} (W : WalkOk sd L kn x ps tl) : ∀ i, i < ps.length → mark L kn.length ps i ∈ cand L kn x
  | 0, _ => by
    refine List.mem_cons.mpr (.inl ?_)
    unfold mark
    rw [List.getD_eq_getElem?_getD, W.zero, Nat.zero_mod]; rfl
  | i + 1, hi => by
    refine List.mem_cons.mpr (.inr ?_)
    have hl := W.len
    obtain ⟨h0, y0, z, h1, h2, h3, _⟩ := W.step i _ (List.getElem?_eq_getElem (by omega : i < tl.length))
    refine List.mem_flatten.mpr ⟨_, List.mem_map.mpr ⟨i % kn.length, List.mem_range.mpr (Nat.mod_lt _ hm), rfl⟩, List.mem_map.mpr ⟨_, h0, ?_⟩⟩
    unfold mark
    rw [List.getD_eq_getElem?_getD, h2]
    show (_, _) = (_, z % L)
    rw [← h3, plc_mod]
    congr 1
    rw [Nat.mod_add_mod]
theorem marks_le {sd : Str} {L : Int} {kn : List (List Lk)} (hm : 0 < kn.length) {x : Int} {ps : List Int} {tl : List Lk} (W : WalkOk sd L kn x ps tl) {n : Nat} (hn : n ≤ ps.length) (hd : (marks L kn.length ps n).Nodup) : n ≤ (cand L kn x).length := by
  have h := nodup_le hd (l' := cand L kn x) fun a ha => by
    obtain ⟨i, hi, rfl⟩ := List.mem_map.mp ha
    exact mark_cand hm W i (Nat.lt_of_lt_of_le (List.mem_range.mp hi) hn)
  unfold marks at h
  rwa [List.length_map, List.length_range] at h
theorem WalkOk.new {sd : Str} {L : Int} {kn : List (List Lk)} {x : Int} : WalkOk sd L kn x [x] [] := ⟨rfl, rfl, fun i l h => by simp at h⟩
theorem WalkOk.snoc {sd : Str} {L : Int} {kn : List (List Lk)} {x y z : Int} {ps : List Int} {tl : List Lk} {l : Lk} (W : WalkOk sd L kn x ps tl) (hy : ps[tl.length]? = some y) (hl : l ∈ kn.getD (tl.length % kn.length) []) (hz : plc sd l y L = z) (hb : IsBest sd (kn.getD (tl.length % kn.length) []) y L z) : WalkOk sd L kn x (ps ++ [z]) (tl ++ [l]) := by
  have hlen := W.len
  refine ⟨by simp [hlen], by rw [List.getElem?_append_left (by omega)]; exact W.zero, fun i l' h => ?_⟩
  by_cases hi : i < tl.length
  · rw [List.getElem?_append_left hi] at h
    obtain ⟨h0, y0, z0, h1, h2, h3⟩ := W.step i l' h
    exact ⟨h0, y0, z0, by rw [List.getElem?_append_left (by omega)]; exact h1, by rw [List.getElem?_append_left (by omega)]; exact h2, h3⟩
  · have hi2 := (List.getElem?_eq_some_iff.mp h).1
    have e : i = tl.length := by
      rw [List.length_append, List.length_singleton] at hi2; omega
    subst e
    rw [List.getElem?_append_right (Nat.le_refl _), Nat.sub_self] at h
    have e2 : l = l' := Option.some.inj h
    subst e2
    refine ⟨hl, y, z, by rw [List.getElem?_append_left (by omega)]; exact hy, ?_, hz, hb⟩
    rw [List.getElem?_append_right (by omega), hlen, Nat.sub_self]; rfl
theorem marks_keep {L : Int} {m : Nat} {ps : List Int} {z : Int} {n : Nat} (h : n ≤ ps.length) : marks L m (ps ++ [z]) n = marks L m ps n := by
  unfold marks
  refine List.map_congr_left fun i hi => ?_
  have := List.mem_range.mp hi
  unfold mark
  rw [List.getD_eq_getElem?_getD, List.getD_eq_getElem?_getD, List.getElem?_append_left (by omega)]
theorem marks_succ {L : Int} {m : Nat} {ps : List Int} {n : Nat} : marks L m ps (n + 1) = marks L m ps n ++ [mark L m ps n] := by
  unfold marks
  rw [List.range_succ, List.map_append]; rfl
theorem marks_nodup {L : Int} {m : Nat} {ps : List Int} {n : Nat} (h : (marks L m ps n).Nodup) (h2 : mark L m ps n ∉ marks L m ps n) : (marks L m ps (n + 1)).Nodup := by
  rw [marks_succ]
  refine List.nodup_append.mpr ⟨h, by simp, fun a ha b hb e => ?_⟩
  rw [List.mem_singleton] at hb
  subst hb; subst e
  exact h2 ha
end KA
namespace KA
open PySem PySem.Spec PyProof.Rows L2 DP
/-- hands in the dark, of one length -/
def Darks (Z : Ad) (K : PySem.W.Frag) (H : Hp) (ds : List Addr) (L : Int) (hs : List (List Lk)) : Prop := ds.length = hs.length ∧ ∀ (i : Nat) (d : Addr) (ls : List Lk), ds[i]? = some d → hs[i]? = some ls → DarkAt Z K H d L ls
theorem Darks.same {Z : Ad} {K : PySem.W.Frag} {H H' : Hp} {ds : List Addr} {L : Int} {hs : List (List Lk)} (D : Darks Z K H ds L hs) (S : Same H H') : Darks Z K H' ds L hs := ⟨D.1, fun i d ls h1 h2 => (D.2 i d ls h1 h2).same S⟩
theorem Darks.get {Z : Ad} {K : PySem.W.Frag} {H : Hp} {ds : List Addr} {L : Int} {hs : List (List Lk)} (D : Darks Z K H ds L hs) {i : Nat} {d : Addr} (h : ds[i]? = some d) : ∃ ls, hs[i]? = some ls ∧ DarkAt Z K H d L ls := by
  have hi := (List.getElem?_eq_some_iff.mp h).1
  have hl := D.1
  exact ⟨hs[i], List.getElem?_eq_getElem (by omega), D.2 i d _ h (List.getElem?_eq_getElem (by omega))⟩
/-- a list of looks that stands as itself -/
def LkAt (K : PySem.W.Frag) (H : Hp) (p : Addr) (ls : List Lk) : Prop := ∃ vs, H p = some (.lst vs) ∧ DpAll K H vs (ls.map encL)
theorem LkAt.dp {K : PySem.W.Frag} {H : Hp} {p : Addr} {ls : List Lk} (h : LkAt K H p ls) : Dp K H (.ref p) (.list (ls.map encL)) := by
  obtain ⟨vs, h1, h2⟩ := h
  exact .lst (SqL.of h1) h2
theorem LkAt.to {K : PySem.W.Frag} {H H' : Hp} {p : Addr} {ls : List Lk} (h : LkAt K H p ls) (ht : Tups H H') (hp : ∀ o, H p = some o → H' p = some o) : LkAt K H' p ls := by
  obtain ⟨vs, h1, h2⟩ := h
  exact ⟨vs, hp _ h1, dpAll_tups ht _ _ (noLs_map noL_encL ls) h2⟩
theorem LkAt.same {K : PySem.W.Frag} {H H' : Hp} {p : Addr} {ls : List Lk} (h : LkAt K H p ls) (S : Same H H') : LkAt K H' p ls := h.to (Tups.of_same S) fun o e => S _ _ e
/-- lists of looks -/
def Lots (K : PySem.W.Frag) (H : Hp) (as : List Addr) (kn : List (List Lk)) : Prop := as.length = kn.length ∧ ∀ (i : Nat) (a : Addr) (ls : List Lk), as[i]? = some a → kn[i]? = some ls → LkAt K H a ls
theorem Lots.same {K : PySem.W.Frag} {H H' : Hp} {as : List Addr} {kn : List (List Lk)} (D : Lots K H as kn) (S : Same H H') : Lots K H' as kn := ⟨D.1, fun i a ls h1 h2 => (D.2 i a ls h1 h2).same S⟩
theorem Lots.to {K : PySem.W.Frag} {H H' : Hp} {as : List Addr} {kn : List (List Lk)} (D : Lots K H as kn) (ht : Tups H H') (hp : ∀ a ∈ as, ∀ o, H a = some o → H' a = some o) : Lots K H' as kn := ⟨D.1, fun i a ls h1 h2 => (D.2 i a ls h1 h2).to ht (hp a (List.mem_of_getElem? h1))⟩
theorem Lots.get {K : PySem.W.Frag} {H : Hp} {as : List Addr} {kn : List (List Lk)} (D : Lots K H as kn) {i : Nat} {a : Addr} (h : as[i]? = some a) : ∃ ls, kn[i]? = some ls ∧ LkAt K H a ls := by
  have hi := (List.getElem?_eq_some_iff.mp h).1
  have hl := D.1
  exact ⟨kn[i], List.getElem?_eq_getElem (by omega), D.2 i a _ h (List.getElem?_eq_getElem (by omega))⟩
theorem Lots.snoc {K : PySem.W.Frag} {H : Hp} {as : List Addr} {kn : List (List Lk)} {a : Addr} {ls : List Lk} (D : Lots K H as kn) (h : LkAt K H a ls) : Lots K H (as ++ [a]) (kn ++ [ls]) := by
  have hl := D.1
  refine ⟨by simp [hl], fun i b l h1 h2 => ?_⟩
  by_cases hi : i < as.length
  · rw [List.getElem?_append_left hi] at h1
    rw [List.getElem?_append_left (by omega)] at h2
    exact D.2 i b l h1 h2
  · have h3 := (List.getElem?_eq_some_iff.mp h1).1
    rw [List.length_append, List.length_singleton] at h3
    have e : i = as.length := by omega
    subst e
    rw [List.getElem?_append_right (Nat.le_refl _), Nat.sub_self] at h1
    rw [List.getElem?_append_right (by omega), hl, Nat.sub_self] at h2
    have e1 : a = b := Option.some.inj h1
    have e2 : ls = l := Option.some.inj h2
    subst e1 e2
    exact h
/-- a list of objects, in place of them -/
abbrev refs (as : List Addr) : List V := as.map V.ref
def spRound (Z : Ad) (K : PySem.W.Frag) : Sp := fun vs H Q _ => ∃ (hp : Addr) (ds : List Addr) (sd : Str) (L : Int) (hs : List (List Lk)), vs = [.ref hp, .str sd] ∧ SqL K H hp (refs ds) ∧ Darks Z K H ds L hs ∧ SideOk sd ∧ ds.length ≤ 1000 ∧
  ∀ H' p as, H p = none → (∀ a ∈ as, H a = none ∧ a ≠ p) → Same H H' → H' p = some (.lst (refs as)) → Lots K H' as (hs.map (sideOf sd)) → Q (.ref p) H'
theorem same_acc {H H' : Hp} {D : Addr} {o : HO} (S : Same H H') (hD : H D = none) : Same H (upd H' D o) := same_set S hD
section
variable {P : Program} {w : World} {K : PySem.W.Frag} {mg : Str → Option Value} {base : Heap} {Z : Ad}
end
end KA
namespace KA
open PySem PySem.Spec PyProof.Rows L2 DP
/-! ### looks led back -/
def upL (l : Lk) : Lk := ("upto", l.2.2, l.2.1)
def frL (l : Lk) : Lk := ("from", l.2.2 + 1, l.2.1 + 1)
def bkA (l : Lk) : List Lk := if l.1 = "upto" then [] else [upL l]
def bkB (l : Lk) : List Lk := if l.1 = "from" then [] else [frL l]
def bk1 (l : Lk) : List Lk := bkA l ++ bkB l
def bk (ls : List Lk) : List Lk := ls.flatMap bk1
theorem mem_bk {ls : List Lk} {q : Lk} : q ∈ bk ls ↔ ∃ l ∈ ls, (l.1 ≠ "upto" ∧ q = upL l) ∨ (l.1 ≠ "from" ∧ q = frL l) := by
  unfold bk
  rw [List.mem_flatMap]
  refine exists_congr fun l => and_congr_right fun _ => ?_
  unfold bk1 bkA bkB
  rw [List.mem_append]
  by_cases c1 : l.1 = "upto" <;> by_cases c2 : l.1 = "from" <;> simp [c1, c2]
theorem bk_word {ls : List Lk} {q : Lk} (h : q ∈ bk ls) : WordOk q.1 := by
  obtain ⟨l, _, ⟨_, rfl⟩ | ⟨_, rfl⟩⟩ := mem_bk.mp h
  · exact .inr (.inr rfl)
  · exact .inr (.inl rfl)
theorem bk_sized {ls : List Lk} {q : Lk} {n : Nat} (h : q ∈ bk ls) (hs : ∀ l ∈ ls, Sized n l) : Sized (n + 1) q := by
  obtain ⟨l, hl, ⟨_, rfl⟩ | ⟨_, rfl⟩⟩ := mem_bk.mp h
  · exact ⟨lt_up (hs l hl).2 (Nat.le_succ n), lt_up (hs l hl).1 (Nat.le_succ n)⟩
  · have one : ∀ a : Int, a.natAbs < 2 ^ n → (a + 1).natAbs < 2 ^ (n + 1) := fun a ha => by
      have h1 : 1 ≤ 2 ^ n := Nat.one_le_two_pow
      rw [Nat.pow_succ]; omega
    exact ⟨one _ (hs l hl).2, one _ (hs l hl).1⟩
theorem not_upto {x : Str} (h : WordOk x) (n : x ≠ "upto") : onSide "slow" x = true := by
  rcases h with rfl | rfl | rfl
  · decide +kernel
  · decide +kernel
  · exact absurd rfl n
theorem not_from {x : Str} (h : WordOk x) (n : x ≠ "from") : onSide "fast" x = true := by
  rcases h with rfl | rfl | rfl
  · decide +kernel
  · exact absurd rfl n
  · decide +kernel
theorem slow_from {x : Str} (h : onSide "slow" x = true) : x ≠ "upto" := by
  rintro rfl
  exact absurd h (by decide +kernel)
theorem fast_upto {x : Str} (h : onSide "fast" x = true) : x ≠ "from" := by
  rintro rfl
  exact absurd h (by decide +kernel)
theorem bk_slow {ls : List Lk} {q : Lk} (h : q ∈ bk ls) (s : onSide "slow" q.1 = true) : ∃ l ∈ ls, l.1 ≠ "from" ∧ q = frL l := by
  obtain ⟨l, hl, ⟨_, rfl⟩ | ⟨n, rfl⟩⟩ := mem_bk.mp h
  · exact absurd rfl (slow_from s)
  · exact ⟨l, hl, n, rfl⟩
theorem bk_fast {ls : List Lk} {q : Lk} (h : q ∈ bk ls) (s : onSide "fast" q.1 = true) : ∃ l ∈ ls, l.1 ≠ "upto" ∧ q = upL l := by
  obtain ⟨l, hl, ⟨n, rfl⟩ | ⟨_, rfl⟩⟩ := mem_bk.mp h
  · exact ⟨l, hl, n, rfl⟩
  · exact absurd rfl (fast_upto s)
theorem div_le {a L : Int} (hL : 0 < L) : a / L * L ≤ a := by
  have h1 := Int.mul_ediv_add_emod a L
  have h2 := Int.emod_nonneg a (show L ≠ 0 by omega)
  rw [Int.mul_comm] at h1
  omega
theorem le_div {a k L : Int} (hL : 0 < L) (h : k * L ≤ a) : k * L ≤ a / L * L := Int.mul_le_mul_of_nonneg_right ((Int.le_ediv_iff_mul_le hL).mpr h) (Int.le_of_lt hL)
theorem bk_far {L : Int} (hL : 0 < L) {ls : List Lk} (hw : ∀ l ∈ ls, WordOk l.1) (nc : ∀ a ∈ ls, ∀ b ∈ ls, clashB a b L = false) {p q : Lk} (hp : p ∈ bk ls) (hq : q ∈ bk ls) : tooFar p q L = false := by
  cases c : tooFar p q L with
  | false => rfl
  | true =>
    exfalso
    unfold tooFar at c
    rw [Bool.and_eq_true, Bool.and_eq_true, decide_eq_true_eq] at c
    obtain ⟨⟨c1, c2⟩, c3⟩ := c
    obtain ⟨b, hb, nb, rfl⟩ := bk_slow hp c1
    obtain ⟨a, ha, na, rfl⟩ := bk_fast hq c2
    rw [plc_slow] at c3
    have c3' : a.2.1 < b.2.1 + 1 + (a.2.2 - (b.2.2 + 1)) / L * L := c3
    have h1 := div_le (a := a.2.2 - (b.2.2 + 1)) hL
    generalize (a.2.2 - (b.2.2 + 1)) / L = k at c3' h1
    have h2 : (-k) * L ≤ b.2.1 - a.2.1 := by rw [Int.neg_mul]; omega
    have h3 := le_div hL h2
    rw [Int.neg_mul] at h3
    have h4 := nc a ha b hb
    unfold clashB tooFar at h4
    rw [not_upto (hw a ha) na, not_from (hw b hb) nb, Bool.true_and, Bool.true_and, plc_slow, Bool.or_eq_false_iff, decide_eq_false_iff_not] at h4
    exact h4.1 (by omega)
theorem bk_nc {L : Int} (hL : 0 < L) {ls : List Lk} (hw : ∀ l ∈ ls, WordOk l.1) (nc : ∀ a ∈ ls, ∀ b ∈ ls, clashB a b L = false) : ∀ p ∈ bk ls, ∀ q ∈ bk ls, clashB p q L = false := fun p hp q hq => by
  unfold clashB
  rw [bk_far hL hw nc hp hq, bk_far hL hw nc hq hp]; rfl
/-- where the least lands, the greatest of the hand led back comes from -/
theorem bk_in_fast {ls : List Lk} {x L m : Int} (h : IsBest "slow" (sideOf "slow" ls) x L m) : ∃ l ∈ ls, plc "slow" l x L = m ∧ upL l ∈ sideOf "fast" (bk ls) := by
  obtain ⟨⟨l, hl, em⟩, hb⟩ := h
  obtain ⟨hl1, hl2⟩ := mem_side.mp hl
  exact ⟨l, hl1, em, mem_side.mpr ⟨mem_bk.mpr ⟨l, hl1, .inl ⟨slow_from hl2, rfl⟩⟩, show onSide "fast" "upto" = true by decide +kernel⟩⟩
theorem bk_in_slow {ls : List Lk} {x L m : Int} (h : IsBest "fast" (sideOf "fast" ls) x L m) : ∃ l ∈ ls, plc "fast" l x L = m ∧ frL l ∈ sideOf "slow" (bk ls) := by
  obtain ⟨⟨l, hl, em⟩, hb⟩ := h
  obtain ⟨hl1, hl2⟩ := mem_side.mp hl
  exact ⟨l, hl1, em, mem_side.mpr ⟨mem_bk.mpr ⟨l, hl1, .inr ⟨fast_upto hl2, rfl⟩⟩, show onSide "slow" "from" = true by decide +kernel⟩⟩
theorem back_least1 {L : Int} (hL : 0 < L) {ls : List Lk} {x m : Int} (h : IsBest "slow" (sideOf "slow" ls) x L m) {u : V} (tu : Tells "fast" (bk ls) m L u) : ∃ a, u = .int a ∧ a ≤ x := by
  obtain ⟨l, _, em, hin⟩ := bk_in_fast h
  rcases tu with ⟨e, _⟩ | ⟨a, rfl, ba⟩
  · rw [e] at hin; cases hin
  refine ⟨a, rfl, ?_⟩
  have h1 := ba.2 _ hin
  rw [if_neg slow_ne, plc_fast] at h1
  have h1' : a ≤ l.2.1 - (l.2.2 - m) / L * L := h1
  rw [plc_slow] at em
  have e2 : l.2.2 - m = (-((x - l.2.1) / L)) * L := by rw [Int.neg_mul]; omega
  rw [e2, Int.mul_ediv_cancel _ (by omega : L ≠ 0), Int.neg_mul] at h1'
  have := div_le (a := x - l.2.1) hL
  omega
theorem back_least2 {L : Int} (hL : 0 < L) {ls : List Lk} (hw : ∀ l ∈ ls, WordOk l.1) {x m : Int} (h : IsBest "slow" (sideOf "slow" ls) x L m) {v : V} (tv : Tells "fast" (bk ls) (m + 1) L v) : ∃ b, v = .int b ∧ x < b := by
  obtain ⟨l, _, em, hin⟩ := bk_in_fast h
  rcases tv with ⟨e, _⟩ | ⟨b, rfl, bb⟩
  · rw [e] at hin; cases hin
  refine ⟨b, rfl, ?_⟩
  obtain ⟨⟨q, hq, eq⟩, _⟩ := bb
  obtain ⟨hq1, hq2⟩ := mem_side.mp hq
  obtain ⟨l', hl', n', rfl⟩ := bk_fast hq1 hq2
  rw [plc_fast] at eq
  have eq' : l'.2.1 - (l'.2.2 - (m + 1)) / L * L = b := eq
  have h1 := div_le (a := l'.2.2 - (m + 1)) hL
  generalize (l'.2.2 - (m + 1)) / L = k at eq' h1
  rcases Int.lt_or_le x b with z | z
  · exact z
  · exfalso
    have h2 := h.2 l' (mem_side.mpr ⟨hl', not_upto (hw l' hl') n'⟩)
    rw [if_pos rfl, plc_slow] at h2
    have h3 : (-k) * L ≤ x - l'.2.1 := by rw [Int.neg_mul]; omega
    have h4 := le_div hL h3
    rw [Int.neg_mul] at h4
    omega
theorem back_greatest1 {L : Int} (hL : 0 < L) {ls : List Lk} (hw : ∀ l ∈ ls, WordOk l.1) {x m : Int} (h : IsBest "fast" (sideOf "fast" ls) x L m) {u : V} (tu : Tells "slow" (bk ls) m L u) : ∃ a, u = .int a ∧ a ≤ x := by
  obtain ⟨l, _, em, hin⟩ := bk_in_slow h
  rcases tu with ⟨e, _⟩ | ⟨a, rfl, ba⟩
  · rw [e] at hin; cases hin
  refine ⟨a, rfl, ?_⟩
  obtain ⟨⟨q, hq, eq⟩, _⟩ := ba
  obtain ⟨hq1, hq2⟩ := mem_side.mp hq
  obtain ⟨l', hl', n', rfl⟩ := bk_slow hq1 hq2
  rw [plc_slow] at eq
  have eq' : l'.2.1 + 1 + (m - (l'.2.2 + 1)) / L * L = a := eq
  have h1 := div_le (a := m - (l'.2.2 + 1)) hL
  generalize (m - (l'.2.2 + 1)) / L = k at eq' h1
  rcases Int.lt_or_le x a with z | z
  · exfalso
    have h2 := h.2 l' (mem_side.mpr ⟨hl', not_from (hw l' hl') n'⟩)
    rw [if_neg slow_ne, plc_fast] at h2
    have h3 : (-k) * L ≤ l'.2.1 - x := by rw [Int.neg_mul]; omega
    have h4 := le_div hL h3
    rw [Int.neg_mul] at h4
    omega
  · exact z
theorem back_greatest2 {L : Int} (hL : 0 < L) {ls : List Lk} {x m : Int} (h : IsBest "fast" (sideOf "fast" ls) x L m) {v : V} (tv : Tells "slow" (bk ls) (m + 1) L v) : ∃ b, v = .int b ∧ x < b := by
  obtain ⟨l, _, em, hin⟩ := bk_in_slow h
  rcases tv with ⟨e, _⟩ | ⟨b, rfl, bb⟩
  · rw [e] at hin; cases hin
  refine ⟨b, rfl, ?_⟩
  have h1 := bb.2 _ hin
  rw [if_pos rfl, plc_slow] at h1
  have h1' : l.2.1 + 1 + (m + 1 - (l.2.2 + 1)) / L * L ≤ b := h1
  rw [plc_fast] at em
  have e2 : m + 1 - (l.2.2 + 1) = (-((l.2.1 - x) / L)) * L := by rw [Int.neg_mul]; omega
  rw [e2, Int.mul_ediv_cancel _ (by omega : L ≠ 0), Int.neg_mul] at h1'
  have := div_le (a := l.2.1 - x) hL
  omega
def spBack (Z : Ad) (K : PySem.W.Frag) : Sp := fun vs H Q _ => ∃ (d : Addr) (L : Int) (hs : List Lk), vs = [.ref d] ∧ DarkAt Z K H d L hs ∧ (∀ l ∈ hs, Sized 290 l) ∧ (∀ a ∈ hs, ∀ b ∈ hs, clashB a b L = false) ∧ (bk hs).length ≤ 58 ∧
  ∀ (H' : Hp) (b : Addr), H b = none → Same H H' → DarkAt Z K H' b L ((bk hs).foldl (heard L) []) → (∀ la dx, H' b = some (.ins Z.C dx (df L la)) → H la = none) → Q (.ref b) H'
theorem bk_take {ls : List Lk} {i : Nat} {l : Lk} (h : ls[i]? = some l) : bk (ls.take (i + 1)) = bk (ls.take i) ++ bk1 l := by
  rw [take_snoc h]; unfold bk; rw [List.flatMap_append]; simp
theorem bk_pre {ls : List Lk} (i : Nat) : ∃ r, bk ls = bk (ls.take i) ++ r := ⟨bk (ls.drop i), by unfold bk; rw [← List.flatMap_append, List.take_append_drop]⟩
section
variable {P : Program} {w : World} {K : PySem.W.Frag} {mg : Str → Option Value} {base : Heap} {Z : Ad}
theorem ok_Dark_led_back (T : Tx K w mg Z) : FnOk P w K mg base CX0 6 Z.a_Dark_led_back Z.d_Dark_led_back P_Dark_led_back (spBack Z K) := by
  refine T.F_Dark_led_back.ok scDark_led_back (fun vs H Q E h => ?_) (fun cdv A outer s H vs Q E hr h => ?_)
  · obtain ⟨d, L, hs, rfl, _⟩ := h
    rfl
  · obtain ⟨d, L, hs, rfl, D, hsz, hnc, hlen, k⟩ := h
    obtain ⟨dx, la, xs, h1, h2, h3⟩ := id D.ex
    have hL := D.pos
    have hwd : ∀ l ∈ hs, WordOk l.1 := fun l hl => (D.ok l hl).1
    have nc := bk_nc hL hwd hnc
    refine ⟨_, (pss_cons (ps_set (i := 1) scDark_led_back.nd rfl (Or.inl rfl) (pe_make T.mk_Dark (ok_Dark_init T) (hr.mono (by decide)) (by rfl) T.g_Dark T.bb_Dark_init .nil pass0 (pa_cons (fldK (K := K) (pv 0) rfl) pa_nil)))
      (pss_cons (ps_for PassesOwn.never rfl (pi_list (pe_meth0 (pv 0) T.cl T.m_Dark_looks (ok_Dark_looks T) (hr.mono (by decide)) T.bb_Dark_looks .nil pass0)) (tupK (K := K) (by rfl) (pgs_cons (pg_name (i := 2) scDark_led_back.nd rfl (Or.inl rfl)) (pgs_cons (pg_name (i := 3) scDark_led_back.nd rfl (Or.inl rfl)) (pgs_cons (pg_name (i := 4) scDark_led_back.nd rfl (Or.inl rfl)) pgs_nil)))) (C8.pss_cut (ps_if (pt_cmpR op_ne (pv 2) pe_str (nomark _)) (pss_one (ps_expr (pe_meth (pv 1) T.cl T.m_Dark_hear (ok_Dark_hear T) (hr.mono (by decide)) T.bb_Dark_hear .nil pass0 (pa_cons pe_str (pa_cons (pv 4) (pa_cons (pv 3) pa_nil)))))) pss_nil)
      (pss_one (ps_if (pt_cmpR op_ne (pv 2) pe_str (nomark _)) (pss_one (ps_expr (pe_meth (pv 1) T.cl T.m_Dark_hear (ok_Dark_hear T) (hr.mono (by decide)) T.bb_Dark_hear .nil pass0 (pa_cons pe_str (pa_cons (pe_op op_add (pv 4) pe_int) (pa_cons (pe_op op_add (pv 3) pe_int) pa_nil)))))) pss_nil))))
      (pss_one (ps_ret (pv 1))))), ?_⟩
    refine ⟨_, rfl, d, Z.C, dx, _, _, rfl, h1, T.cl, T.n_length, df_length _ _, fun b dxb hbn hbx hne => ?_⟩
    have S0 : Same H (upd (upd H dxb (.own b)) b (.ins Z.C dxb [])) := fun c o e => by
      rw [upd_ne (ne_of_none e hbn), upd_ne (ne_of_none e hbx)]; exact e
    refine ⟨b, dxb, L, rfl, upd_same, hL, D.big, fun H1 D1 f1 k1 => ⟨rfl, ?_⟩⟩
    have S1 : Same H H1 := fun c o e => k1 c o (S0 c o e) (ne_of_none e hbn)
    refine ⟨_, rfl, d, dx, _, rfl, S1 _ _ h1, df_no _ _ (by decide +kernel) (by decide +kernel), d, L, hs, rfl, D.same S1, fun p ys H2 hp S2 hp1 hp2 => ?_⟩
    have hpb : p ≠ b := by
      rintro rfl
      obtain ⟨dx1, la1, vs1, g1, _⟩ := D1.ex
      rw [hp] at g1; cases g1
    have hyl : ys.length = hs.length := by rw [dpAll_len hp2, List.length_map]
    have F2 : ∀ la dx, H2 b = some (.ins Z.C dx (df L la)) → H la = none := fun la2 dx2 e => by
      obtain ⟨dx1, la1, vs1, g1, _⟩ := D1.ex
      have e2 := S2 _ _ g1
      rw [e] at e2
      rw [df_inj e2]
      exact S0.free (f1 la1 dx1 g1)
    obtain ⟨dx1, la1, vs1, g1, _⟩ := id (D1.same S2).ex
    have tups : ∀ {H'}, (∀ c o, H2 c = some o → c ≠ b → H' c = some o) → Tups H2 H' := fun kb c zs hc => by
      have hcb : c ≠ b := by
        rintro rfl
        rcases hc with e | ⟨q, e⟩ <;> rw [g1] at e <;> cases e
      rcases hc with e | ⟨q, e⟩
      · exact .inl (kb _ _ e hcb)
      · exact .inr ⟨q, kb _ _ e hcb⟩
    -- one more is heard
    have one : ∀ {H' : Hp} {pr : List Lk} {q : Lk}, (∀ o ∈ pr, o ∈ bk hs) → q ∈ bk hs → pr.length < 58 → (∀ c o, H2 c = some o → c ≠ b → H' c = some o) → (∀ la dx, H' b = some (.ins Z.C dx (df L la)) → H la = none) →
        (pr.foldl (heard L) []).length < 60 ∧ (∀ o ∈ pr.foldl (heard L) [], clashB (home L q) o L = false) ∧
        ∀ H'', DarkAt Z K H'' b L (heard L (pr.foldl (heard L) []) q) → (∀ la dx, H'' b = some (.ins Z.C dx (df L la)) → (∃ dx', H' b = some (.ins Z.C dx' (df L la))) ∨ H' la = none) → (∀ c o, H' c = some o → c ≠ b → H'' c = some o) →
          (∀ c o, H2 c = some o → c ≠ b → H'' c = some o) ∧ DarkAt Z K H'' b L ((pr ++ [q]).foldl (heard L) []) ∧ ∀ la dx, H'' b = some (.ins Z.C dx (df L la)) → H la = none := by
      intro H' pr q hpr hq hl kb F
      have hfl := fold_len (L := L) pr []
      have S : Same H H' := fun c o e => kb c o ((S1.trans S2) _ _ e) (ne_of_none e hbn)
      refine ⟨by simp at hfl; omega, fun o ho => ?_, fun H'' D'' f'' k'' => ⟨fun c o e hc => k'' c o (kb c o e hc) hc, ?_, fun la dx e => ?_⟩⟩
      · obtain h | ⟨r, hr, e⟩ := (fold_mem _ _ _).mp ho
        · cases h
        · rw [e, clash_home hL]
          exact nc q hq r (hpr r hr)
      · rw [List.foldl_append]; exact D''
      · rcases f'' la dx e with ⟨dx', h⟩ | h
        · exact F la dx' h
        · exact S.free h
    refine ⟨p, rfl, ⟨_, SqL.of hp1⟩, ?_⟩
    refine for_list (K := K) (a := p) (xs := ys) (fun i σ' H' => ∃ u2 u3 u4, σ' = [some (.ref d), some (.ref b), u2, u3, u4] ∧ (∀ c o, H2 c = some o → c ≠ b → H' c = some o) ∧ DarkAt Z K H' b L ((bk (hs.take i)).foldl (heard L) []) ∧ ∀ la dx, H' b = some (.ins Z.C dx (df L la)) → H la = none) ⟨none, none, none, rfl, fun _ _ e _ => e, D1.same S2, F2⟩ (fun i σ' H' _ ⟨_, _, _, _, kb, _⟩ => SqL.of (kb _ _ hp1 hpb)) ?_ ?_
    · rintro i y σ' H' hi ⟨u2, u3, u4, rfl, kb, DD, F⟩
      obtain ⟨e, hdi, hdy⟩ := dpAll_get hp2 hi
      obtain ⟨l, hl, rfl⟩ := map_at hdi
      have hlm := List.mem_of_getElem? hl
      obtain ⟨pp, rfl, hpp⟩ := dp_look (dp_tups (tups kb) _ _ rfl hdy)
      obtain ⟨r, er⟩ := bk_pre (ls := hs) (i + 1)
      have tk := bk_take hl
      rw [tk] at er
      have inA : ∀ o ∈ bk (hs.take i) ++ bkA l, o ∈ bk hs := fun o ho => by
        rw [er]
        unfold bk1
        simp only [List.mem_append] at ho ⊢
        rcases ho with h | h
        · exact .inl (.inl h)
        · exact .inl (.inr (.inl h))
      have lenA : (bk (hs.take i)).length + (bkA l).length + (bkB l).length ≤ 58 := by
        rw [er] at hlen
        unfold bk1 at hlen
        simp only [List.length_append] at hlen
        omega
      refine ⟨_, _, rfl, hpp, rfl, _, _, rfl, _, _, rfl, _, _, rfl, rfl, ?_⟩
      refine ⟨fun σ' H' => σ' = [some (.ref d), some (.ref b), some (.str l.1), some (.int l.2.1), some (.int l.2.2)] ∧ (∀ c o, H2 c = some o → c ≠ b → H' c = some o) ∧ DarkAt Z K H' b L ((bk (hs.take i) ++ bkA l).foldl (heard L) []) ∧ ∀ la dx, H' b = some (.ins Z.C dx (df L la)) → H la = none, ?_, ?_⟩
      · refine ⟨_, rfl, rfl, _, rfl, ?_⟩
        by_cases c : l.1 = "upto"
        · have e1 : bkA l = [] := if_pos c
          rw [e1, List.append_nil]
          have e2 : (!decide (V.str l.1 = V.str "upto")) = false := by rw [c]; simp
          rw [e2]
          exact iteF ⟨rfl, kb, DD, F⟩
        · have e1 : bkA l = [upL l] := if_neg c
          rw [e1]
          rw [e1] at inA lenA
          have e2 : (!decide (V.str l.1 = V.str "upto")) = true := by
            rw [Bool.not_eq_true', decide_eq_false_iff_not]
            exact fun e => c (V.str.inj e)
          rw [e2]
          obtain ⟨dxq, laq, vsq, gq, _⟩ := id DD.ex
          refine iteT ⟨_, rfl, b, dxq, _, rfl, gq, df_no _ _ (by decide +kernel) (by decide +kernel), _, rfl, _, rfl, ?_⟩
          have hq : upL l ∈ bk hs := inA _ (by simp)
          obtain ⟨o1, o2, o3⟩ := one (q := upL l) (fun o ho => inA o (List.mem_append_left _ ho)) hq (by simp at lenA; omega) kb F
          refine ⟨b, L, _, upL l, rfl, DD, bk_word hq, (bk_sized hq hsz).up (by decide), o1, o2, fun H'' D'' f'' k'' => ?_⟩
          obtain ⟨x1, x2, x3⟩ := o3 H'' D'' f'' k''
          exact ⟨rfl, x1, x2, x3⟩
      · rintro σ' H3 ⟨rfl, kb3, D3, F3⟩
        refine ⟨_, rfl, rfl, _, rfl, ?_⟩
        by_cases c : l.1 = "from"
        · have e1 : bkB l = [] := if_pos c
          have e2 : (!decide (V.str l.1 = V.str "from")) = false := by rw [c]; simp
          rw [e2]
          refine iteF ⟨_, _, _, rfl, kb3, ?_, F3⟩
          rw [tk]
          unfold bk1
          rw [e1, List.append_nil]; exact D3
        · have e1 : bkB l = [frL l] := if_neg c
          rw [e1] at lenA
          have e2 : (!decide (V.str l.1 = V.str "from")) = true := by
            rw [Bool.not_eq_true', decide_eq_false_iff_not]
            exact fun e => c (V.str.inj e)
          rw [e2]
          obtain ⟨dxq, laq, vsq, gq, _⟩ := id D3.ex
          refine iteT ⟨_, rfl, b, dxq, _, rfl, gq, df_no _ _ (by decide +kernel) (by decide +kernel), _, rfl, _, _, rfl, rfl, _, rfl, _, _, rfl, rfl, ?_⟩
          have hq : frL l ∈ bk hs := mem_bk.mpr ⟨l, hlm, .inr ⟨c, rfl⟩⟩
          obtain ⟨o1, o2, o3⟩ := one (q := frL l) inA hq (by simp at lenA ⊢; omega) kb3 F3
          refine ⟨b, L, _, frL l, rfl, D3, bk_word hq, (bk_sized hq hsz).up (by decide), o1, o2, fun H'' D'' f'' k'' => ?_⟩
          obtain ⟨x1, x2, x3⟩ := o3 H'' D'' f'' k''
          refine ⟨_, _, _, rfl, x1, ?_, x3⟩
          rw [tk]
          unfold bk1
          rw [e1, ← List.append_assoc]; exact x2
    · rintro σ' H' ⟨u2, u3, u4, rfl, kb, DD, F⟩
      rw [List.take_of_length_le (by rw [hyl]; exact Nat.le_refl _)] at DD
      exact ⟨_, rfl, k H' b hbn (fun c o e => kb c o ((S1.trans S2) _ _ e) (ne_of_none e hbn)) DD F⟩
end
end KA
namespace KA
open PySem PySem.Spec PyProof.Rows L2 DP
/-- what stood stands, but at t and g -/
def Keep (t g : Addr) (H H' : Hp) : Prop := ∀ b o, H b = some o → b ≠ t → b ≠ g → H' b = some o
theorem Keep.refl (t g : Addr) (H : Hp) : Keep t g H H := fun _ _ h _ _ => h
theorem Keep.trans {t g : Addr} {H H1 H2 : Hp} (a : Keep t g H H1) (b : Keep t g H1 H2) : Keep t g H H2 := fun c o h x y => b c o (a c o h x y) x y
/-- the deck: at t, its great numbers at g; no more than n draws so far went by the fold -/
structure Tray (H : Hp) (t g : Addr) (n : Nat) : Prop where
  ex : ∃ (gs : List Int) (f c : Int), H t = some (.lst [.ref g, .int f, .int c]) ∧ H g = some (.lst (gs.map V.int)) ∧ gs.length ≤ 63 ∧ (∀ x ∈ gs, 0 ≤ x) ∧ 0 ≤ f ∧ f < 2 ^ 61 ∧ 0 ≤ c ∧ c ≤ (n : Int)
  ne : t ≠ g
theorem Tray.same {H H' : Hp} {t g : Addr} {n : Nat} (T : Tray H t g n) (S : Same H H') : Tray H' t g n := by
  obtain ⟨⟨gs, f, c, h1, h2, r⟩, hne⟩ := T
  exact ⟨⟨gs, f, c, S _ _ h1, S _ _ h2, r⟩, hne⟩
theorem Keep.of_same {t g : Addr} {H H' : Hp} (S : Same H H') : Keep t g H H' := fun b o e _ _ => S b o e
theorem shaped_ints (ns : List Int) : SeqAt.shaped (.list (ns.map .int)) = true := by
  have h1 : ∀ ns : List Int, PyData.canLayAll0 (ns.map .int) = true := by
    intro ns
    induction ns with
    | nil => rfl
    | cons a r ih => simp [PyData.canLayAll0, PyData.canLay0, ih]
  have h2 : ∀ ns : List Int, PyData.depthAll (ns.map .int) = 0 := PySem.W.depth_ints
  unfold SeqAt.shaped
  simp [PyData.canLay0, PyData.depth, h1, h2]
theorem pow_lt {i : Int} {a n : Nat} (h : i.natAbs < 2 ^ a) (h0 : n ≠ 0) : (i ^ n).natAbs < 2 ^ (a * n) := by
  rw [Int.natAbs_pow, Nat.pow_mul]
  exact Nat.pow_lt_pow_left h h0
theorem while_post {c : TT} {tb : TS} {D : Ends} {σ : L2.St} {H : Hp} (Pv : L2.St → Hp → Prop) (μ : L2.St → Hp → Nat) (Po : L2.St → Hp → Prop) (h0 : Pv σ H)
    (hs : ∀ σ H, Pv σ H → c σ H fun b H1 => if b = true then tb { D with nx := fun σ' H' => Pv σ' H' ∧ μ σ' H' < μ σ H, ct := fun σ' H' => Pv σ' H' ∧ μ σ' H' < μ σ H, bk := D.nx } σ H1 else Po σ H1)
    (hd : ∀ σ H, Po σ H → D.nx σ H) (mono : ∀ σ H Q Q', (∀ b H1, Q b H1 → Q' b H1) → c σ H Q → c σ H Q') : tWhile c tb D σ H :=
  while_by Pv μ h0 (fun σ1 H1 p => mono σ1 H1 _ _ (fun b H2 q => by
    cases b with
    | true => exact q
    | false => exact hd _ _ q) (hs σ1 H1 p)) mono
theorem Tray.up {H : Hp} {t g : Addr} {m n : Nat} (T : Tray H t g m) (h : m ≤ n) : Tray H t g n := by
  obtain ⟨⟨gs, f, c, h1, h2, hl, hge, hf0, hf1, hc0, hc1⟩, hne⟩ := T
  exact ⟨⟨gs, f, c, h1, h2, hl, hge, hf0, hf1, hc0, by omega⟩, hne⟩
def spDeck (K : PySem.W.Frag) : Sp := fun vs H Q _ => ∃ (a : Addr) (ns : List Int), vs = [.ref a] ∧ SqL K H a (ns.map V.int) ∧ ns.length ≤ 63 ∧ ∀ (H' : Hp) (t g : Addr), Tray H' t g 0 → Same H H' → H t = none → H g = none → Q (.ref t) H'
def spTake : Sp := fun vs H Q _ => ∃ (t g : Addr) (n : Nat) (m : Int), vs = [.ref t, .int m] ∧ Tray H t g n ∧ 0 < m ∧ m.natAbs < 2 ^ 1000 ∧ n < 2 ^ 60 ∧
  ∀ (H' : Hp) (r : Int), 0 ≤ r → r < m → Tray H' t g (n + 1) → Keep t g H H' → Q (.int r) H'
theorem neg1 {gs : List Int} {y : Int} : atI ((gs ++ [y]).map V.int) (-1) = some (.int y) := by
  rw [atI_last (by simp), List.length_map, List.length_append, List.length_singleton, Nat.add_sub_cancel, List.getElem?_map, List.getElem?_append_right (Nat.le_refl _), Nat.sub_self]; rfl
theorem snoc_of {α : Type} : ∀ {l : List α}, l ≠ [] → ∃ a b, l = a ++ [b] := fun {l} h => ⟨l.dropLast, l.getLast h, (List.dropLast_concat_getLast h).symm⟩
section
variable {P : Program} {w : World} {K : PySem.W.Frag} {mg : Str → Option Value} {base : Heap} {Z : Ad}
theorem ok_law_deck (T : Tx K w mg Z) : FnOk P w K mg base CX0 1 Z.a_law_deck Z.d_law_deck P_law_deck (spDeck K) := by
  refine T.F_law_deck.ok sclaw_deck (fun vs H Q E h => ?_) (fun cdv A outer s H vs Q E hr h => ?_)
  · obtain ⟨a, ns, rfl, _⟩ := h
    rfl
  · obtain ⟨a, ns, rfl, hS, hlen, k⟩ := h
    refine ⟨_, (pss_cons (ps_set (i := 1) sclaw_deck.nd rfl (Or.inl rfl) (pe_lst pa_nil))
      (pss_cons (ps_set (i := 2) sclaw_deck.nd rfl (Or.inl rfl) pe_int)
      (pss_cons (ps_for PassesOwn.never rfl (pi_list (pv 0)) (pg_name (i := 3) sclaw_deck.nd rfl (Or.inl rfl)) (pss_cons (ps_set (i := 2) sclaw_deck.nd rfl (Or.inl rfl) (pe_op op_mod (pe_op op_add (pe_op op_mulW (pv 2) pe_int) (pv 3)) pe_int))
      (pss_one (ps_if (pt_cmpR op_ge (pe_callB call_abs (by rfl) T.b_abs (by decide +kernel) (pa_cons (pv 3) pa_nil)) (pe_op op_pow pe_int pe_int) (nomark _)) (pss_one (ps_expr (pe_bm PySem.F.plainAttrs_list PySem.F.slot_list_insert PySem.F.type_list_insert mt_insert (pv 1) (pa_cons pe_int (pa_cons (pe_op op_sub (pe_callB call_abs (by rfl) T.b_abs (by decide +kernel) (pa_cons (pv 3) pa_nil)) (pe_op op_pow pe_int pe_int)) pa_nil))))) pss_nil))))
      (pss_one (ps_ret (pe_lst (pa_cons (pv 1) (pa_cons (pv 2) (pa_cons pe_int pa_nil))))))))), ?_⟩
    refine ⟨(by show 0 ≤ sizeLine; decide), fun G hG => ?_⟩
    refine ⟨_, rfl, a, rfl, ⟨_, Same.sqL (same_upd hG) hS⟩, ?_⟩
    refine for_list (K := K) (a := a) (xs := ns.map V.int) (fun i σ' H' => ∃ (gs : List Int) (f : Int) (u : Option V), σ' = [some (.ref a), some (.ref G), some (.int f), u] ∧ Same H H' ∧ H' G = some (.lst (gs.map V.int)) ∧ gs.length ≤ i ∧ (∀ x ∈ gs, 0 ≤ x) ∧ 0 ≤ f ∧ f < 2 ^ 61)
      ⟨[], 11, none, rfl, same_upd hG, upd_same, Nat.le_refl _, (fun _ z => absurd z (by simp)), by decide, by decide⟩ (fun i σ' H' _ ⟨_, _, _, _, S, _⟩ => Same.sqL S hS) ?_ ?_
    · rintro i y σ' H' hi ⟨gs, f, u, rfl, S, hg, hgl, hge, hf0, hf1⟩
      obtain ⟨z, hz, rfl⟩ := map_at hi
      have hi63 : i < 63 := by
        have := (List.getElem?_eq_some_iff.mp hz).1
        omega
      have bf : f.natAbs < 2 ^ 61 := by omega
      refine ⟨_, rfl, _, _, rfl, rfl, wide_mul (b := 30) bf (by decide) (by decide) (by decide) (by decide), _, rfl, _, _, rfl, rfl, _, _, rfl, rfl, (by show (0 : Int) < _; decide), ?_⟩
      have hx0 := Int.emod_nonneg (f * 1000003 + z) (show (2305843009213693951 : Int) ≠ 0 by decide)
      have hx1 := Int.emod_lt_of_pos (f * 1000003 + z) (show (0 : Int) < 2305843009213693951 by decide)
      refine ⟨_, rfl, _, rfl, _, _, rfl, rfl, ⟨by decide, by decide, by decide⟩, _, _, rfl, rfl, _, rfl, ?_⟩
      refine ite2 (fun c => ?_) (fun _ => ?_)
      · have c' := of_decide_eq_true c
        refine ⟨_, rfl, .inl ⟨rfl, _, SqL.of hg⟩, _, rfl, _, rfl, _, _, rfl, rfl, ⟨by decide, by decide, by decide⟩, _, _, rfl, rfl, G, _, 0, _, rfl, rfl, hg, ?_, by decide, by decide, ?_⟩
        · exact small1000 (by simp; omega)
        · refine ⟨((if z < 0 then -z else z) - 10 ^ (18 : Int).toNat) :: gs, _, _, rfl, same_set S hG, ?_, ?_, ?_, hx0, by omega⟩
          · exact upd_same
          · simp; omega
          · intro x hx
            rcases List.mem_cons.mp hx with h | h
            · subst h
              omega
            · exact hge x h
      · exact ⟨gs, _, _, rfl, S, hg, by omega, hge, hx0, by omega⟩
    · rintro σ' H' ⟨gs, f, u, rfl, S, hg, hgl, hge, hf0, hf1⟩
      refine ⟨_, rfl, _, rfl, (by show 3 ≤ sizeLine; decide), fun t ht => ?_⟩
      have hgt : G ≠ t := ne_of_none hg ht
      refine k _ t G ⟨⟨gs, f, 0, upd_same, (upd_ne hgt).trans hg, ?_, hge, hf0, hf1, Int.le_refl _, Int.le_refl _⟩, Ne.symm hgt⟩ (same_set S (S.free ht)) (S.free ht) hG
      rw [List.length_map] at hgl
      omega
theorem ok_law_take (T : Tx K w mg Z) : FnOk P w K mg base CX0 1 Z.a_law_take Z.d_law_take P_law_take (spTake) := by
  refine T.F_law_take.ok sclaw_take (fun vs H Q E h => ?_) (fun cdv A outer s H vs Q E hr h => ?_)
  · obtain ⟨t, g, n, m, rfl, _⟩ := h
    rfl
  · obtain ⟨t, g, n, m, rfl, ⟨ht, hne⟩, hm, hmb, hn, k⟩ := h
    refine ⟨_, (C8.pss_cut (ps_while PassesOwn.never (PW.pt (pw_and (pt_cmpR (neDK (K := K) hr.units) (pe_ix (ixL (K := K)) (pv 0) pe_int (fun _ _ => rfl)) (pe_lst pa_nil) (nomark _)) (pw_and1 (pt_cmpR op_lt (pe_ix (ixL (K := K)) (pe_ix (ixL (K := K)) (pv 0) pe_int (fun _ _ => rfl)) (pe_un un_neg pe_int) (fun _ _ => rfl)) pe_int (nomark _))))) (pss_one (ps_expr (pe_bm0 PySem.F.plainAttrs_list PySem.F.slot_list_pop PySem.F.type_list_pop mt_pop (pe_ix (ixL (K := K)) (pv 0) pe_int (fun _ _ => rfl))))))
      (C8.pss_cut (ps_if (pt_cmpR (neDK (K := K) hr.units) (pe_ix (ixL (K := K)) (pv 0) pe_int (fun _ _ => rfl)) (pe_lst pa_nil) (nomark _)) (pss_cons (ps_set (i := 2) sclaw_take.nd rfl (Or.inl rfl) (pe_op op_mod (pe_ix (ixL (K := K)) (pe_ix (ixL (K := K)) (pv 0) pe_int (fun _ _ => rfl)) (pe_un un_neg pe_int) (fun _ _ => rfl)) (pv 1)))
      (pss_cons (ps_asg (pe_op op_fdivW (pe_ix (ixL (K := K)) (pe_ix (ixL (K := K)) (pv 0) pe_int (fun _ _ => rfl)) (pe_un un_neg pe_int) (fun _ _ => rfl)) (pv 1)) (pg_sub (pe_ix (ixL (K := K)) (pv 0) pe_int (fun _ _ => rfl)) (pe_un un_neg pe_int) set_list))
      (pss_one (ps_ret (pv 2))))) pss_nil)
      (pss_cons (ps_asg (pe_op op_add (pe_ix (ixL (K := K)) (pv 0) pe_int (fun _ _ => rfl)) pe_int) (pg_sub (pv 0) pe_int set_list))
      (pss_cons (ps_set (i := 3) sclaw_take.nd rfl (Or.inl rfl) (pe_ix (ixL (K := K)) (pv 0) pe_int (fun _ _ => rfl)))
      (pss_cons (ps_set (i := 4) sclaw_take.nd rfl (Or.inl rfl) (pe_op op_add (pe_op op_mulW (pe_op op_add (pe_ix (ixL (K := K)) (pv 0) pe_int (fun _ _ => rfl)) pe_int) (pe_op op_pow (pe_op op_add (pv 3) pe_int) pe_int)) (pe_op op_mulW pe_int (pv 3))))
      (pss_one (ps_ret (pe_op op_mod (pe_op op_fdivW (pe_op op_mod (pe_op op_pow (pe_op op_mod (pv 4) pe_int) pe_int) pe_int) pe_int) (pv 1))))))))), ?_⟩
    -- while deck[0] != [] and deck[0][-1] < 2
    refine ⟨fun σ' H' => σ' = [some (.ref t), some (.int m), none, none, none] ∧ Tray H' t g n ∧ Keep t g H H', ?_, ?_⟩
    · refine while_post (fun σ' H' => σ' = [some (.ref t), some (.int m), none, none, none] ∧ Tray H' t g n ∧ Keep t g H H') (fun _ H' => lenAt H' g) (fun σ' H' => σ' = [some (.ref t), some (.int m), none, none, none] ∧ Tray H' t g n ∧ Keep t g H H') ⟨rfl, ⟨ht, hne⟩, Keep.refl _ _ _⟩ ?_ (fun _ _ q => q) ?_
      · rintro σ1 H1 ⟨rfl, ⟨⟨gs, f, c, h1, h2, hl, hge, hf0, hf1, hc0, hc1⟩, _⟩, kp⟩
        refine ⟨_, rfl, _, _, _, _, rfl, rfl, SqL.of h1, rfl, (by show 0 ≤ sizeLine; decide), fun p hp => ?_⟩
        have g2 : (upd H1 p (.lst [])) g = some (.lst (gs.map V.int)) := (upd_ne (ne_of_none h2 hp)).trans h2
        have g1 : (upd H1 p (.lst [])) t = some (.lst [.ref g, .int f, .int c]) := (upd_ne (ne_of_none h1 hp)).trans h1
        have kp1 : Keep t g H (upd H1 p (.lst [])) := fun b o e n1 n2 => (upd_ne (ne_of_none (kp b o e n1 n2) hp)).trans (kp b o e n1 n2)
        refine ⟨_, _, .lst (SqL.of g2) (dpAll_ints gs), .lst (SqL.of upd_same) .nil, shaped_ints gs, rfl, _, rfl, ?_⟩
        by_cases hnil : gs = []
        · subst hnil
          exact iteF ⟨rfl, ⟨⟨[], f, c, g1, g2, hl, hge, hf0, hf1, hc0, hc1⟩, hne⟩, kp1⟩
        · obtain ⟨ys, y, rfl⟩ := snoc_of hnil
          have e : (!PyData.eqv (.list ((ys ++ [y]).map PyData.int)) (.list [])) = true := by
            cases ys <;> rfl
          refine ite2 (fun _ => ?_) (fun c => absurd e c)
          refine ⟨_, rfl, _, _, _, _, rfl, rfl, SqL.of g1, rfl, _, rfl, _, _, _, _, rfl, rfl, SqL.of g2, neg1, _, _, rfl, rfl, _, rfl, ?_⟩
          refine ite2 (fun _ => ?_) (fun c => ?_)
          · refine ⟨_, rfl, _, _, _, _, rfl, rfl, SqL.of g1, rfl, .inl ⟨rfl, _, SqL.of g2⟩, g, _, V.int y, rfl, rfl, g2, by simp, ?_⟩
            have ed : ((ys ++ [y]).map V.int).dropLast = ys.map V.int := by simp
            rw [ed]
            refine ⟨⟨rfl, ⟨⟨ys, f, c, (upd_ne hne).trans g1, upd_same, ?_, fun x hx => hge x (List.mem_append_left _ hx), hf0, hf1, hc0, hc1⟩, hne⟩, fun b o e' n1 n2 => (upd_ne n2).trans (kp1 b o e' n1 n2)⟩, ?_⟩
            · simp at hl; omega
            · rw [lenAt_of upd_same, lenAt_of h2]; simp
          · exact ⟨rfl, ⟨⟨ys ++ [y], f, _, g1, g2, hl, hge, hf0, hf1, hc0, hc1⟩, hne⟩, kp1⟩
      · intro σ1 H1 Q1 Q2 hQ hc
        obtain ⟨v, hv, p, xs, i, x, e1, e2, hs, ha, hz, hp⟩ := hc
        refine ⟨v, hv, p, xs, i, x, e1, e2, hs, ha, hz, fun p' np => ?_⟩
        obtain ⟨d, e, d1, d2, s1, s2, b, eb, q⟩ := hp p' np
        refine ⟨d, e, d1, d2, s1, s2, b, eb, ?_⟩
        cases b with
        | false => exact hQ _ _ q
        | true =>
          obtain ⟨a1, a2, a3, a4, a5, a6, a7, a8, a9, a10, a11, a12, a13, a14, a15, a16, a17, a18, a19, a20, a21, a22, a23, a24, a25, a26, q⟩ := q
          exact ⟨a1, a2, a3, a4, a5, a6, a7, a8, a9, a10, a11, a12, a13, a14, a15, a16, a17, a18, a19, a20, a21, a22, a23, a24, a25, a26, hQ _ _ q⟩
    · rintro σ1 H1 ⟨rfl, ⟨⟨gs, f, c, h1, h2, hl, hge, hf0, hf1, hc0, hc1⟩, _⟩, kp⟩
      refine ⟨fun σ' H' => σ' = [some (.ref t), some (.int m), none, none, none] ∧ Tray H' t g n ∧ Keep t g H H', ?_, ?_⟩
      · refine ⟨_, rfl, _, _, _, _, rfl, rfl, SqL.of h1, rfl, (by show 0 ≤ sizeLine; decide), fun p hp => ?_⟩
        have g2 : (upd H1 p (.lst [])) g = some (.lst (gs.map V.int)) := (upd_ne (ne_of_none h2 hp)).trans h2
        have g1 : (upd H1 p (.lst [])) t = some (.lst [.ref g, .int f, .int c]) := (upd_ne (ne_of_none h1 hp)).trans h1
        have kp1 : Keep t g H (upd H1 p (.lst [])) := fun b o e n1 n2 => (upd_ne (ne_of_none (kp b o e n1 n2) hp)).trans (kp b o e n1 n2)
        refine ⟨_, _, .lst (SqL.of g2) (dpAll_ints gs), .lst (SqL.of upd_same) .nil, shaped_ints gs, rfl, _, rfl, ?_⟩
        by_cases hnil : gs = []
        · subst hnil
          exact iteF ⟨rfl, ⟨⟨[], f, c, g1, g2, hl, hge, hf0, hf1, hc0, hc1⟩, hne⟩, kp1⟩
        · obtain ⟨ys, y, rfl⟩ := snoc_of hnil
          have e : (!PyData.eqv (.list ((ys ++ [y]).map PyData.int)) (.list [])) = true := by
            cases ys <;> rfl
          refine ite2 (fun _ => ?_) (fun c => absurd e c)
          generalize upd H1 p (.lst []) = H2 at g1 g2 kp1 ⊢
          refine ⟨_, rfl, _, _, _, _, rfl, rfl, SqL.of g1, rfl, _, rfl, _, _, _, _, rfl, rfl, SqL.of g2, neg1, _, rfl, _, _, rfl, rfl, hm, ?_⟩
          refine ⟨_, rfl, _, _, _, _, rfl, rfl, SqL.of g1, rfl, _, rfl, _, _, _, _, rfl, rfl, SqL.of g2, neg1, _, rfl, _, _, rfl, rfl, wide_div hm hmb (by decide) (by decide), _, rfl, _, _, _, _, rfl, rfl, SqL.of g1, rfl, _, rfl, _, _, _, ys.length, rfl, rfl, g2, ?_, _, rfl, ?_⟩
          · unfold ixN
            have hlen : ((ys ++ [y]).map V.int).length = ys.length + 1 := by simp
            rw [hlen, if_neg (by decide), if_pos (by omega)]
            congr 1
            omega
          have es : ((ys ++ [y]).map V.int).set ys.length (V.int (y / m)) = (ys ++ [y / m]).map V.int := by
            rw [List.map_append, List.set_append_right (h := by simp)]; simp
          rw [es]
          refine k _ _ (Int.emod_nonneg _ (by omega)) (Int.emod_lt_of_pos _ hm) ⟨⟨ys ++ [y / m], f, c, (upd_ne hne).trans g1, upd_same, ?_, ?_, hf0, hf1, hc0, by push_cast; omega⟩, hne⟩ fun b o e n1 n2 => (upd_ne n2).trans (kp1 b o e n1 n2)
          · simp at hl ⊢; omega
          · intro x hx
            rcases List.mem_append.mp hx with h | h
            · exact hge x (List.mem_append_left _ h)
            · rw [List.mem_singleton] at h
              subst h
              exact Int.ediv_nonneg (hge y (by simp)) (by omega)
      · rintro σ2 H2 ⟨rfl, ⟨⟨gs, f, c, h1, h2, hl, hge, hf0, hf1, hc0, hc1⟩, _⟩, kp⟩
        refine ⟨_, rfl, _, _, _, _, rfl, rfl, SqL.of h1, rfl, _, _, rfl, rfl, _, rfl, _, _, _, 2, rfl, rfl, h1, rfl, ?_⟩
        have g1 : (upd H2 t (.lst (List.set [.ref g, .int f, .int c] 2 (.int (c + 1))))) t = some (.lst [.ref g, .int f, .int (c + 1)]) := upd_same
        have bf : (f + 40503).natAbs < 2 ^ 63 := by omega
        have bc : (c + 1 + 5).natAbs < 2 ^ 61 := by omega
        have b3 : ((c + 1 + 5) ^ (3 : Int).toNat).natAbs < 2 ^ (61 * 3) := pow_lt bc (by decide)
        refine ⟨_, rfl, _, _, _, _, rfl, rfl, SqL.of g1, rfl, ?_⟩
        refine ⟨_, rfl, _, _, _, _, rfl, rfl, SqL.of g1, rfl, _, _, rfl, rfl, _, rfl, _, _, rfl, rfl, _, _, rfl, rfl, ⟨by decide, by decide, Nat.lt_trans bc (by decide)⟩, _, _, rfl, rfl, wide_mul bf b3 (by decide) (by decide) (by decide), ?_⟩
        refine ⟨_, rfl, _, _, rfl, rfl, wide_mul (a := 30) (b := 61) (by decide) (by omega) (by decide) (by decide) (by decide), _, _, rfl, rfl, ?_⟩
        have hx0 := Int.emod_nonneg ((f + 40503) * (c + 1 + 5) ^ (3 : Int).toNat + 69621 * (c + 1)) (show (2305843009213693951 : Int) ≠ 0 by decide)
        have hx1 := Int.emod_lt_of_pos ((f + 40503) * (c + 1 + 5) ^ (3 : Int).toNat + 69621 * (c + 1)) (show (0 : Int) < 2305843009213693951 by decide)
        refine ⟨_, rfl, _, _, rfl, rfl, (by show (0 : Int) < _; decide), _, _, rfl, rfl, ⟨by decide, by decide, ?_⟩, _, _, rfl, rfl, (by show (0 : Int) < _; decide), _, _, rfl, rfl, wide_div (b := 10) (by decide) (by decide) (by decide) (by decide), _, rfl, _, _, rfl, rfl, hm, ?_⟩
        · show (((f + 40503) * (c + 1 + 5) ^ (3 : Int).toNat + 69621 * (c + 1)) % 2305843009213693951).natAbs < 2 ^ 64
          omega
        · refine k _ _ (Int.emod_nonneg _ (by omega)) (Int.emod_lt_of_pos _ hm) ⟨⟨gs, f, c + 1, g1, (upd_ne (Ne.symm hne)).trans h2, hl, hge, hf0, hf1, by omega, by push_cast; omega⟩, hne⟩ fun b o e n1 n2 => (upd_ne n1).trans (kp b o e n1 n2)
end
end KA
namespace KA
open PySem PySem.Spec PyProof.Rows L2 DP
abbrev Pr := Int × Int
def encP (p : Pr) : PyData := .tuple [.int p.1, .int p.2]
theorem noL_encP (p : Pr) : noL (encP p) = true := rfl
/-- a list of data at p, tracked -/
def LAt (K : PySem.W.Frag) (H : Hp) (p : Addr) (ds : List PyData) : Prop := ∃ vs, H p = some (.lst vs) ∧ DpAll K H vs ds
theorem LAt.dp {K : PySem.W.Frag} {H : Hp} {p : Addr} {ds : List PyData} (h : LAt K H p ds) : Dp K H (.ref p) (.list ds) := by
  obtain ⟨vs, h1, h2⟩ := h
  exact .lst (SqL.of h1) h2
theorem LAt.same {K : PySem.W.Frag} {H H' : Hp} {p : Addr} {ds : List PyData} (h : LAt K H p ds) (S : Same H H') : LAt K H' p ds := by
  obtain ⟨vs, h1, h2⟩ := h
  exact ⟨vs, S _ _ h1, dpAll_mono S _ _ h2⟩
theorem Keep.tups {H H' : Hp} {t g : Addr} {n : Nat} (T : Tray H t g n) (k : Keep t g H H') : Tups H H' := fun b xs hb => by
  obtain ⟨⟨gs, f, c, h1, h2, r⟩, hne⟩ := T
  rcases hb with e | ⟨q, e⟩
  · refine .inl (k b _ e ?_ ?_) <;> rintro rfl
    · rw [h1] at e; cases e
    · rw [h2] at e; cases e
  · refine .inr ⟨q, k b _ e ?_ ?_⟩ <;> rintro rfl
    · rw [h1] at e; cases e
    · rw [h2] at e; cases e
theorem LAt.keep {K : PySem.W.Frag} {H H' : Hp} {t g p : Addr} {n : Nat} {ds : List PyData} (h : LAt K H p ds) (T : Tray H t g n) (k : Keep t g H H') (h1 : p ≠ t) (h2 : p ≠ g) (hn : noL.noLs ds = true) : LAt K H' p ds := by
  obtain ⟨vs, a, b⟩ := h
  exact ⟨vs, k _ _ a h1 h2, dpAll_tups (Keep.tups T k) _ _ hn b⟩
theorem Tray.at_ne {H : Hp} {t g p : Addr} {n : Nat} (T : Tray H t g n) (hp : H p = none) : p ≠ t ∧ p ≠ g := by
  obtain ⟨⟨gs, f, c, h1, h2, r⟩, hne⟩ := T
  exact ⟨Ne.symm (ne_of_none h1 hp), Ne.symm (ne_of_none h2 hp)⟩
theorem dp_pair {K : PySem.W.Frag} {H : Hp} {v : V} {p : Pr} (h : Dp K H v (encP p)) : ∃ a, v = .ref a ∧ SqT K H a [.int p.1, .int p.2] := by
  have h' : Dp K H v (.tuple [.int p.1, .int p.2]) := h
  cases h' with
  | tup s a =>
    cases a with
    | cons a1 a =>
      cases a with
      | cons a2 a =>
        cases a; cases a1; cases a2
        exact ⟨_, rfl, s⟩
theorem dp_two {K : PySem.W.Frag} {H : Hp} {q : Addr} {a b : Int} (h : H q = some (.tup [.int a, .int b])) : Dp K H (.ref q) (encP (a, b)) := .tup (SqT.of h) (.cons (.int _) (.cons (.int _) .nil))
theorem small_nat {L : Int} {a : Int} {n : Nat} (h0 : 0 ≤ a) (h1 : a ≤ L) (hL : L.natAbs < 2 ^ n) : a.natAbs < 2 ^ n := Nat.lt_of_le_of_lt (by omega : a.natAbs ≤ L.natAbs) hL
theorem bigL {L : Int} (h0 : 0 < L) (h : L ≤ 10 ^ 30) : L.natAbs < 2 ^ 100 := by
  have e : (10 : Int) ^ 30 = 1000000000000000000000000000000 := by decide
  have e2 : (2 : Nat) ^ 100 = 1267650600228229401496703205376 := by decide
  rw [e] at h; rw [e2]; omega
/-- what the deck's calls keep of the frame: the deck, all else, so far m draws -/
structure At (H Hc : Hp) (t g : Addr) (m : Nat) : Prop where
  T : Tray Hc t g m
  k : Keep t g H Hc
theorem At.step {H H1 H2 : Hp} {t g : Addr} {m m' : Nat} (a : At H H1 t g m) (T : Tray H2 t g m') (k : Keep t g H1 H2) : At H H2 t g m' := ⟨T, a.k.trans k⟩
theorem At.up {H Hc : Hp} {t g : Addr} {m m' : Nat} (a : At H Hc t g m) (h : m ≤ m') : At H Hc t g m' := ⟨a.T.up h, a.k⟩
theorem At.new {H H1 : Hp} {t g p : Addr} {m : Nat} {o : HO} (a : At H H1 t g m) (hp : H1 p = none) : At H (upd H1 p o) t g m := ⟨a.T.same (same_upd hp), a.k.trans (Keep.of_same (same_upd hp))⟩
theorem At.sm {H H1 H2 : Hp} {t g : Addr} {m : Nat} (a : At H H1 t g m) (S : Same H1 H2) : At H H2 t g m := ⟨a.T.same S, a.k.trans (Keep.of_same S)⟩
theorem At.free {H H1 : Hp} {t g p : Addr} {m : Nat} (a : At H H1 t g m) (hp : H1 p = none) : H p = none := by
  obtain ⟨h1, h2⟩ := a.T.at_ne hp
  cases e : H p with
  | none => rfl
  | some o =>
    rw [a.k p o e h1 h2] at hp
    cases hp
/-- a list that a comprehension makes is changed: it is new -/
theorem At.acc {H H1 : Hp} {t g D : Addr} {m : Nat} {o : HO} (a : At H H1 t g m) (hD : H D = none) (h1 : D ≠ t) (h2 : D ≠ g) : At H (upd H1 D o) t g m := by
  obtain ⟨⟨⟨gs, f, c, e1, e2, r⟩, hne⟩, k⟩ := a
  exact ⟨⟨⟨gs, f, c, (upd_ne (Ne.symm h1)).trans e1, (upd_ne (Ne.symm h2)).trans e2, r⟩, hne⟩, fun b o e n1 n2 => (upd_ne (ne_of_none e hD)).trans (k b o e n1 n2)⟩
def spBelow : Sp := fun vs H Q _ => ∃ (t g : Addr) (n : Nat) (m : Int), vs = [.ref t, .int m] ∧ Tray H t g n ∧ 0 < m ∧ m.natAbs < 2 ^ 1000 ∧ n < 2 ^ 59 ∧
  ∀ (H' : Hp) (r : Int), 0 ≤ r → r < m → Tray H' t g (n + 60) → Keep t g H H' → Q (.int r) H'
def spWide : Sp := fun vs H Q _ => ∃ (t g : Addr) (n : Nat), vs = [.ref t] ∧ Tray H t g n ∧ n < 2 ^ 58 ∧
  ∀ (H' : Hp) (r : Int), 0 < r → r ≤ 10 ^ 30 → Tray H' t g (n + 70) → Keep t g H H' → Q (.int r) H'
section
variable {P : Program} {w : World} {K : PySem.W.Frag} {mg : Str → Option Value} {base : Heap} {Z : Ad}
theorem ok_law_below (T : Tx K w mg Z) : FnOk P w K mg base CX0 2 Z.a_law_below Z.d_law_below P_law_below (spBelow) := by
  refine T.F_law_below.ok sclaw_below (fun vs H Q E h => ?_) (fun cdv A outer s H vs Q E hr h => ?_)
  · obtain ⟨t, g, n, m, rfl, _⟩ := h
    rfl
  · obtain ⟨t, g, n, m, rfl, hT, hm, hmb, hn, k⟩ := h
    refine ⟨_, (pss_cons (ps_set (i := 2) sclaw_below.nd rfl (Or.inl rfl) pe_int)
      (pss_cons (ps_set (i := 3) sclaw_below.nd rfl (Or.inl rfl) (pv 1))
      (C8.pss_cut (ps_while PassesOwn.never (pt_cmpR op_gt (pv 3) pe_int (nomark _)) (pss_cons (ps_set (i := 2) sclaw_below.nd rfl (Or.inl rfl) (pe_op op_add (pe_op op_mulW (pv 2) (pe_op op_pow pe_int pe_int)) (pe_call (ok_law_take T) (hr.mono (by decide)) (by rfl) T.g_law_take T.F_law_take.kp T.bb_law_take .nil pass0 (pa_cons (pv 0) (pa_cons (pe_op op_pow pe_int pe_int) pa_nil)))))
      (pss_one (ps_set (i := 3) sclaw_below.nd rfl (Or.inl rfl) (pe_op op_fdivW (pv 3) (pe_op op_pow pe_int pe_int))))))
      (pss_one (ps_ret (pe_op op_mod (pv 2) (pv 1))))))), ?_⟩
    refine ⟨_, rfl, ?_⟩
    refine ⟨fun σ' H' => ∃ f l, σ' = [some (.ref t), some (.int m), some (.int f), some (.int l)] ∧ Tray H' t g (n + 60) ∧ Keep t g H H', ?_, ?_⟩
    · refine while_post (fun σ' H' => ∃ (i : Nat) (f l : Int), σ' = [some (.ref t), some (.int m), some (.int f), some (.int l)] ∧ 0 ≤ f ∧ 0 ≤ l ∧ (f + 1) * l ≤ m ∧ 2 ^ (19 * i) * l ≤ m ∧ i ≤ 53 ∧ Tray H' t g (n + i) ∧ Keep t g H H') (fun σ' _ => match σ'.getD 3 none with | some (.int l) => l.toNat | _ => 0) (fun σ' H' => ∃ f l, σ' = [some (.ref t), some (.int m), some (.int f), some (.int l)] ∧ Tray H' t g (n + 60) ∧ Keep t g H H')
        ⟨0, 0, m, rfl, Int.le_refl _, by omega, by omega, by simp, by omega, hT, Keep.refl _ _ _⟩ ?_ (fun _ _ q => q) ?_
      · rintro σ1 H1 ⟨i, f, l, rfl, hf0, hl0, hfl, hil, hi, T1, k1⟩
        refine ⟨_, rfl, _, _, rfl, rfl, _, rfl, ?_⟩
        refine ite2 (fun c => ?_) (fun _ => ⟨f, l, rfl, T1.up (by omega), k1⟩)
        have hl : 0 < l := of_decide_eq_true c
        have hfb : f.natAbs < 2 ^ 1000 := by
          have h1 : (f + 1) * 1 ≤ (f + 1) * l := Int.mul_le_mul_of_nonneg_left (by omega) (by omega)
          clear hil
          omega
        have hi52 : i ≤ 52 := by
          have h1 : (2 : Int) ^ (19 * i) * 1 ≤ 2 ^ (19 * i) * l := Int.mul_le_mul_of_nonneg_left (by omega) (Int.pow_nonneg (by decide))
          have h2 : ((2 ^ (19 * i) : Nat) : Int) < ((2 ^ 1000 : Nat) : Int) := by
            have e : ((2 ^ (19 * i) : Nat) : Int) = (2 : Int) ^ (19 * i) := by push_cast; rfl
            rw [e]
            generalize (2 : Int) ^ (19 * i) = A at h1 hil ⊢
            generalize (2 : Nat) ^ 1000 = B at hmb ⊢
            omega
          have h3 : 2 ^ (19 * i) < 2 ^ 1000 := Int.ofNat_lt.mp h2
          have h4 := (Nat.pow_lt_pow_iff_right (by decide : 1 < 2)).mp h3
          omega
        refine ⟨_, rfl, _, _, rfl, rfl, ⟨by decide, by decide, by decide⟩, _, _, rfl, rfl, wide_mul (b := 60) hfb (by decide) (by decide) (by decide) (by decide), _, rfl, _, _, rfl, rfl, ⟨by decide, by decide, by decide⟩, t, g, n + i, _, rfl, T1, by decide, by decide, by omega, fun H2 r r0 r1 T2 k2 => ?_⟩
        have e6 : (10 : Int) ^ (6 : Int).toNat = 1000000 := by decide
        rw [e6] at r1
        refine ⟨_, _, rfl, rfl, _, rfl, _, _, rfl, rfl, ⟨by decide, by decide, by decide⟩, _, _, rfl, rfl, wide_div (b := 60) (by decide) (by decide) (by decide) (by decide), ?_⟩
        have hd := Int.mul_ediv_add_emod l 1000000
        have hd0 := Int.emod_nonneg l (show (1000000 : Int) ≠ 0 by decide)
        have hq0 : 0 ≤ l / 1000000 := Int.ediv_nonneg hl0 (by decide)
        refine ⟨⟨i + 1, f * 1000000 + r, l / 1000000, ?_, by omega, hq0, ?_, ?_, by omega, T2, k1.trans k2⟩, ?_⟩
        · rw [e6]; rfl
        · have h1 : (f * 1000000 + r + 1) * (l / 1000000) ≤ ((f + 1) * 1000000) * (l / 1000000) := Int.mul_le_mul_of_nonneg_right (by omega) hq0
          have h2 : (f + 1) * (1000000 * (l / 1000000)) ≤ (f + 1) * l := Int.mul_le_mul_of_nonneg_left (by omega) (by omega)
          rw [Int.mul_assoc] at h1
          omega
        · have h1 : 2 ^ (19 * (i + 1)) * (l / 1000000) ≤ 2 ^ (19 * i) * l := by
            rw [show 19 * (i + 1) = 19 * i + 19 by omega, Int.pow_add, Int.mul_assoc]
            refine Int.mul_le_mul_of_nonneg_left ?_ (Int.pow_nonneg (by decide))
            have e : (2 : Int) ^ 19 = 524288 := by decide
            rw [e]; omega
          exact Int.le_trans h1 hil
        · show (l / (10 : Int) ^ (6 : Int).toNat).toNat < l.toNat
          rw [e6]; omega
      · rintro σ1 H1 Q1 Q2 hQ ⟨v, hv, i, j, e1, e2, b, eb, q⟩
        exact ⟨v, hv, i, j, e1, e2, b, eb, hQ _ _ q⟩
    · rintro σ1 H1 ⟨f, l, rfl, T1, k1⟩
      refine ⟨_, rfl, _, rfl, _, _, rfl, rfl, hm, ?_⟩
      exact k _ _ (Int.emod_nonneg _ (by omega)) (Int.emod_lt_of_pos _ hm) T1 k1
theorem ok_law_wide (T : Tx K w mg Z) : FnOk P w K mg base CX0 3 Z.a_law_wide Z.d_law_wide P_law_wide (spWide) := by
  refine T.F_law_wide.ok sclaw_wide (fun vs H Q E h => ?_) (fun cdv A outer s H vs Q E hr h => ?_)
  · obtain ⟨t, g, n, rfl, _⟩ := h
    rfl
  · obtain ⟨t, g, n, rfl, hT, hn, k⟩ := h
    refine ⟨_, (pss_cons (ps_set (i := 1) sclaw_wide.nd rfl (Or.inl rfl) (pe_lst (pa_cons (pe_op op_add pe_int (pe_call (ok_law_take T) (hr.mono (by decide)) (by rfl) T.g_law_take T.F_law_take.kp T.bb_law_take .nil pass0 (pa_cons (pv 0) (pa_cons pe_int pa_nil)))) (pa_cons (pe_op op_add pe_int (pe_call (ok_law_take T) (hr.mono (by decide)) (by rfl) T.g_law_take T.F_law_take.kp T.bb_law_take .nil pass0 (pa_cons (pv 0) (pa_cons pe_int pa_nil)))) (pa_cons (pe_op op_add pe_int (pe_call (ok_law_below T) (hr.mono (by decide)) (by rfl) T.g_law_below T.F_law_below.kp T.bb_law_below .nil pass0 (pa_cons (pv 0) (pa_cons (pe_op op_sub (pe_op op_pow pe_int pe_int) pe_int) pa_nil)))) pa_nil)))))
      (pss_one (ps_ret (pe_ix (ixL (K := K)) (pv 1) (pe_call (ok_law_take T) (hr.mono (by decide)) (by rfl) T.g_law_take T.F_law_take.kp T.bb_law_take .nil pass0 (pa_cons (pv 0) (pa_cons pe_int pa_nil))) (fun _ _ => rfl))))), ?_⟩
    refine ⟨_, rfl, t, g, n, 6, rfl, hT, by decide, by decide, by omega, fun H1 a a0 a1 T1 k1 => ?_⟩
    refine ⟨_, _, rfl, rfl, _, rfl, t, g, n + 1, 40, rfl, T1, by decide, by decide, by omega, fun H2 b b0 b1 T2 k2 => ?_⟩
    refine ⟨_, _, rfl, rfl, _, rfl, _, _, rfl, rfl, ⟨by decide, by decide, by decide⟩, _, _, rfl, rfl, t, g, n + 2, _, rfl, T2, by decide, by decide, by omega, fun H3 c c0 c1 T3 k3 => ?_⟩
    refine ⟨_, _, rfl, rfl, (by show 3 ≤ sizeLine; decide), fun p hp => ?_⟩
    obtain ⟨pt, pg⟩ := T3.at_ne hp
    have T4 := T3.same (same_upd (o := HO.lst [V.int (1 + a), .int (1 + b), .int (1 + c)]) hp)
    have k4 := Keep.of_same (t := t) (g := g) (same_upd (o := HO.lst [V.int (1 + a), .int (1 + b), .int (1 + c)]) hp)
    refine ⟨_, rfl, _, rfl, t, g, n + 62, 3, rfl, T4, by decide, by decide, by omega, fun H5 i i0 i1 T5 k5 => ?_⟩
    have e30 : (10 : Int) ^ 30 = 1000000000000000000000000000000 := by decide
    have e30' : (10 : Int) ^ (30 : Int).toNat - 2 = 999999999999999999999999999998 := by decide
    rw [e30'] at c1
    obtain ⟨x, hx, hx0, hx1⟩ : ∃ x : Int, atI [V.int (1 + a), .int (1 + b), .int (1 + c)] i = some (.int x) ∧ 0 < x ∧ x ≤ 10 ^ 30 := by
      rw [e30]
      have : i = 0 ∨ i = 1 ∨ i = 2 := by omega
      rcases this with e | e | e <;> subst e
      · exact ⟨1 + a, rfl, by omega, by omega⟩
      · exact ⟨1 + b, rfl, by omega, by omega⟩
      · exact ⟨1 + c, rfl, by omega, by omega⟩
    refine ⟨p, _, _, _, rfl, rfl, SqL.of (k5 _ _ upd_same pt pg), hx, ?_⟩
    exact k _ _ hx0 hx1 (T5.up (by omega)) (((k1.trans k2).trans k3).trans (k4.trans k5))
end
end KA
namespace KA
open PySem PySem.Spec PyProof.Rows L2 DP
/-- a Dark's list of looks is not the deck -/
def Off (Z : Ad) (H : Hp) (d : Addr) (L : Int) (t g : Addr) : Prop := ∀ la dx, H d = some (.ins Z.C dx (df L la)) → la ≠ t ∧ la ≠ g
theorem DarkAt.keep {Z : Ad} {K : PySem.W.Frag} {H H' : Hp} {t g d : Addr} {n : Nat} {L : Int} {ls : List Lk} (D : DarkAt Z K H d L ls) (T : Tray H t g n) (k : Keep t g H H') (hla : Off Z H d L t g) : DarkAt Z K H' d L ls ∧ Off Z H' d L t g := by
  obtain ⟨dx, la, vs, h1, h2, h3⟩ := D.ex
  obtain ⟨a1, a2⟩ := hla la dx h1
  have hd : d ≠ t ∧ d ≠ g := by
    obtain ⟨⟨gs, f, c, e1, e2, r⟩, hne⟩ := T
    refine ⟨?_, ?_⟩ <;> rintro rfl
    · rw [h1] at e1; cases e1
    · rw [h1] at e2; cases e2
  have h1' := k _ _ h1 hd.1 hd.2
  refine ⟨⟨⟨dx, la, vs, h1', k _ _ h2 a1 a2, dpAll_tups (Keep.tups T k) _ _ (noLs_map noL_encL ls) h3⟩, D.pos, D.big, D.ok, D.len⟩, fun la' dx' e => ?_⟩
  rw [h1'] at e
  rw [← df_inj e]
  exact ⟨a1, a2⟩
theorem Off.same {Z : Ad} {K : PySem.W.Frag} {H H' : Hp} {d t g : Addr} {L : Int} {ls : List Lk} (O : Off Z H d L t g) (D : DarkAt Z K H d L ls) (S : Same H H') : Off Z H' d L t g := fun la dx e => by
  obtain ⟨dx', la', _, h1, _⟩ := D.ex
  have e2 := S _ _ h1
  rw [e] at e2
  rw [df_inj e2]
  exact O la' dx' h1
end KA
namespace KA
open PySem PySem.Spec PyProof.Rows L2 DP
def spHidden (K : PySem.W.Frag) : Sp := fun vs H Q _ => ∃ (t g : Addr) (n : Nat) (L m : Int), vs = [.ref t, .int L, .int m] ∧ Tray H t g n ∧ n < 2 ^ 50 ∧ 0 < L ∧ L ≤ 10 ^ 30 ∧ 0 < m ∧ m ≤ 60 ∧
  ∀ (H' : Hp) (p : Addr) (prs : List Pr), H p = none → At H H' t g (n + 8000) → LAt K H' p (prs.map encP) → Rises L prs → (prs.length : Int) ≤ m → Q (.ref p) H'
section
variable {P : Program} {w : World} {K : PySem.W.Frag} {mg : Str → Option Value} {base : Heap} {Z : Ad}
theorem ok_law_hidden (T : Tx K w mg Z) : FnOk P w K mg base CX0 3 Z.a_law_hidden Z.d_law_hidden P_law_hidden (spHidden K) := by
  refine T.F_law_hidden.ok sclaw_hidden (fun vs H Q E h => ?_) (fun cdv A outer s H vs Q E hr h => ?_)
  · obtain ⟨t, g, n, L, m, rfl, _⟩ := h
    rfl
  · obtain ⟨t, g, n, L, m, rfl, hT, hn, hL, hL30, hm0, hm60, k⟩ := h
    have hLb := bigL hL hL30
    have hb : ∀ m, m ≤ n + 8000 → m < 2 ^ 59 := fun m hm => Nat.lt_of_le_of_lt hm (Nat.lt_of_lt_of_le (Nat.add_lt_add_right hn 8000) (by decide))
    have A0 : At H H t g n := ⟨hT, Keep.refl _ _ _⟩
    refine ⟨_, (pss_cons (ps_set (i := 3) sclaw_hidden.nd rfl (Or.inr rfl) (pe_callB (sortedSetK (w := w) rfl) (by rfl) T.b_sorted (by decide +kernel) (pa_cons (pe_callTy (setIK (K := K) (w := w) rfl) (by rfl) T.b_set (by decide +kernel) (pa_cons (pe_lc (own := [("k", 4)]) (g := gName 4) (tt := tYes) rfl sclaw_hidden.nd (pi_range1 (by rfl) T.b_range (pa_cons (pv 2) pa_nil)) (blkOk_by (own := [("k", 4)]) (N := N_law_hidden) (sc := defScope slaw_hidden) (by decide +kernel)) (fun _ _ _ _ _ => (pg_name (i := 4) sclaw_hidden.nd rfl (Or.inl rfl))) (fun _ _ _ _ _ => pts_nil) (fun _ _ _ _ _ => (pe_call (ok_law_below T) (hr.mono (by decide)) (by rfl) T.g_law_below T.F_law_below.kp T.bb_law_below .nil pass0 (pa_cons (pv 0) (pa_cons (pv 1) pa_nil))))) pa_nil)) pa_nil)))
      (pss_cons (ps_set (i := 5) sclaw_hidden.nd rfl (Or.inr rfl) (pe_op op_sub (pe_call (ok_law_below T) (hr.mono (by decide)) (by rfl) T.g_law_below T.F_law_below.kp T.bb_law_below .nil pass0 (pa_cons (pv 0) (pa_cons (pe_op op_mulW pe_int (pv 1)) pa_nil))) (pe_ix (ixL (K := K)) (pe_lst (pa_cons pe_int (pa_cons (pv 1) (pa_cons (pe_op op_mulW pe_int (pv 1)) pa_nil)))) (pe_call (ok_law_take T) (hr.mono (by decide)) (by rfl) T.g_law_take T.F_law_take.kp T.bb_law_take .nil pass0 (pa_cons (pv 0) (pa_cons pe_int pa_nil))) (fun _ _ => rfl))))
      (pss_cons (ps_set (i := 6) sclaw_hidden.nd rfl (Or.inr rfl) (pe_callB (sortK (K := K)) (by rfl) T.b_sorted (by decide +kernel) (pa_cons (pe_lc (own := [("spot", 7)]) (g := gName 7) (tt := tYes) rfl sclaw_hidden.nd (pi_list (pv 3)) (blkOk_by (own := [("spot", 7)]) (N := N_law_hidden) (sc := defScope slaw_hidden) (by decide +kernel)) (fun _ _ _ _ _ => (pg_name (i := 7) sclaw_hidden.nd rfl (Or.inl rfl))) (fun _ _ _ _ _ => pts_nil) (fun _ _ _ _ _ => (pe_call (ok_law_below T) (hr.mono (by decide)) (by rfl) T.g_law_below T.F_law_below.kp T.bb_law_below .nil pass0 (pa_cons (pv 0) (pa_cons (pe_op op_add (pv 1) pe_int) pa_nil))))) pa_nil)))
      (pss_one (ps_ret (pe_lc (own := [("k", 4)]) (g := gName 4) (tt := tYes) rfl sclaw_hidden.nd (pi_range1 (by rfl) T.b_range (pa_cons (pe_callB (lenK (K := K)) (by rfl) T.b_len (by decide +kernel) (pa_cons (pv 3) pa_nil)) pa_nil)) (blkOk_by (own := [("k", 4)]) (N := N_law_hidden) (sc := defScope slaw_hidden) (by decide +kernel)) (fun _ _ _ _ _ => (pg_name (i := 4) sclaw_hidden.nd rfl (Or.inl rfl))) (fun _ _ _ _ _ => pts_nil) (fun _ _ _ _ _ => (pe_tup (pa_cons (pe_ix (ixL (K := K)) (pv 3) (pv 4) (fun _ _ => rfl)) (pa_cons (pe_op op_add (pv 5) (pe_ix (ixL (K := K)) (pv 6) (pv 4) (fun _ _ => rfl))) pa_nil)))))))))), ?_⟩
    -- spots
    refine ⟨_, rfl, m, rfl, by omega, by omega, fun D hD => ?_⟩
    obtain ⟨Dt, Dg⟩ := hT.at_ne hD
    refine lc_range (lo := 0) (n := m.toNat) (fun i H' => At H H' t g (n + 60 * i) ∧ ∃ ns : List Int, H' D = some (.lst (ns.map V.int)) ∧ ns.length = i ∧ ∀ x ∈ ns, 0 ≤ x ∧ x < L) ⟨A0.new hD, [], upd_same, rfl, fun _ z => absurd z (by simp)⟩ ?_ ?_
    · rintro i H' hi ⟨A, ns, hd, hl, hx⟩
      have hi6 : i < 60 := by omega
      refine ⟨rfl, yes_ite ?_⟩
      refine ⟨_, rfl, _, rfl, t, g, n + 60 * i, L, rfl, A.T, hL, lt_up hLb (by decide), hb _ (by omega), fun H2 r r0 r1 T2 k2 => ?_⟩
      have hd2 := k2 _ _ hd Dt Dg
      refine ⟨_, hd2, small1000 (by simp; omega), ((A.step T2 k2).acc hD Dt Dg).up (by omega), ns ++ [r], ?_, by simp [hl], fun x hx' => ?_⟩
      · rw [List.map_append]; exact upd_same
      · rcases List.mem_append.mp hx' with h | h
        · exact hx x h
        · rw [List.mem_singleton] at h; subst h; exact ⟨r0, r1⟩
    rintro H2 ⟨A2, ns, hd, hnl, hx⟩
    refine ⟨D, ns, rfl, SqL.of hd, by omega, fun q c hc hq => ?_⟩
    refine ⟨q, _, c, rfl, upd_same, by omega, fun ss p hpw hmem hsl hp => ?_⟩
    have A3 := (A2.new (o := SetO w q (fun j => decide (j ∈ ns)) c) hq).new (o := HO.lst (ss.map V.int)) hp
    have hpH : H p = none := (A2.new (o := SetO w q (fun j => decide (j ∈ ns)) c) hq).free hp
    obtain ⟨pt, pg⟩ := (A2.new (o := SetO w q (fun j => decide (j ∈ ns)) c) hq).T.at_ne hp
    generalize eH3 : upd (upd H2 q (SetO w q (fun j => decide (j ∈ ns)) c)) p (.lst (ss.map V.int)) = H3 at A3 ⊢
    have hp3 : H3 p = some (.lst (ss.map V.int)) := by rw [← eH3]; exact upd_same
    have hss : ∀ x ∈ ss, 0 ≤ x ∧ x < L := fun x hx' => hx x (of_decide_eq_true ((hmem x).mp hx'))
    have hss6 : ss.length ≤ m.toNat := by rw [hsl]; omega
    have hssne : ss ≠ [] := by
      cases ns with
      | nil => simp at hnl; omega
      | cons y r =>
        intro e
        have : y ∈ ss := (hmem y).mpr (by simp)
        rw [e] at this; cases this
    have A3' : At H H3 t g (n + 3600) := A3.up (by omega)
    -- begun
    have b3 : (3 * L).natAbs < 2 ^ 102 := by rw [Int.natAbs_mul]; exact Nat.lt_of_lt_of_le (Nat.mul_lt_mul_of_le_of_lt (Nat.le_refl 3) hLb (by decide)) (by decide)
    refine ⟨_, rfl, _, rfl, _, _, rfl, rfl, wide_mul (a := 10) (by decide) hLb (by decide) (by decide) (by decide), t, g, n + 3600, 3 * L, rfl, A3'.T, by omega, lt_up b3 (by decide), hb _ (by omega), fun H4 r r0 r1 T4 k4 => ?_⟩
    have A4 := A3'.step T4 k4
    have hp4 := k4 _ _ hp3 pt pg
    refine ⟨_, rfl, _, rfl, _, _, rfl, rfl, wide_mul (a := 10) (by decide) hLb (by decide) (by decide) (by decide), (by show 3 ≤ sizeLine; decide), fun p3 hp3' => ?_⟩
    obtain ⟨p3t, p3g⟩ := A4.T.at_ne hp3'
    have A5 := A4.new (o := HO.lst [V.int 0, .int L, .int (2 * L)]) hp3'
    have hp5 := (same_upd (o := HO.lst [V.int 0, .int L, .int (2 * L)]) hp3') _ _ hp4
    refine ⟨_, rfl, t, g, n + 3660, 3, rfl, A5.T, by decide, by decide, Nat.lt_trans (hb _ (by omega)) (by decide), fun H6 j j0 j1 T6 k6 => ?_⟩
    have A6 := A5.step T6 k6
    have hp6 := k6 _ _ hp5 pt pg
    obtain ⟨z, hz, hz0, hz1⟩ : ∃ z : Int, atI [V.int 0, .int L, .int (2 * L)] j = some (.int z) ∧ 0 ≤ z ∧ z ≤ 2 * L := by
      have : j = 0 ∨ j = 1 ∨ j = 2 := by omega
      rcases this with e | e | e <;> subst e
      · exact ⟨0, rfl, by omega, by omega⟩
      · exact ⟨L, rfl, by omega, by omega⟩
      · exact ⟨2 * L, rfl, by omega, by omega⟩
    refine ⟨p3, _, _, _, rfl, rfl, SqL.of (k6 _ _ upd_same p3t p3g), hz, _, _, rfl, rfl, ?_⟩
    have hbb : (r - z).natAbs < 2 ^ 104 := by
      have e1 : (2 : Nat) ^ 104 = 2 ^ 100 * 16 := by decide
      rw [e1]; clear b3; omega
    -- ends
    refine ⟨_, rfl, p, rfl, ⟨_, SqL.of hp6⟩, fun D2 hD2 => ?_⟩
    obtain ⟨D2t, D2g⟩ := A6.T.at_ne hD2
    have hD2H := A6.free hD2
    have hD2p : p ≠ D2 := ne_of_none hp6 hD2
    refine lc_list (K := K) (a := p) (xs := ss.map V.int) (fun i H' => At H H' t g (n + 3661 + 60 * i) ∧ H' p = some (.lst (ss.map V.int)) ∧ ∃ ns : List Int, H' D2 = some (.lst (ns.map V.int)) ∧ ns.length = i ∧ ∀ x ∈ ns, 0 ≤ x ∧ x ≤ L)
      ⟨(A6.new hD2).up (by omega), (upd_ne hD2p).trans hp6, [], upd_same, rfl, fun _ z => absurd z (by simp)⟩ (fun i H' _ ⟨_, h, _⟩ => SqL.of h) ?_ ?_
    · rintro i y H' hi ⟨A, hpk, ns2, hd, hl, hx2⟩
      have hi6 : i < 60 := by
        have := (List.getElem?_eq_some_iff.mp hi).1
        rw [List.length_map] at this; omega
      refine ⟨rfl, yes_ite ?_⟩
      refine ⟨_, rfl, _, rfl, _, _, rfl, rfl, t, g, n + 3661 + 60 * i, L + 1, rfl, A.T, by omega, lt_up (add_lt hLb (show (1 : Int).natAbs < 2 ^ 100 by decide)) (by decide), hb _ (by omega), fun H4 r r0 r1 T4 k4 => ?_⟩
      have hd2 := k4 _ _ hd D2t D2g
      refine ⟨_, hd2, small1000 (by simp; omega), ((A.step T4 k4).acc hD2H D2t D2g).up (by omega), (upd_ne hD2p).trans (k4 _ _ hpk pt pg), ns2 ++ [r], ?_, by simp [hl], fun x hx' => ?_⟩
      · rw [List.map_append]; exact upd_same
      · rcases List.mem_append.mp hx' with h | h
        · exact hx2 x h
        · rw [List.mem_singleton] at h; subst h; exact ⟨r0, by omega⟩
    rintro H7 ⟨A7, hp7, ns2, hd2, hnl2, hx2⟩
    rw [List.length_map] at A7 hnl2
    refine ⟨D2, ns2, rfl, SqL.of hd2, by omega, fun rs p2 hperm hsrt hp2 => ?_⟩
    have hrl : rs.length = ss.length := by rw [hperm.length_eq, hnl2]
    have hrs : ∀ x ∈ rs, 0 ≤ x ∧ x ≤ L := fun x hx' => hx2 x (hperm.mem_iff.mp hx')
    obtain ⟨p2t, p2g⟩ := A7.T.at_ne hp2
    have hp2p : p ≠ p2 := ne_of_none hp7 hp2
    have A8 : At H (upd H7 p2 (.lst (rs.map V.int))) t g (n + 8000) := (A7.new hp2).up (by omega)
    have hp8 : (upd H7 p2 (.lst (rs.map V.int))) p = some (.lst (ss.map V.int)) := (upd_ne hp2p).trans hp7
    have hq8 : (upd H7 p2 (.lst (rs.map V.int))) p2 = some (.lst (rs.map V.int)) := upd_same
    generalize upd H7 p2 (.lst (rs.map V.int)) = H8 at A8 hp8 hq8 ⊢
    refine ⟨_, rfl, p, _, rfl, .inl (SqL.of hp8), _, rfl, ?_, ?_, fun D3 hD3 => ?_⟩
    · exact Int.le_trans (by decide) (Int.natCast_nonneg _)
    · have : ((ss.map V.int).length : Int) ≤ 60 := by rw [List.length_map]; omega
      exact Int.lt_of_le_of_lt this (by decide)
    obtain ⟨D3t, D3g⟩ := A8.T.at_ne hD3
    have hD3H := A8.free hD3
    have hD3p : p ≠ D3 := ne_of_none hp8 hD3
    have hD3q : p2 ≠ D3 := ne_of_none hq8 hD3
    have hzl : (List.zipWith (fun s u => ((s, r - z + u) : Pr)) ss rs).length = ss.length := by rw [List.length_zipWith, hrl]; omega
    refine lc_range (lo := 0) (n := ((ss.map V.int).length : Int).toNat) (fun i H' => At H H' t g (n + 8000) ∧ H' p = some (.lst (ss.map V.int)) ∧ H' p2 = some (.lst (rs.map V.int)) ∧ ∃ vs, H' D3 = some (.lst vs) ∧ vs.length = i ∧ DpAll K H' vs (((List.zipWith (fun s u => ((s, r - z + u) : Pr)) ss rs).take i).map encP))
      ⟨A8.new hD3, (upd_ne hD3p).trans hp8, (upd_ne hD3q).trans hq8, [], upd_same, rfl, .nil⟩ ?_ ?_
    · rintro i H' hi ⟨A, hpk, hqk, vs, hd, hvl, hds⟩
      have hi' : i < ss.length := by simpa using hi
      have hss' : ss[i]? = some ss[i] := List.getElem?_eq_getElem hi'
      have hrs' : rs[i]? = some (rs[i]'(by omega)) := List.getElem?_eq_getElem (by omega)
      refine ⟨rfl, yes_ite ?_⟩
      refine ⟨_, rfl, _, rfl, p, _, _, .int ss[i], rfl, rfl, SqL.of hpk, at_of (j := i) (by simp) (by rw [List.getElem?_map, hss']; rfl), _, rfl, _, rfl, _, rfl, p2, _, _, .int (rs[i]'(by omega)), rfl, rfl, SqL.of hqk, at_of (j := i) (by simp) (by rw [List.getElem?_map, hrs']; rfl), _, _, rfl, rfl, (by show 2 ≤ sizeLine; decide), fun p4 hp4 => ?_⟩
      have S4 := same_upd (o := HO.tup [V.int ss[i], .int (r - z + rs[i]'(by omega))]) hp4
      have hd4 := S4 _ _ hd
      refine ⟨vs, hd4, small1000 (by omega), (A.new hp4).acc hD3H D3t D3g, (upd_ne hD3p).trans (S4 _ _ hpk), (upd_ne hD3q).trans (S4 _ _ hqk), _, upd_same, by simp [hvl], ?_⟩
      have hz : (List.zipWith (fun s u => ((s, r - z + u) : Pr)) ss rs)[i]? = some (ss[i], r - z + rs[i]'(by omega)) := by
        simp [List.getElem?_zipWith, hss', hrs']
      rw [take_snoc hz, List.map_append]
      exact acc_step hd4 (noLs_map noL_encP _) rfl (dpAll_mono S4 _ _ hds) (.tup (SqT.of upd_same) (.cons (.int _) (.cons (.int _) .nil)))
    · rintro H' ⟨A, hpk, hqk, vs, hd, hvl, hds⟩
      have e : ((ss.map V.int).length : Int).toNat = ss.length := by simp
      rw [e, List.take_of_length_le (by rw [hzl]; exact Nat.le_refl _)] at hds
      have hof : ∀ s ∈ List.zipWith (fun s u => ((s, r - z + u) : Pr)) ss rs, ∃ (i : Nat) (h1 : i < ss.length) (h2 : i < rs.length), s = (ss[i], r - z + rs[i]) := fun s hs => by
        obtain ⟨i, hi, e⟩ := List.getElem_of_mem hs
        rw [List.getElem_zipWith] at e
        rw [hzl] at hi
        exact ⟨i, hi, by omega, e.symm⟩
      refine k H' D3 _ hD3H A ⟨vs, hd, hds⟩ ⟨fun e => ?_, ?_, fun s hs => ?_, r - z, hbb, fun s hs => ?_⟩ (by rw [hzl]; omega)
      · have := congrArg List.length e
        rw [hzl] at this
        exact hssne (List.eq_nil_of_length_eq_zero this)
      · rw [List.pairwise_iff_getElem]
        intro i j hi hj hij
        rw [List.getElem_zipWith, List.getElem_zipWith]
        rw [hzl] at hi hj
        have h1 := (List.pairwise_iff_getElem.mp hpw) i j hi hj hij
        have h2 := (List.pairwise_iff_getElem.mp hsrt) i j (by omega) (by omega) hij
        exact ⟨h1, by show r - z + rs[i]'(by omega) ≤ r - z + rs[j]'(by omega); omega⟩
      · obtain ⟨i, h1, h2, rfl⟩ := hof s hs
        exact hss _ (List.getElem_mem h1)
      · obtain ⟨i, h1, h2, rfl⟩ := hof s hs
        have h3 := hrs _ (List.getElem_mem h2)
        exact ⟨by show r - z ≤ r - z + rs[i]; omega, by show r - z + rs[i] ≤ r - z + L; omega⟩
end
end KA
namespace KA
open PySem PySem.Spec PyProof.Rows L2 DP
/-! ### a hand that is told -/
/-- where each step leads x -/
def leads (L : Int) (steps : List Pr) (x : Int) : List Int := steps.map fun s => s.2 + (x - s.1) / L * L
def IsMaxL (l : List Int) (m : Int) : Prop := m ∈ l ∧ ∀ y ∈ l, y ≤ m
def SzP (n : Nat) (s : Pr) : Prop := s.1.natAbs < 2 ^ n ∧ s.2.natAbs < 2 ^ n
/-- the steps as looks; led back -/
def fr1 (s : Pr) : Lk := ("from", s.1, s.2)
def up1 (s : Pr) : Lk := ("upto", s.2, s.1)
def frs (ss : List Pr) : List Lk := ss.map fr1
def ups (ss : List Pr) : List Lk := ss.map up1
theorem bk_frs (ss : List Pr) : bk (frs ss) = ups ss := by
  induction ss with
  | nil => rfl
  | cons s ss ih =>
    show bk1 (fr1 s) ++ bk (frs ss) = up1 s :: ups ss
    rw [ih]; rfl
theorem clash_from {L : Int} {a b : Lk} (ha : a.1 = "from") (hb : b.1 = "from") : clashB a b L = false := by
  have h : onSide "fast" "from" = false := by decide +kernel
  unfold clashB tooFar
  rw [ha, hb, h]; simp
theorem home_home {L : Int} (hL : 0 < L) (l : Lk) : home L (home L l) = home L l := by
  have e : (home L l).2.1 / L = 0 := by
    show (l.2.1 - l.2.1 / L * L) / L = 0
    rw [Int.sub_mul_ediv_right _ _ (by omega : L ≠ 0), Int.sub_self]
  show ((home L l).1, (home L l).2.1 - (home L l).2.1 / L * L, (home L l).2.2 - (home L l).2.1 / L * L) = home L l
  rw [e, Int.zero_mul, Int.sub_zero, Int.sub_zero]
theorem home_turn {L : Int} (hL : 0 < L) (w : Str) (x y k : Int) : home L (w, x - k * L, y - k * L) = home L (w, x, y) := by
  have e : (x - k * L) / L = x / L - k := Int.sub_mul_ediv_right _ _ (by omega : L ≠ 0)
  show (w, x - k * L - (x - k * L) / L * L, y - k * L - (x - k * L) / L * L) = (w, x - x / L * L, y - x / L * L)
  rw [e, Int.sub_mul]
  congr 1
  congr 1 <;> omega
theorem home_up {L : Int} (hL : 0 < L) (l : Lk) : home L (upL (home L l)) = home L (upL l) := home_turn hL "upto" l.2.2 l.2.1 (l.2.1 / L)
theorem home_fr {L : Int} (hL : 0 < L) (l : Lk) : home L (frL (home L l)) = home L (frL l) := by
  have h := home_turn hL "from" (l.2.2 + 1) (l.2.1 + 1) (l.2.1 / L)
  have e1 : l.2.2 - l.2.1 / L * L + 1 = l.2.2 + 1 - l.2.1 / L * L := by omega
  have e2 : l.2.1 - l.2.1 / L * L + 1 = l.2.1 + 1 - l.2.1 / L * L := by omega
  show home L ("from", l.2.2 - l.2.1 / L * L + 1, l.2.1 - l.2.1 / L * L + 1) = _
  rw [e1, e2]; exact h
theorem bk_home {L : Int} (hL : 0 < L) {ls hs : List Lk} (hh : ∀ o, o ∈ hs ↔ ∃ l ∈ ls, o = home L l) (o : Lk) : (∃ q ∈ bk hs, o = home L q) ↔ ∃ q ∈ bk ls, o = home L q := by
  constructor
  · rintro ⟨q, hq, rfl⟩
    obtain ⟨h, hh', c⟩ := mem_bk.mp hq
    obtain ⟨l, hl, rfl⟩ := (hh h).mp hh'
    rcases c with ⟨n, rfl⟩ | ⟨n, rfl⟩
    · exact ⟨upL l, mem_bk.mpr ⟨l, hl, .inl ⟨n, rfl⟩⟩, home_up hL l⟩
    · exact ⟨frL l, mem_bk.mpr ⟨l, hl, .inr ⟨n, rfl⟩⟩, home_fr hL l⟩
  · rintro ⟨q, hq, rfl⟩
    obtain ⟨l, hl, c⟩ := mem_bk.mp hq
    rcases c with ⟨n, rfl⟩ | ⟨n, rfl⟩
    · exact ⟨upL (home L l), mem_bk.mpr ⟨home L l, (hh _).mpr ⟨l, hl, rfl⟩, .inl ⟨n, rfl⟩⟩, (home_up hL l).symm⟩
    · exact ⟨frL (home L l), mem_bk.mpr ⟨home L l, (hh _).mpr ⟨l, hl, rfl⟩, .inr ⟨n, rfl⟩⟩, (home_fr hL l).symm⟩
theorem bk_len (ls : List Lk) : (bk ls).length ≤ 2 * ls.length := by
  induction ls with
  | nil => simp [bk]
  | cons l ls ih =>
    have e : bk (l :: ls) = bk1 l ++ bk ls := by simp [bk]
    have h1 : (bk1 l).length ≤ 2 := by
      unfold bk1 bkA bkB
      split <;> split <;> simp
    rw [e, List.length_append, List.length_cons]
    omega
theorem home_sz {n : Nat} {L : Int} {l : Lk} (h : 0 < L) (hb : L.natAbs < 2 ^ 200) (hn : 200 ≤ n) (hl : Sized n l) : Sized (n + 2) (home L l) := by
  have h0 := emod_small (x := l.2.1) h hb
  refine ⟨lt_up h0 (by omega), ?_⟩
  show (l.2.2 - l.2.1 / L * L).natAbs < 2 ^ (n + 2)
  have e : l.2.2 - l.2.1 / L * L = l.2.2 + ((l.2.1 - l.2.1 / L * L) - l.2.1) := by omega
  rw [e]
  have h1 : ((l.2.1 - l.2.1 / L * L) - l.2.1).natAbs < 2 ^ (n + 1) := sub_lt (lt_up h0 hn) hl.1
  exact add_lt (lt_up hl.2 (by omega)) h1
/-- led back is where it comes from: not short of m by x on, just from the place on that is told -/
theorem gal {L : Int} (hL : 0 < L) {ss : List Pr} {x y b m : Int} (hb : IsBest "fast" (ups ss) y L b) (hm : IsMaxL (leads L ss x) m) : y ≤ m ↔ b ≤ x := by
  obtain ⟨⟨l, hl, eb⟩, hb2⟩ := hb
  obtain ⟨q, hq, rfl⟩ := List.mem_map.mp hl
  rw [plc_fast] at eb
  have eb' : q.1 - (q.2 - y) / L * L = b := eb
  constructor
  · intro h
    obtain ⟨s, hs, es⟩ := List.mem_map.mp hm.1
    have h1 := hb2 (up1 s) (List.mem_map.mpr ⟨s, hs, rfl⟩)
    rw [if_neg slow_ne, plc_fast] at h1
    have h1' : b ≤ s.1 - (s.2 - y) / L * L := h1
    have h2 := div_le (a := x - s.1) hL
    have h3 : (-((x - s.1) / L)) * L ≤ s.2 - y := by rw [Int.neg_mul]; omega
    have h4 := le_div hL h3
    rw [Int.neg_mul] at h4
    omega
  · intro h
    have h1 := hm.2 _ (List.mem_map.mpr ⟨q, hq, rfl⟩)
    have h2 : (-((q.2 - y) / L)) * L ≤ x - q.1 := by rw [Int.neg_mul]; omega
    have h3 := le_div hL h2
    rw [Int.neg_mul] at h3
    have h4 := div_le (a := q.2 - y) hL
    omega
/-- a hand's fields -/
def hf (d b : Addr) : List (Str × V) := [("_dark", .ref d), ("_back", .ref b)]
theorem hf_dark (d b : Addr) : (hf d b).lookup ("_dark" : Str) = some (.ref d) := by simp [hf, List.lookup]
theorem hf_back (d b : Addr) : (hf d b).lookup ("_back" : Str) = some (.ref b) := by
  have h : (("_back" : Str) == ("_dark" : Str)) = false := by decide +kernel
  simp [hf, List.lookup, h]
theorem hf_no (d b : Addr) {m : Str} (h1 : (m == ("_dark" : Str)) = false) (h2 : (m == ("_back" : Str)) = false) : (hf d b).lookup m = none := by simp [hf, List.lookup, h1, h2]
theorem hf_put1 (d : Addr) : putF "_dark" (.ref d) [] = [(("_dark" : Str), V.ref d)] := rfl
theorem hf_put2 (d b : Addr) : putF "_back" (.ref b) [(("_dark" : Str), V.ref d)] = hf d b := by
  show (if ("_dark" : Str) = "_back" then _ else _) = _
  rw [if_neg (by decide +kernel)]; rfl
theorem hf1_dark (d : Addr) : [(("_dark" : Str), V.ref d)].lookup ("_dark" : Str) = some (.ref d) := by simp [List.lookup]
structure HandAt (Z : Ad) (K : PySem.W.Frag) (H : Hp) (h d b : Addr) (L : Int) (ss : List Pr) : Prop where
  ex : ∃ dx, H h = some (.ins Z.C_Hand dx (hf d b))
  dark : DarkAt Z K H d L (heardAll L (frs ss))
  back : DarkAt Z K H b L (heardAll L (bk (heardAll L (frs ss))))
theorem HandAt.same {Z : Ad} {K : PySem.W.Frag} {H H' : Hp} {h d b : Addr} {L : Int} {ss : List Pr} (A : HandAt Z K H h d b L ss) (S : Same H H') : HandAt Z K H' h d b L ss := by
  obtain ⟨dx, e⟩ := A.ex
  exact ⟨⟨dx, S _ _ e⟩, A.dark.same S, A.back.same S⟩
theorem HandAt.keep {Z : Ad} {K : PySem.W.Frag} {H H' : Hp} {t g h d b : Addr} {n : Nat} {L : Int} {ss : List Pr} (A : HandAt Z K H h d b L ss) (T : Tray H t g n) (k : Keep t g H H') (o1 : Off Z H d L t g) (o2 : Off Z H b L t g) : HandAt Z K H' h d b L ss ∧ Off Z H' d L t g ∧ Off Z H' b L t g := by
  obtain ⟨dx, e⟩ := A.ex
  have hh : h ≠ t ∧ h ≠ g := by
    obtain ⟨⟨gs, f, c, e1, e2, r⟩, hne⟩ := T
    refine ⟨?_, ?_⟩ <;> rintro rfl
    · rw [e] at e1; cases e1
    · rw [e] at e2; cases e2
  obtain ⟨d1, o1'⟩ := A.dark.keep T k o1
  obtain ⟨b1, o2'⟩ := A.back.keep T k o2
  exact ⟨⟨⟨dx, k _ _ e hh.1 hh.2⟩, d1, b1⟩, o1', o2'⟩
def spHand (Z : Ad) (K : PySem.W.Frag) : Sp := fun vs H Q _ => ∃ (h dx : Addr) (v : V) (L : Int) (ss : List Pr), vs = [.ref h, .int L, v] ∧ H h = some (.ins Z.C_Hand dx []) ∧ Dp K H v (.list (ss.map encP)) ∧ 0 < ss.length ∧ ss.length ≤ 28 ∧ 0 < L ∧ L.natAbs < 2 ^ 200 ∧ (∀ s ∈ ss, SzP 280 s) ∧
  ∀ H' d b, HandAt Z K H' h d b L ss → (∀ la dx, H' d = some (.ins Z.C dx (df L la)) → H la = none) → (∀ la dx, H' b = some (.ins Z.C dx (df L la)) → H la = none) → Out h H H' → Q .non H'
def spHBack (Z : Ad) (K : PySem.W.Frag) : Sp := fun vs H Q _ => ∃ (h d b : Addr) (L y : Int) (ss : List Pr), vs = [.ref h, .int y] ∧ HandAt Z K H h d b L ss ∧ 0 < ss.length ∧ y.natAbs < 2 ^ 400 ∧
  ∀ m H', Same H H' → IsBest "fast" (ups ss) y L m → Q (.int m) H'
theorem ups_fast (ss : List Pr) : sideOf "fast" (ups ss) = ups ss := List.filter_eq_self.mpr fun l hl => by
  obtain ⟨s, _, rfl⟩ := List.mem_map.mp hl
  show onSide "fast" "upto" = true
  decide +kernel
/-- what the Dark led back tells is what the steps tell -/
theorem back_best {L : Int} (hL : 0 < L) {ss : List Pr} {y m : Int} (h : IsBest "fast" (sideOf "fast" (heardAll L (bk (heardAll L (frs ss))))) y L m) : IsBest "fast" (ups ss) y L m := by
  have h2 := best_home hL (ls := bk (frs ss)) (fun o => (heardAll_mem o).trans (bk_home hL heardAll_mem o)) h
  rwa [bk_frs, ups_fast] at h2
theorem back_some {L : Int} {ss : List Pr} (h0 : 0 < ss.length) : sideOf "fast" (heardAll L (bk (heardAll L (frs ss)))) ≠ [] := by
  intro e
  obtain ⟨s, hs⟩ := List.exists_mem_of_length_pos h0
  have h1 : home L (fr1 s) ∈ heardAll L (frs ss) := (heardAll_mem _).mpr ⟨fr1 s, List.mem_map.mpr ⟨s, hs, rfl⟩, rfl⟩
  have h2 : upL (home L (fr1 s)) ∈ bk (heardAll L (frs ss)) := mem_bk.mpr ⟨_, h1, .inl ⟨by show ¬ (("from" : Str) = "upto"); decide +kernel, rfl⟩⟩
  have h3 : home L (upL (home L (fr1 s))) ∈ sideOf "fast" (heardAll L (bk (heardAll L (frs ss)))) := mem_side.mpr ⟨(heardAll_mem _).mpr ⟨_, h2, rfl⟩, by show onSide "fast" "upto" = true; decide +kernel⟩
  rw [e] at h3; cases h3
section
variable {P : Program} {w : World} {K : PySem.W.Frag} {mg : Str → Option Value} {base : Heap} {Z : Ad}
theorem ok_Hand_init (T : Tx K w mg Z) : FnOk P w K mg base CX0 7 Z.a_Hand_init Z.d_Hand_init P_Hand_init (spHand Z K) := by
  refine T.F_Hand_init.ok scHand_init (fun vs H Q E h => ?_) (fun cdv A outer s H vs Q E hr h => ?_)
  · obtain ⟨h, dx, v, L, ss, rfl, _⟩ := h
    rfl
  · obtain ⟨h, dx, v, L, ss, rfl, hh, hv, h0, h28, hL, hLb, hsz, k⟩ := h
    obtain ⟨a, xs, rfl, ha, hd⟩ := dp_list hv
    have hxl : xs.length = ss.length := by rw [dpAll_len hd, List.length_map]
    refine ⟨_, (pss_cons (ps_fld (pv 0) (pe_make T.mk_Dark (ok_Dark_init T) (hr.mono (by decide)) (by rfl) T.g_Dark T.bb_Dark_init .nil pass0 (pa_cons (pv 1) pa_nil)) rfl)
      (C8.pss_cut (ps_if (pt_not (pt_truth (pv 2) (by intro _; rfl))) (pss_one ps_never) pss_nil)
      (pss_cons (ps_for PassesOwn.never rfl (pi_list (pv 2)) (tupK (K := K) (by rfl) (pgs_cons (pg_name (i := 3) scHand_init.nd rfl (Or.inl rfl)) (pgs_cons (pg_name (i := 4) scHand_init.nd rfl (Or.inl rfl)) pgs_nil))) (pss_one (ps_expr (pe_meth (fldK (K := K) (pv 0) rfl) T.cl T.m_Dark_hear (ok_Dark_hear T) (hr.mono (by decide)) T.bb_Dark_hear .nil pass0 (pa_cons pe_str (pa_cons (pv 3) (pa_cons (pv 4) pa_nil)))))))
      (pss_one (ps_fld (pv 0) (pe_meth0 (fldK (K := K) (pv 0) rfl) T.cl T.m_Dark_led_back (ok_Dark_led_back T) (hr.mono (by decide)) T.bb_Dark_led_back .nil pass0) rfl))))), ?_⟩
    refine ⟨_, rfl, fun d dxd hdn hdx hne => ?_⟩
    have S0 : Same H (upd (upd H dxd (.own d)) d (.ins Z.C dxd [])) := same_made hdn hdx
    refine ⟨d, dxd, L, rfl, upd_same, hL, hLb, fun H1 D1 f1 k1 => ⟨rfl, ?_⟩⟩
    have S1 : Same H H1 := fun b o e => k1 b o (S0 b o e) (ne_of_none e hdn)
    have hdh : d ≠ h := Ne.symm (ne_of_none hh hdn)
    have gh1 := S1 _ _ hh
    refine ⟨_, rfl, h, Z.C_Hand, dx, [], rfl, gh1, T.cl_Hand, T.nHand__dark, (by show 0 < 1000; decide), ?_⟩
    rw [hf_put1]
    have O2 : Out h H1 (upd H1 h (.ins Z.C_Hand dx [(("_dark" : Str), V.ref d)])) := fun b o e n => (upd_ne n).trans e
    have gh2 : (upd H1 h (.ins Z.C_Hand dx [(("_dark" : Str), V.ref d)])) h = some (.ins Z.C_Hand dx [(("_dark" : Str), V.ref d)]) := upd_same
    have D2 := O2.dark D1 gh1 hdh
    have F2 : ∀ la dx', (upd H1 h (.ins Z.C_Hand dx [(("_dark" : Str), V.ref d)])) d = some (.ins Z.C dx' (df L la)) → H la = none := fun la dx' e => by
      rw [upd_ne hdh] at e
      exact S0.free (f1 la dx' e)
    generalize upd H1 h (.ins Z.C_Hand dx [(("_dark" : Str), V.ref d)]) = H2 at O2 gh2 D2 F2 ⊢
    have O : Out h H H2 := fun b o e n => O2 b o (S1 b o e) n
    have ha2 := O.sqL hh ha
    refine ⟨fun σ' H' => σ' = [some (.ref h), some (.int L), some (.ref a), none, none] ∧ H' = H2, ?_, ?_⟩
    · refine ⟨_, rfl, _, .inl ⟨xs, ha2, rfl⟩, ?_⟩
      cases xs with
      | nil => simp at hxl; omega
      | cons y ys => exact iteF ⟨rfl, rfl⟩
    · rintro σ1 H3 ⟨rfl, rfl⟩
      refine ⟨_, rfl, a, rfl, ⟨_, ha2⟩, ?_⟩
      refine for_list (K := K) (a := a) (xs := xs) (fun i σ' H' => ∃ u3 u4, σ' = [some (.ref h), some (.int L), some (.ref a), u3, u4] ∧ (∀ b o, H3 b = some o → b ≠ d → H' b = some o) ∧ DarkAt Z K H' d L ((frs (ss.take i)).foldl (heard L) []) ∧ ∀ la dx', H' d = some (.ins Z.C dx' (df L la)) → H la = none)
        ⟨_, _, rfl, fun _ _ e _ => e, D2, F2⟩ (fun i σ' H' _ ⟨_, _, _, kd, _⟩ => ?_) ?_ ?_
      · obtain ⟨dx', la', vs', q1, _⟩ := D2.ex
        exact Out.sqL (d := d) kd q1 ha2
      · rintro i y σ' H' hi ⟨u3, u4, rfl, kd, D, F⟩
        obtain ⟨e, hdi, hdy⟩ := dpAll_get hd hi
        obtain ⟨s, hs, rfl⟩ := map_at hdi
        have hss := hsz s (List.mem_of_getElem? hs)
        have hi28 : i < ss.length := (List.getElem?_eq_some_iff.mp hs).1
        obtain ⟨dx2, la2, vs2, q1, q2, q3⟩ := id D2.ex
        have tt : Tups H H' := (O.tups hh).trans (Out.tups (d := d) kd q1)
        obtain ⟨p, rfl, hp⟩ := dp_pair (dp_tups tt _ _ (noL_encP s) hdy)
        refine ⟨_, _, rfl, hp, rfl, _, _, rfl, _, _, rfl, rfl, ?_⟩
        have gh' := kd _ _ gh2 (Ne.symm hdh)
        obtain ⟨dx3, la3, vs3, r1, r2, r3⟩ := id D.ex
        refine ⟨_, rfl, h, Z.C_Hand, dx, _, _, rfl, gh', T.cl_Hand, T.nHand__dark, hf1_dark d, d, dx3, _, rfl, r1, df_no _ _ (by decide +kernel) (by decide +kernel), _, rfl, _, rfl, d, L, (frs (ss.take i)).foldl (heard L) [], fr1 s, rfl, D, .inr (.inl rfl), ⟨lt_up hss.1 (by decide), lt_up hss.2 (by decide)⟩, ?_, fun o ho => ?_, fun H4 D4 f4 k4 => ?_⟩
        · have h5 := fold_len (L := L) (frs (ss.take i)) []
          have h6 : (frs (ss.take i)).length ≤ i := by unfold frs; rw [List.length_map, List.length_take]; omega
          simp only [List.length_nil] at h5; omega
        · rcases (fold_mem _ _ _).mp ho with h | ⟨q, hq, rfl⟩
          · cases h
          · obtain ⟨s', _, rfl⟩ := List.mem_map.mp hq
            exact clash_from rfl rfl
        · refine ⟨_, _, rfl, fun b o e n => k4 b o (kd b o e n) n, ?_, fun la dx' e => ?_⟩
          · have e : frs (ss.take (i + 1)) = frs (ss.take i) ++ [fr1 s] := by
              unfold frs; rw [take_snoc hs, List.map_append]; rfl
            rw [e, List.foldl_append]; exact D4
          · rcases f4 la dx' e with ⟨dx'', e'⟩ | e'
            · exact F la dx'' e'
            · cases hc : H la with
              | none => rfl
              | some o =>
                have hlh : la ≠ d := fun q => by rw [q, hdn] at hc; cases hc
                by_cases hh2 : la = h
                · rw [hh2, gh'] at e'; cases e'
                · rw [kd _ _ (O _ _ hc hh2) hlh] at e'; cases e'
      · rintro σ' H' ⟨u3, u4, rfl, kd, D, F⟩
        rw [List.take_of_length_le (by rw [hxl]; exact Nat.le_refl _)] at D
        replace D : DarkAt Z K H' d L (heardAll L (frs ss)) := D
        have gh' := kd _ _ gh2 (Ne.symm hdh)
        obtain ⟨dx3, la3, vs3, r1, r2, r3⟩ := id D.ex
        have hfl : (heardAll L (frs ss)).length ≤ 28 := by
          have h5 := fold_len (L := L) (frs ss) []
          have h6 : (frs ss).length = ss.length := by unfold frs; rw [List.length_map]
          unfold heardAll
          simp only [List.length_nil] at h5; omega
        have hsz2 : ∀ l ∈ heardAll L (frs ss), Sized 290 l := fun l hl => by
          obtain ⟨q, hq, rfl⟩ := (heardAll_mem _).mp hl
          obtain ⟨s, hs, rfl⟩ := List.mem_map.mp hq
          have hs2 := hsz s hs
          exact (home_sz (n := 280) hL hLb (by decide) (⟨hs2.1, hs2.2⟩ : Sized 280 (fr1 s))).up (by decide)
        have hnc : ∀ x ∈ heardAll L (frs ss), ∀ y ∈ heardAll L (frs ss), clashB x y L = false := fun x hx y hy => by
          obtain ⟨q, hq, rfl⟩ := (heardAll_mem _).mp hx
          obtain ⟨q2, hq2, rfl⟩ := (heardAll_mem _).mp hy
          obtain ⟨s, _, rfl⟩ := List.mem_map.mp hq
          obtain ⟨s2, _, rfl⟩ := List.mem_map.mp hq2
          exact clash_from rfl rfl
        refine ⟨_, rfl, h, Z.C_Hand, dx, _, _, rfl, gh', T.cl_Hand, T.nHand__dark, hf1_dark d, d, dx3, _, rfl, r1, df_no _ _ (by decide +kernel) (by decide +kernel), d, L, heardAll L (frs ss), rfl, D, hsz2, hnc, Nat.le_trans (bk_len _) (by omega), fun H4 b hb S4 B4 f4 => ?_⟩
        have gh4 := S4 _ _ gh'
        have hbh : b ≠ h := Ne.symm (ne_of_none gh' hb)
        refine ⟨_, rfl, h, Z.C_Hand, dx, _, rfl, gh4, T.cl_Hand, T.nHand__back, (by show 1 < 1000; decide), ?_⟩
        rw [hf_put2]
        have O5 : Out h H4 (upd H4 h (.ins Z.C_Hand dx (hf d b))) := fun b o e n => (upd_ne n).trans e
        have fre : ∀ la, H' la = none → H la = none := fun la e' => by
          cases hc : H la with
          | none => rfl
          | some o =>
            have hlh : la ≠ d := fun q => by rw [q, hdn] at hc; cases hc
            by_cases hh2 : la = h
            · rw [hh2, gh'] at e'; cases e'
            · rw [kd _ _ (O _ _ hc hh2) hlh] at e'; cases e'
        refine k _ d b ⟨⟨dx, upd_same⟩, O5.dark (D.same S4) gh4 hdh, O5.dark B4 gh4 hbh⟩ (fun la dx' e => ?_) (fun la dx' e => ?_) fun c o e n => (upd_ne n).trans (S4 _ _ (kd c o (O c o e n) (fun q => by rw [q, hdn] at e; cases e)))
        · rw [upd_ne hdh] at e
          obtain ⟨dx5, la5, vs5, z1, _⟩ := D.ex
          have z2 := S4 _ _ z1
          rw [e] at z2
          rw [df_inj z2]
          exact F la5 dx5 z1
        · rw [upd_ne hbh] at e
          exact fre _ (f4 la dx' e)
end
end KA
namespace KA
open PySem PySem.Spec PyProof.Rows L2 DP
/-! ### steps of a hand -/
def spStepsOf (K : PySem.W.Frag) : Sp := fun vs H Q _ => ∃ (t g : Addr) (n : Nat) (L : Int), vs = [.ref t, .int L] ∧ Tray H t g n ∧ n < 2 ^ 49 ∧ 0 < L ∧ L ≤ 10 ^ 30 ∧
  ∀ (H' : Hp) (p : Addr) (prs : List Pr), H p = none → At H H' t g (n + 9000) → LAt K H' p (prs.map encP) → 0 < prs.length → prs.length ≤ 24 → (∀ s ∈ prs, SzP 110 s) → Q (.ref p) H'
/-- the same steps, some turns on, in any order -/
structure AfarOf (L : Int) (ss qs : List Pr) : Prop where
  of : ∀ q ∈ qs, ∃ s ∈ ss, ∃ k : Int, q = (s.1 + k * L, s.2 + k * L)
  all : ∀ s ∈ ss, ∃ q ∈ qs, ∃ k : Int, q = (s.1 + k * L, s.2 + k * L)
theorem mem_erase {α : Type} {x : α} : ∀ {l : List α} (i : Nat), x ∈ l → l[i]? = some x ∨ x ∈ l.eraseIdx i
  | [], _, h => by cases h
  | a :: l, 0, h => by
    rcases List.mem_cons.mp h with e | e
    · exact .inl (by rw [e]; rfl)
    · exact .inr e
  | a :: l, i + 1, h => by
    rcases List.mem_cons.mp h with e | e
    · exact .inr (by rw [e]; exact List.mem_cons_self)
    · exact (mem_erase i e).imp id fun h => List.mem_cons_of_mem _ h
def spAfar (K : PySem.W.Frag) : Sp := fun vs H Q _ => ∃ (t g p : Addr) (n : Nat) (L : Int) (prs : List Pr) (m : Nat), vs = [.ref t, .int L, .ref p] ∧ Tray H t g n ∧ n < 2 ^ 55 ∧ 0 < L ∧ L ≤ 10 ^ 30 ∧ LAt K H p (prs.map encP) ∧ p ≠ t ∧ p ≠ g ∧ prs.length ≤ 24 ∧ 103 ≤ m ∧ (∀ s ∈ prs, SzP m s) ∧
  ∀ (H' : Hp) (q : Addr) (qs : List Pr), H q = none → At H H' t g (n + 60) → LAt K H' q (qs.map encP) → qs.length = prs.length → (∀ s ∈ qs, SzP (m + 2) s) → AfarOf L prs qs → Q (.ref q) H'
def spAt (K : PySem.W.Frag) : Sp := fun vs H Q _ => ∃ (v : V) (L x : Int) (prs : List Pr), vs = [.int L, v, .int x] ∧ Dp K H v (.list (prs.map encP)) ∧ 0 < L ∧ L.natAbs < 2 ^ 200 ∧ x.natAbs < 2 ^ 400 ∧ 0 < prs.length ∧ prs.length ≤ 100 ∧ (∀ s ∈ prs, SzP 300 s) ∧ ∀ m H', Same H H' → IsMaxL (leads L prs x) m → Q (.int m) H'
theorem dpAll_erase {K : PySem.W.Frag} {H : Hp} : ∀ {vs : List V} {ds : List PyData} (k : Nat), DpAll K H vs ds → DpAll K H (vs.eraseIdx k) (ds.eraseIdx k)
  | _, _, _, .nil => .nil
  | _, _, 0, .cons a b => b
  | _, _, k + 1, .cons a b => .cons a (dpAll_erase k b)
theorem map_erase {α β : Type} (f : α → β) : ∀ (l : List α) (k : Nat), (l.eraseIdx k).map f = (l.map f).eraseIdx k
  | [], _ => rfl
  | _ :: _, 0 => rfl
  | a :: l, k + 1 => by
    show f a :: (l.eraseIdx k).map f = f a :: (l.map f).eraseIdx k
    rw [map_erase f l k]
section
variable {P : Program} {w : World} {K : PySem.W.Frag} {mg : Str → Option Value} {base : Heap} {Z : Ad}
theorem ok_law_steps_of (T : Tx K w mg Z) : FnOk P w K mg base CX0 4 Z.a_law_steps_of Z.d_law_steps_of P_law_steps_of (spStepsOf K) := by
  refine T.F_law_steps_of.ok sclaw_steps_of (fun vs H Q E h => ?_) (fun cdv A outer s H vs Q E hr h => ?_)
  · obtain ⟨t, g, n, L, rfl, _⟩ := h
    rfl
  · obtain ⟨t, g, n, L, rfl, hT, hn, hL, hL30, k⟩ := h
    have hLb := bigL hL hL30
    have hb : ∀ m, m ≤ n + 9000 → m < 2 ^ 50 := fun m hm => Nat.lt_of_le_of_lt hm (Nat.lt_of_lt_of_le (Nat.add_lt_add_right hn 9000) (by decide))
    have hb' : ∀ m, m ≤ n + 9000 → m < 2 ^ 60 := fun m hm => Nat.lt_trans (hb m hm) (by decide)
    have A0 : At H H t g n := ⟨hT, Keep.refl _ _ _⟩
    have b4 : (4 * L).natAbs < 2 ^ 103 := by rw [Int.natAbs_mul]; exact Nat.lt_of_lt_of_le (Nat.mul_lt_mul_of_le_of_lt (Nat.le_refl 4) hLb (by decide)) (by decide)
    refine ⟨_, (pss_cons (ps_set (i := 2) sclaw_steps_of.nd rfl (Or.inl rfl) (pe_op op_add pe_int (pe_call (ok_law_take T) (hr.mono (by decide)) (by rfl) T.g_law_take T.F_law_take.kp T.bb_law_take .nil pass0 (pa_cons (pv 0) (pa_cons (pe_ix (ixL (K := K)) (pe_lst (pa_cons pe_int (pa_cons pe_int (pa_cons pe_int pa_nil)))) (pe_call (ok_law_take T) (hr.mono (by decide)) (by rfl) T.g_law_take T.F_law_take.kp T.bb_law_take .nil pass0 (pa_cons (pv 0) (pa_cons pe_int pa_nil))) (fun _ _ => rfl)) pa_nil)))))
      (C8.pss_cut (ps_if (pt_cmpR op_gt (pe_call (ok_law_take T) (hr.mono (by decide)) (by rfl) T.g_law_take T.F_law_take.kp T.bb_law_take .nil pass0 (pa_cons (pv 0) (pa_cons pe_int pa_nil))) pe_int (nomark _)) (pss_one (ps_ret (pe_call (ok_law_hidden T) (hr.mono (by decide)) (by rfl) T.g_law_hidden T.F_law_hidden.kp T.bb_law_hidden .nil pass0 (pa_cons (pv 0) (pa_cons (pv 1) (pa_cons (pv 2) pa_nil)))))) pss_nil)
      (pss_one (ps_ret (pe_lc (own := [("k", 3)]) (g := gName 3) (tt := tYes) rfl sclaw_steps_of.nd (pi_range1 (by rfl) T.b_range (pa_cons (pv 2) pa_nil)) (blkOk_by (own := [("k", 3)]) (N := N_law_steps_of) (sc := defScope slaw_steps_of) (by decide +kernel)) (fun _ _ _ _ _ => (pg_name (i := 3) sclaw_steps_of.nd rfl (Or.inl rfl))) (fun _ _ _ _ _ => pts_nil) (fun _ _ _ _ _ => (pe_tup (pa_cons (pe_call (ok_law_below T) (hr.mono (by decide)) (by rfl) T.g_law_below T.F_law_below.kp T.bb_law_below .nil pass0 (pa_cons (pv 0) (pa_cons (pv 1) pa_nil))) (pa_cons (pe_op op_sub (pe_call (ok_law_below T) (hr.mono (by decide)) (by rfl) T.g_law_below T.F_law_below.kp T.bb_law_below .nil pass0 (pa_cons (pv 0) (pa_cons (pe_op op_mulW pe_int (pv 1)) pa_nil))) (pe_op op_mulW pe_int (pv 1))) pa_nil))))))))), ?_⟩
    refine ⟨_, rfl, (by show 3 ≤ sizeLine; decide), fun q hq => ?_⟩
    obtain ⟨qt, qg⟩ := hT.at_ne hq
    have A1 := A0.new (o := HO.lst [V.int 3, .int 8, .int 24]) hq
    refine ⟨_, rfl, t, g, n, 3, rfl, A1.T, by decide, by decide, hb' _ (by omega), fun H2 c c0 c1 T2 k2 => ?_⟩
    have A2 := A1.step T2 k2
    obtain ⟨z, hz, hz0, hz1⟩ : ∃ z : Int, atI [V.int 3, .int 8, .int 24] c = some (.int z) ∧ 0 < z ∧ z ≤ 24 := by
      have : c = 0 ∨ c = 1 ∨ c = 2 := by omega
      rcases this with e | e | e <;> subst e
      · exact ⟨3, rfl, by decide, by decide⟩
      · exact ⟨8, rfl, by decide, by decide⟩
      · exact ⟨24, rfl, by decide, by decide⟩
    refine ⟨q, _, _, _, rfl, rfl, SqL.of (k2 _ _ upd_same qt qg), hz, t, g, n + 1, z, rfl, T2, hz0, Nat.lt_of_le_of_lt (by omega : z.natAbs ≤ 24) (by decide), hb' _ (by omega), fun H3 r r0 r1 T3 k3 => ?_⟩
    have A3 := A2.step T3 k3
    refine ⟨_, _, rfl, rfl, ?_⟩
    refine ⟨fun σ' H' => σ' = [some (.ref t), some (.int L), some (.int (1 + r)), none] ∧ At H H' t g (n + 3), ?_, ?_⟩
    · refine ⟨_, rfl, t, g, n + 2, 3, rfl, T3, by decide, by decide, hb' _ (by omega), fun H4 c' c'0 c'1 T4 k4 => ?_⟩
      have A4 := A3.step T4 k4
      refine ⟨_, _, rfl, rfl, _, rfl, ite2 (fun _ => ?_) (fun _ => ⟨rfl, A4⟩)⟩
      refine ⟨_, rfl, _, rfl, _, rfl, t, g, n + 3, L, 1 + r, rfl, T4, hb _ (by omega), hL, hL30, by omega, by omega, fun H5 p prs hp B5 lp R hl => ?_⟩
      refine k H5 p prs (A4.free hp) ((A4.step B5.T B5.k).up (by omega)) lp (List.length_pos_iff.mpr R.ne) (by omega) fun s hs => ?_
      obtain ⟨b, hb1, hb2⟩ := R.turn
      have h1 := R.on s hs
      have h2 := hb2 s hs
      refine ⟨lt_up (small_nat h1.1 (Int.le_of_lt h1.2) hLb) (by decide), ?_⟩
      have e1 : (2 : Nat) ^ 110 = 2 ^ 104 * 64 := by decide
      have e2 : (2 : Nat) ^ 100 ≤ 2 ^ 104 := by decide
      rw [e1]
      generalize (2 : Nat) ^ 104 = B at hb1 e2 ⊢
      generalize (2 : Nat) ^ 100 = C at hLb e2
      omega
    · rintro σ' H4 ⟨rfl, A4⟩
      refine ⟨_, rfl, 1 + r, rfl, by omega, by omega, fun D hD => ?_⟩
      obtain ⟨Dt, Dg⟩ := A4.T.at_ne hD
      have hDH := A4.free hD
      refine lc_range (lo := 0) (n := (1 + r).toNat) (fun i H' => At H H' t g (n + 3 + 120 * i) ∧ ∃ (vs : List V) (prs : List Pr), H' D = some (.lst vs) ∧ DpAll K H' vs (prs.map encP) ∧ prs.length = i ∧ ∀ s ∈ prs, SzP 110 s)
        ⟨A4.new hD, [], [], upd_same, .nil, rfl, fun _ z => by cases z⟩ ?_ ?_
      · rintro i H5 hi ⟨A5, vs, prs, hd, hds, hl, hsz⟩
        have hi24 : i < 24 := by omega
        refine ⟨rfl, yes_ite ?_⟩
        refine ⟨_, rfl, _, rfl, t, g, n + 3 + 120 * i, L, rfl, A5.T, hL, lt_up hLb (by decide), Nat.lt_trans (hb _ (by omega)) (by decide), fun H6 x x0 x1 T6 k6 => ?_⟩
        have A6 := A5.step T6 k6
        refine ⟨_, rfl, _, rfl, _, _, rfl, rfl, wide_mul (a := 10) (by decide) hLb (by decide) (by decide) (by decide), t, g, n + 3 + 120 * i + 60, 4 * L, rfl, T6, by omega, lt_up b4 (by decide), Nat.lt_trans (hb _ (by omega)) (by decide), fun H7 y y0 y1 T7 k7 => ?_⟩
        have A7 := A6.step T7 k7
        refine ⟨_, rfl, _, _, rfl, rfl, wide_mul (a := 10) (by decide) hLb (by decide) (by decide) (by decide), _, _, rfl, rfl, (by show 2 ≤ sizeLine; decide), fun q hq => ?_⟩
        have Sq := same_upd (o := HO.tup [V.int x, .int (y - 2 * L)]) hq
        have hd7 := Sq _ _ (k7 _ _ (k6 _ _ hd Dt Dg) Dt Dg)
        have hvl : vs.length = prs.length := by rw [dpAll_len hds, List.length_map]
        have hds7 := dpAll_mono Sq _ _ (dpAll_tups (Keep.tups T6 k7) _ _ (noLs_map noL_encP prs) (dpAll_tups (Keep.tups A5.T k6) _ _ (noLs_map noL_encP prs) hds))
        refine ⟨vs, hd7, small1000 (by omega), ((A7.new hq).acc hDH Dt Dg).up (by omega), _, prs ++ [(x, y - 2 * L)], upd_same, ?_, by simp [hl], fun s hs => ?_⟩
        · rw [List.map_append]
          exact acc_step hd7 (noLs_map noL_encP _) rfl hds7 (.tup (SqT.of upd_same) (.cons (.int _) (.cons (.int _) .nil)))
        · rcases List.mem_append.mp hs with h | h
          · exact hsz s h
          · rw [List.mem_singleton] at h
            subst h
            refine ⟨lt_up (small_nat x0 (Int.le_of_lt x1) hLb) (by decide), ?_⟩
            have : (y - 2 * L).natAbs ≤ (4 * L).natAbs := by clear hLb b4; omega
            exact Nat.lt_of_le_of_lt this (lt_up b4 (by decide))
      · rintro H5 ⟨A5, vs, prs, hd, hds, hl, hsz⟩
        exact k H5 D prs hDH (A5.up (by omega)) ⟨vs, hd, hds⟩ (by omega) (by omega) hsz
theorem ok_law_afar (T : Tx K w mg Z) : FnOk P w K mg base CX0 3 Z.a_law_afar Z.d_law_afar P_law_afar (spAfar K) := by
  refine T.F_law_afar.ok sclaw_afar (fun vs H Q E h => ?_) (fun cdv A outer s H vs Q E hr h => ?_)
  · obtain ⟨t, g, p, n, L, prs, m, rfl, _⟩ := h
    rfl
  · obtain ⟨t, g, p, n, L, prs, m, rfl, hT, hn, hL, hL30, hp, hpt, hpg, hlen, hm103, hsz, k⟩ := h
    have hLb := bigL hL hL30
    have hb' : ∀ m, m ≤ n + 60 → m < 2 ^ 60 := fun m hm => Nat.lt_of_le_of_lt hm (Nat.lt_of_lt_of_le (Nat.add_lt_add_right hn 60) (by decide))
    have A0 : At H H t g n := ⟨hT, Keep.refl _ _ _⟩
    obtain ⟨vs, hv1, hv2⟩ := hp
    have hvl : vs.length = prs.length := by rw [dpAll_len hv2, List.length_map]
    refine ⟨_, (pss_cons (ps_set (i := 3) sclaw_afar.nd rfl (Or.inl rfl) (pe_callTy (listK (K := K)) (by rfl) T.b_list (by decide +kernel) (pa_cons (pv 2) pa_nil)))
      (pss_cons (ps_set (i := 4) sclaw_afar.nd rfl (Or.inl rfl) (pe_lst pa_nil))
      (pss_cons (ps_for PassesOwn.never rfl (pi_range1 (by rfl) T.b_range (pa_cons (pe_callB (lenK (K := K)) (by rfl) T.b_len (by decide +kernel) (pa_cons (pv 2) pa_nil)) pa_nil)) (pg_name (i := 5) sclaw_afar.nd rfl (Or.inl rfl)) (pss_cons (ps_asg (pe_bm PySem.F.plainAttrs_list PySem.F.slot_list_pop PySem.F.type_list_pop mt_popAt (pv 3) (pa_cons (pe_call (ok_law_take T) (hr.mono (by decide)) (by rfl) T.g_law_take T.F_law_take.kp T.bb_law_take .nil pass0 (pa_cons (pv 0) (pa_cons (pe_callB (lenK (K := K)) (by rfl) T.b_len (by decide +kernel) (pa_cons (pv 3) pa_nil)) pa_nil))) pa_nil)) (tupK (K := K) (by rfl) (pgs_cons (pg_name (i := 6) sclaw_afar.nd rfl (Or.inl rfl)) (pgs_cons (pg_name (i := 7) sclaw_afar.nd rfl (Or.inl rfl)) pgs_nil))))
      (pss_cons (ps_set (i := 8) sclaw_afar.nd rfl (Or.inl rfl) (pe_op op_mulW (pe_op op_sub (pe_call (ok_law_take T) (hr.mono (by decide)) (by rfl) T.g_law_take T.F_law_take.kp T.bb_law_take .nil pass0 (pa_cons (pv 0) (pa_cons pe_int pa_nil))) pe_int) (pv 1)))
      (pss_one (ps_expr (pe_bm PySem.F.plainAttrs_list PySem.F.slot_list_append PySem.F.type_list_append mt_append (pv 4) (pa_cons (pe_tup (pa_cons (pe_op op_add (pv 6) (pv 8)) (pa_cons (pe_op op_add (pv 7) (pv 8)) pa_nil))) pa_nil)))))))
      (pss_one (ps_ret (pv 4)))))), ?_⟩
    refine ⟨_, rfl, p, vs, rfl, .inl (SqL.of hv1), fun lf hlf => ?_⟩
    obtain ⟨lt', lg⟩ := hT.at_ne hlf
    have hpl : p ≠ lf := ne_of_none hv1 hlf
    refine ⟨(by show 0 ≤ sizeLine; decide), fun fd hfd => ?_⟩
    have A1 := A0.new (o := HO.lst vs) hlf
    obtain ⟨fdt, fdg⟩ := A1.T.at_ne hfd
    have hfdH := A1.free hfd
    have hlfd : lf ≠ fd := ne_of_none upd_same hfd
    have A2 := A1.new (o := HO.lst []) hfd
    have hp2 : (upd (upd H lf (.lst vs)) fd (.lst [])) p = some (.lst vs) := (upd_ne (ne_of_none hv1 hfdH)).trans ((upd_ne hpl).trans hv1)
    refine ⟨_, rfl, p, vs, rfl, .inl (SqL.of hp2), (vs.length : Int), rfl, by omega, by omega, ?_⟩
    refine for_range (lo := 0) (n := (vs.length : Int).toNat) (fun i σ' H' => ∃ (u5 u6 u7 u8 : Option V) (rem qs : List Pr), σ' = [some (.ref t), some (.int L), some (.ref p), some (.ref lf), some (.ref fd), u5, u6, u7, u8] ∧ At H H' t g (n + 2 * i) ∧ LAt K H' lf (rem.map encP) ∧ LAt K H' fd (qs.map encP) ∧ rem.length + i = prs.length ∧ qs.length = i ∧ (∀ s ∈ rem, SzP m s) ∧ (∀ s ∈ qs, SzP (m + 2) s) ∧ (∀ s ∈ rem, s ∈ prs) ∧ (∀ q ∈ qs, ∃ s ∈ prs, ∃ k : Int, q = (s.1 + k * L, s.2 + k * L)) ∧ ∀ s ∈ prs, s ∈ rem ∨ ∃ q ∈ qs, ∃ k : Int, q = (s.1 + k * L, s.2 + k * L))
      ⟨_, _, _, _, prs, [], rfl, A2, ⟨vs, (upd_ne hlfd).trans upd_same, dpAll_mono ((same_upd hlf).trans (same_upd hfd)) _ _ hv2⟩, ⟨[], upd_same, .nil⟩, rfl, rfl, hsz, fun _ z => (by cases z), fun _ h => h, fun _ z => (by cases z), fun _ h => .inl h⟩ ?_ ?_
    · rintro i σ' H3 hi ⟨u5, u6, u7, u8, rem, qs, rfl, A3, ⟨rv, hr1, hr2⟩, lq3, hrl, hql, hsr, hsq, hin, hof, hall⟩
      have hi24 : i < 24 := by omega
      have hrvl : rv.length = rem.length := by rw [dpAll_len hr2, List.length_map]
      have hm0 : (0 : Int) < (rv.length : Int) := by omega
      refine ⟨_, rfl, .inl ⟨rfl, _, SqL.of hr1⟩, _, rfl, _, rfl, lf, rv, rfl, .inl (SqL.of hr1), t, g, n + 2 * i, (rv.length : Int), rfl, A3.T, hm0, Nat.lt_of_le_of_lt (by omega : (rv.length : Int).natAbs ≤ 24) (by decide), hb' _ (by omega), fun H4 c c0 c1 T4 k4 => ?_⟩
      have A4 := A3.step T4 k4
      have hr1' := k4 _ _ hr1 lt' lg
      have hr2' := dpAll_tups (Keep.tups A3.T k4) _ _ (noLs_map noL_encP rem) hr2
      have lq4 := lq3.keep A3.T k4 fdt fdg (noLs_map noL_encP qs)
      have hcl : c.toNat < rv.length := by omega
      obtain ⟨y, hy⟩ : ∃ y, rv[c.toNat]? = some y := ⟨rv[c.toNat], List.getElem?_eq_getElem hcl⟩
      obtain ⟨d, hdi, hdy⟩ := dpAll_get hr2' hy
      obtain ⟨s, hs, rfl⟩ := map_at hdi
      have hss := hsr s (List.mem_of_getElem? hs)
      refine ⟨lf, rv, c, c.toNat, y, rfl, rfl, hr1', by omega, by omega, seqIndex_of c0 (by omega), hy, ?_⟩
      have ty := Tups.upd_lst (o := .lst (rv.eraseIdx c.toNat)) hr1'
      obtain ⟨a, rfl, ha⟩ := dp_pair (dp_tups ty _ _ (noL_encP s) hdy)
      have lr5 : LAt K (upd H4 lf (.lst (rv.eraseIdx c.toNat))) lf ((rem.eraseIdx c.toNat).map encP) := by
        refine ⟨_, upd_same, ?_⟩
        rw [map_erase]
        exact dpAll_tups ty _ _ (by rw [← map_erase]; exact noLs_map noL_encP _) (dpAll_erase _ hr2')
      have lq5 : LAt K (upd H4 lf (.lst (rv.eraseIdx c.toNat))) fd (qs.map encP) := by
        obtain ⟨qv, q1, q2⟩ := lq4
        exact ⟨qv, (upd_ne (Ne.symm hlfd)).trans q1, dpAll_tups ty _ _ (noLs_map noL_encP qs) q2⟩
      have A5 := A4.acc (o := .lst (rv.eraseIdx c.toNat)) hlf lt' lg
      generalize upd H4 lf (.lst (rv.eraseIdx c.toNat)) = H5 at ha lr5 lq5 A5 ⊢
      refine ⟨_, _, rfl, ha, rfl, _, _, rfl, _, _, rfl, rfl, ?_⟩
      refine ⟨_, rfl, t, g, n + 2 * i + 1, 7, rfl, A5.T, by decide, by decide, hb' _ (by omega), fun H6 r r0 r1 T6 k6 => ?_⟩
      have A6 := A5.step T6 k6
      have hr3 : (r - 3).natAbs < 2 ^ 3 := Nat.lt_of_le_of_lt (by omega : (r - 3).natAbs ≤ 7) (by decide)
      refine ⟨_, _, rfl, rfl, _, rfl, _, _, rfl, rfl, wide_mul hr3 hLb (by decide) (by decide) (by decide), ?_⟩
      have hkL : ((r - 3) * L).natAbs < 2 ^ 103 := wide_lt hr3 hLb
      have lr6 := lr5.keep A5.T k6 lt' lg (noLs_map noL_encP _)
      obtain ⟨qv, q1, q2⟩ := lq5.keep A5.T k6 fdt fdg (noLs_map noL_encP qs)
      have hqvl : qv.length = qs.length := by rw [dpAll_len q2, List.length_map]
      refine ⟨_, rfl, .inl ⟨rfl, _, SqL.of q1⟩, _, rfl, _, rfl, _, _, rfl, rfl, _, rfl, _, rfl, _, _, rfl, rfl, (by show 2 ≤ sizeLine; decide), fun q hq => ?_⟩
      have Sq := same_upd (o := HO.tup [V.int (s.1 + (r - 3) * L), .int (s.2 + (r - 3) * L)]) hq
      refine ⟨fd, qv, _, rfl, rfl, Sq _ _ q1, small1000 (by omega), ?_⟩
      have A7 := (A6.new (o := HO.tup [V.int (s.1 + (r - 3) * L), .int (s.2 + (r - 3) * L)]) hq).acc (o := .lst (qv ++ [V.ref q])) hfdH fdt fdg
      refine ⟨_, _, _, _, rem.eraseIdx c.toNat, qs ++ [(s.1 + (r - 3) * L, s.2 + (r - 3) * L)], rfl, A7.up (by omega), ?_, ⟨_, upd_same, ?_⟩, ?_, by simp [hql], fun s' hs' => hsr s' (List.mem_of_mem_eraseIdx hs'), fun s' hs' => ?_, fun s' hs' => hin s' (List.mem_of_mem_eraseIdx hs'), fun q' hq' => ?_, fun s' hs' => ?_⟩
      · obtain ⟨xv, x1, x2⟩ := lr6.same Sq
        exact ⟨xv, (upd_ne hlfd).trans x1, dpAll_tups (Tups.upd_lst (Sq _ _ q1)) _ _ (noLs_map noL_encP _) x2⟩
      · rw [List.map_append]
        exact acc_step (Sq _ _ q1) (noLs_map noL_encP _) rfl (dpAll_mono Sq _ _ q2) (.tup (SqT.of upd_same) (.cons (.int _) (.cons (.int _) .nil)))
      · rw [List.length_eraseIdx_of_lt (by omega)]; omega
      · rcases List.mem_append.mp hs' with h | h
        · exact hsq s' h
        · rw [List.mem_singleton] at h
          subst h
          exact ⟨lt_up (add_lt hss.1 (lt_up hkL hm103)) (by omega), lt_up (add_lt hss.2 (lt_up hkL hm103)) (by omega)⟩
      · rcases List.mem_append.mp hq' with h | h
        · exact hof q' h
        · rw [List.mem_singleton] at h
          exact ⟨s, hin s (List.mem_of_getElem? hs), r - 3, h⟩
      · rcases hall s' hs' with h | ⟨q', hq', h⟩
        · rcases mem_erase c.toNat h with e | e
          · rw [hs] at e
            rw [← Option.some.inj e]
            exact .inr ⟨_, List.mem_append_right _ (List.mem_singleton.mpr rfl), r - 3, rfl⟩
          · exact .inl e
        · exact .inr ⟨q', List.mem_append_left _ hq', h⟩
    · rintro σ' H3 ⟨u5, u6, u7, u8, rem, qs, rfl, A3, lr3, lq3, hrl, hql, hsr, hsq, hin, hof, hall⟩
      refine ⟨_, rfl, k H3 fd qs hfdH (A3.up (by omega)) lq3 (by omega) hsq ⟨hof, fun s hs => (hall s hs).elim (fun h => ?_) id⟩⟩
      have e : rem = [] := List.eq_nil_of_length_eq_zero (by omega)
      rw [e] at h
      cases h
end
end KA
namespace KA
open PySem PySem.Spec PyProof.Rows L2 DP
/-! ### a hand among the deck's draws -/
/-- where steps lead x -/
theorem lead_ex (L : Int) {ss : List Pr} (h : 0 < ss.length) (x : Int) : ∃ m, IsMaxL (leads L ss x) m := by
  have key : ∀ l : List Int, l ≠ [] → ∃ m, IsMaxL l m := by
    intro l
    induction l with
    | nil => intro h; exact absurd rfl h
    | cons a l ih =>
      intro _
      by_cases hl : l = []
      · subst hl
        exact ⟨a, by simp, fun y hy => by simp at hy; omega⟩
      · obtain ⟨m, h1, h2⟩ := ih hl
        by_cases c : a ≤ m
        · exact ⟨m, List.mem_cons_of_mem _ h1, fun y hy => by
            rcases List.mem_cons.mp hy with e | e
            · omega
            · exact h2 y e⟩
        · exact ⟨a, List.mem_cons_self, fun y hy => by
            rcases List.mem_cons.mp hy with e | e
            · omega
            · have := h2 y e; omega⟩
  refine key _ fun e => ?_
  have e2 : ss = [] := List.map_eq_nil_iff.mp e
  rw [e2] at h
  cases h
theorem ups_near {L : Int} (hL : 0 < L) {ss : List Pr} {n : Nat} (hs : ∀ s ∈ ss, SzP n s) {y m : Int} (h : IsBest "fast" (ups ss) y L m) : (m - y).natAbs ≤ 2 ^ (n + 1) + L.natAbs := by
  obtain ⟨⟨l, hl, e⟩, _⟩ := h
  obtain ⟨s, hs', rfl⟩ := List.mem_map.mp hl
  have h1 := hs s hs'
  have h2 : (s.1 - s.2).natAbs < 2 ^ (n + 1) := sub_lt h1.1 h1.2
  rw [plc_fast] at e
  have e' : s.1 - (s.2 - y) / L * L = m := e
  have q := Int.mul_ediv_add_emod (s.2 - y) L
  have q0 := Int.emod_nonneg (s.2 - y) (show L ≠ 0 by omega)
  have q1 := Int.emod_lt_of_pos (s.2 - y) hL
  rw [Int.mul_comm] at q
  omega
theorem back_shift {L : Int} (hL : 0 < L) {ss : List Pr} {y m m' : Int} (h : IsBest "fast" (ups ss) y L m) (h' : IsBest "fast" (ups ss) (y + L) L m') : m' = m + L := by
  have h2 := best_shift hL 1 h
  rw [Int.one_mul] at h2
  exact best_one h' h2
/-- a hand, its two Darks not the deck -/
structure HAt (Z : Ad) (K : PySem.W.Frag) (H : Hp) (h d b : Addr) (L : Int) (ss : List Pr) (t g : Addr) : Prop where
  A : HandAt Z K H h d b L ss
  o1 : Off Z H d L t g
  o2 : Off Z H b L t g
theorem HAt.keep {Z : Ad} {K : PySem.W.Frag} {H H' : Hp} {t g h d b : Addr} {n : Nat} {L : Int} {ss : List Pr} (A : HAt Z K H h d b L ss t g) (T : Tray H t g n) (k : Keep t g H H') : HAt Z K H' h d b L ss t g := by
  obtain ⟨a1, a2, a3⟩ := A.A.keep T k A.o1 A.o2
  exact ⟨a1, a2, a3⟩
theorem HAt.same {Z : Ad} {K : PySem.W.Frag} {H H' : Hp} {t g h d b : Addr} {L : Int} {ss : List Pr} (A : HAt Z K H h d b L ss t g) (S : Same H H') : HAt Z K H' h d b L ss t g := ⟨A.A.same S, A.o1.same A.A.dark S, A.o2.same A.A.back S⟩
end KA
namespace KA
open PySem PySem.Spec PyProof.Rows L2 DP
/-! ### looks in order, each once -/
def leL (a b : Lk) : Bool := PySem.W.dataLe false encL a b
theorem leL_iff {a b : Lk} : leL a b = true ↔ (listOrd itemOrd).kle (PySem.W.keyToks (encL a)) (PySem.W.keyToks (encL b)) := by
  show (!PyProof.Rows.lexLt itemOrd (PySem.W.keyToks (encL b)) (PySem.W.keyToks (encL a))) = true ↔ PyProof.Rows.lexLt itemOrd (PySem.W.keyToks (encL b)) (PySem.W.keyToks (encL a)) = false
  cases PyProof.Rows.lexLt itemOrd (PySem.W.keyToks (encL b)) (PySem.W.keyToks (encL a)) <;> simp
theorem leL_trans (a b c : Lk) (h1 : leL a b = true) (h2 : leL b c = true) : leL a c = true := leL_iff.mpr (KeyOrd.kle_trans (leL_iff.mp h1) (leL_iff.mp h2))
theorem leL_total (a b : Lk) : (leL a b || leL b a) = true := by
  rw [Bool.or_eq_true]
  cases e : (listOrd itemOrd).blt (PySem.W.keyToks (encL b)) (PySem.W.keyToks (encL a)) with
  | false => exact .inl (leL_iff.mpr e)
  | true => exact .inr (leL_iff.mpr (KeyOrd.kle_of_klt (O := listOrd itemOrd) e))
theorem toks_inj {a b : Lk} (h : PySem.W.keyToks (encL a) = PySem.W.keyToks (encL b)) : a = b := by
  obtain ⟨⟨a1⟩, a2, a3⟩ := a
  obtain ⟨⟨b1⟩, b2, b3⟩ := b
  simp [encL, PySem.W.keyToks, PySem.W.keyToksAll] at h
  obtain ⟨h1, h2, h3⟩ := h
  rw [h1, h2, h3]
theorem leL_anti (a b : Lk) (h1 : leL a b = true) (h2 : leL b a = true) : a = b := toks_inj (KeyOrd.kle_antisymm (leL_iff.mp h1) (leL_iff.mp h2))
structure Canon (ms : List Lk) (S : Lk → Prop) : Prop where
  nd : ms.Nodup
  srt : ms.Pairwise (fun a b => leL a b = true)
  mem : ∀ o, o ∈ ms ↔ S o
theorem Canon.eq {ms ns : List Lk} {S S' : Lk → Prop} (a : Canon ms S) (b : Canon ns S') (h : ∀ o, S o ↔ S' o) : ms = ns :=
  List.Perm.eq_of_pairwise (fun x y _ _ h1 h2 => leL_anti x y h1 h2) a.srt b.srt ((List.perm_ext_iff_of_nodup a.nd b.nd).mpr fun o => (a.mem o).trans ((h o).trans (b.mem o).symm))
theorem Canon.iff {ms : List Lk} {S S' : Lk → Prop} (a : Canon ms S) (h : ∀ o, S o ↔ S' o) : Canon ms S' := ⟨a.nd, a.srt, fun o => (a.mem o).trans (h o)⟩
theorem canon_nil : Canon [] (fun _ => False) := ⟨.nil, .nil, fun o => by simp⟩
theorem canon_sort {ms : List Lk} (nd : ms.Nodup) : Canon (ms.mergeSort leL) (fun o => o ∈ ms) := ⟨(List.mergeSort_perm _ _).nodup_iff.mpr nd, List.pairwise_mergeSort leL_trans leL_total _, fun o => (List.mergeSort_perm _ _).mem_iff⟩
theorem heard_canon {L : Int} {hs : List Lk} {S : Lk → Prop} (c : Canon hs S) (l : Lk) : Canon (heard L hs l) (fun o => S o ∨ o = home L l) := by
  refine ⟨?_, ?_, fun o => ?_⟩
  · unfold heard
    split
    · exact c.nd
    · rename_i h
      exact (List.mergeSort_perm _ _).nodup_iff.mpr (List.nodup_append.mpr ⟨c.nd, List.pairwise_singleton _ _, fun a ha b hb e => h (by rw [List.mem_singleton] at hb; rw [← hb, ← e]; exact ha)⟩)
  · unfold heard
    split
    · exact c.srt
    · exact List.pairwise_mergeSort leL_trans leL_total _
  · rw [heard_mem, c.mem]
theorem fold_canon {L : Int} : ∀ (ls hs : List Lk) {S : Lk → Prop}, Canon hs S → Canon (ls.foldl (heard L) hs) (fun o => S o ∨ ∃ l ∈ ls, o = home L l)
  | [], hs, S, c => c.iff fun o => by simp
  | l :: ls, hs, S, c => (fold_canon ls _ (heard_canon c l)).iff fun o => by
    constructor
    · rintro ((h | h) | ⟨q, hq, h⟩)
      · exact .inl h
      · exact .inr ⟨l, List.mem_cons_self, h⟩
      · exact .inr ⟨q, List.mem_cons_of_mem _ hq, h⟩
    · rintro (h | ⟨q, hq, h⟩)
      · exact .inl (.inl h)
      · rcases List.mem_cons.mp hq with e | e
        · exact .inl (.inr (e ▸ h))
        · exact .inr ⟨q, e, h⟩
theorem fold0_canon (L : Int) (ls : List Lk) : Canon (ls.foldl (heard L) []) (fun o => ∃ l ∈ ls, o = home L l) := (fold_canon ls [] canon_nil).iff fun o => by simp
theorem filter_canon {hs : List Lk} {S : Lk → Prop} (c : Canon hs S) (q : Lk → Bool) : Canon (hs.filter q) (fun o => S o ∧ q o = true) := ⟨c.nd.filter _, c.srt.filter _, fun o => by rw [List.mem_filter, c.mem]⟩
/-! ### a set of looks, sorted -/
def keyL (l : Lk) : List Key := [.inr l.1, .inl l.2.1, .inl l.2.2]
theorem keyL_inj {a b : Lk} (h : keyL a = keyL b) : a = b := by
  obtain ⟨a1, a2, a3⟩ := a
  obtain ⟨b1, b2, b3⟩ := b
  simp [keyL] at h
  obtain ⟨h1, h2, h3⟩ := h
  rw [h1, h2, h3]
section
variable {K : PySem.W.Frag} {H : Hp}
theorem look_rows : ∀ {ls : List Lk} {xs : List V}, DpAll K H xs (ls.map encL) → ∃ ks : List (Addr × List Key), xs = ks.map (fun p => V.ref p.1) ∧ ks.map Prod.snd = ls.map keyL ∧ SD.Stand K H ks
  | [], xs, h => by
    have h' : DpAll K H xs [] := h
    cases h'
    exact ⟨[], rfl, rfl, fun p hp => by cases hp⟩
  | l :: ls, xs, h => by
    have h' : DpAll K H xs (encL l :: ls.map encL) := h
    cases h' with
    | cons h1 h2 =>
      obtain ⟨ks, e1, e2, st⟩ := look_rows h2
      obtain ⟨a, rfl, ha⟩ := dp_look h1
      refine ⟨(a, keyL l) :: ks, by rw [e1]; rfl, by rw [List.map_cons, e2]; rfl, fun p hp => ?_⟩
      rcases List.mem_cons.mp hp with e | e
      · rw [e]; exact ha
      · exact st p e
theorem rows_look : ∀ {ms : List Lk} {M : List (Addr × List Key)}, M.map Prod.snd = ms.map keyL → SD.Stand K H M → DpAll K H (M.map fun p => V.ref p.1) (ms.map encL)
  | [], [], _, _ => .nil
  | [], _ :: _, e, _ => by cases e
  | _ :: _, [], e, _ => by cases e
  | l :: ms, p :: M, e, st => by
    injection e with e1 e2
    have h1 := st p List.mem_cons_self
    rw [e1] at h1
    exact .cons (.tup h1 (.cons (.str _) (.cons (.int _) (.cons (.int _) .nil)))) (rows_look e2 fun q hq => st q (List.mem_cons_of_mem _ hq))
theorem keys_back : ∀ {ks : List (List Key)} {ls : List Lk}, (∀ k ∈ ks, ∃ l ∈ ls, k = keyL l) → ∃ ms : List Lk, ks = ms.map keyL ∧ ∀ m ∈ ms, m ∈ ls
  | [], _, _ => ⟨[], rfl, fun _ h => by cases h⟩
  | k :: ks, ls, h => by
    obtain ⟨l, hl, e⟩ := h k List.mem_cons_self
    obtain ⟨ms, e2, h2⟩ := keys_back (ks := ks) (ls := ls) fun q hq => h q (List.mem_cons_of_mem _ hq)
    refine ⟨l :: ms, by rw [e, e2]; rfl, fun m hm => ?_⟩
    rcases List.mem_cons.mp hm with z | z
    · rw [z]; exact hl
    · exact h2 m z
/-- sorted(set(looks)) -/
theorem set_sorted {P : Program} {w : World} {l : Addr} {xs : List V} {ls : List Lk} (hl : SqL K H l xs) (hd : DpAll K H xs (ls.map encL)) (hlen : ls.length < 64) {Q : VK}
    (q : ∀ p ys H' ms, Same H H' → H p = none → H' p = some (.lst ys) → DpAll K H' ys (ms.map encL) → Canon ms (fun o => o ∈ ls) → Q (.ref p) H') :
    SD.rSetD K P w [.ref l] H (fun v H' => SD.rSortSetD K P w [v] H' Q) := by
  obtain ⟨ks, e1, e2, st⟩ := look_rows hd
  have hkl : ks.length = ls.length := by rw [← List.length_map (f := Prod.snd), e2, List.length_map]
  subst e1
  refine ⟨l, ks, rfl, hl, st, by rw [hkl]; exact hlen, fun a M ha hM hall hone => ?_⟩
  have S1 := same_upd (o := SD.SetDO P w a M) ha
  have stM : SD.Stand K (upd H a (SD.SetDO P w a M)) M := SD.Stand.same (fun p hp => st p (hM p hp)) S1
  have inl : ∀ p ∈ M, ∃ l ∈ ls, p.2 = keyL l := fun p hp => by
    have h1 : p.2 ∈ ks.map Prod.snd := List.mem_map.mpr ⟨p, hM p hp, rfl⟩
    rw [e2] at h1
    obtain ⟨l, hl, e⟩ := List.mem_map.mp h1
    exact ⟨l, hl, e.symm⟩
  refine ⟨a, M, rfl, upd_same, stM, ⟨fun p hp p2 hp2 => ?_, fun p hp => ?_⟩, fun N p pm hp => ?_⟩
  · obtain ⟨l1, _, e1⟩ := inl p hp
    obtain ⟨l2, _, e2⟩ := inl p2 hp2
    unfold SD.encK
    rw [e1, e2]
    simp [keyL, SD.kD, PySem.W.alike, PySem.W.alikeAll]
  · obtain ⟨l1, _, e1⟩ := inl p hp
    rw [e1]; simp [keyL]
  · obtain ⟨ms, em, hms⟩ := keys_back (ks := N.map Prod.snd) (ls := ls) fun k hk => by
      obtain ⟨p, hp, e⟩ := List.mem_map.mp hk
      obtain ⟨l, hl, e2⟩ := inl p (pm.mem_iff.mp hp)
      exact ⟨l, hl, by rw [← e, e2]⟩
    have ndk : (ms.map keyL).Nodup := by rw [← em]; exact (pm.map Prod.snd).nodup_iff.mpr hone
    have nd : ms.Nodup := List.Pairwise.of_map keyL (fun _ _ hne e => hne (congrArg keyL e)) ndk
    have hsort : (N.mergeSort (PySem.W.dataLe false SD.encK)).map Prod.snd = (ms.mergeSort leL).map keyL := by
      rw [List.map_mergeSort (f := Prod.snd) (r := PySem.W.dataLe false SD.encK) (s := fun a b => PySem.W.dataLe false SD.encK (0, a) (0, b)) (fun a _ b _ => rfl), em]
      rw [List.map_mergeSort (f := keyL) (r := leL) (s := fun a b => PySem.W.dataLe false SD.encK (0, a) (0, b)) (fun a _ b _ => rfl)]
    have S2 := same_upd (o := HO.lst ((N.mergeSort (PySem.W.dataLe false SD.encK)).map fun q => V.ref q.1)) hp
    refine q p _ _ (ms.mergeSort leL) (S1.trans S2) (S1.free hp) upd_same (rows_look hsort (SD.Stand.same (fun r hr => stM r (pm.mem_iff.mp ((List.mergeSort_perm _ _).mem_iff.mp hr))) S2)) ((canon_sort nd).iff fun o => ⟨hms o, fun ho => ?_⟩)
    have h1 : keyL o ∈ ks.map Prod.snd := by rw [e2]; exact List.mem_map.mpr ⟨o, ho, rfl⟩
    obtain ⟨p2, hp2, e3⟩ := List.mem_map.mp h1
    have h2 := hall p2 hp2
    rw [e3, ← (pm.map Prod.snd).mem_iff, em] at h2
    obtain ⟨m, hm, e4⟩ := List.mem_map.mp h2
    rw [← keyL_inj e4]; exact hm
end
end KA
namespace KA
open PySem PySem.Spec PyProof.Rows L2 DP
theorem isiTK {X : Cx} {K : PySem.W.Frag} (h : X.K = K := by rfl) : CallR X (.builtin "isinstance") (rIsiT K) := by subst h; exact call_isiT
theorem ixA {X : Cx} {K : PySem.W.Frag} (h : X.K = K := by rfl) : IxR X (rIx K) := by subst h; exact ix_seq
theorem allK {X : Cx} {K : PySem.W.Frag} (hc : X.calm = true) (h : X.K = K := by rfl) : CallR X (.builtin "all") (rAll K) := by subst h; exact cr_all hc
theorem anyK {X : Cx} {K : PySem.W.Frag} (hc : X.calm = true) (h : X.K = K := by rfl) : CallR X (.builtin "any") (rAny K) := by subst h; exact cr_any hc
/-- no list of it is long, no part None or a dict -/
def fewD : PyData → Bool
  | .list xs => decide (xs.length ≤ 1000) && fewDs xs
  | .tuple xs => decide (xs.length ≤ 1000) && fewDs xs
  | .none => false
  | .dict _ => false
  | _ => true
where fewDs : List PyData → Bool
  | [] => true
  | x :: xs => fewD x && fewDs xs
def tyName : PyData → String
  | .none => "NoneType"
  | .bool _ => "bool"
  | .int _ => "int"
  | .str _ => "str"
  | .list _ => "list"
  | .tuple _ => "tuple"
  | .dict _ => "dict"
theorem ty_of {K : PySem.W.Frag} {H : Hp} {v : V} {d : PyData} (h : Dp K H v d) : TyX K H v (.type (tyName d)) := by
  cases h with
  | non => exact .base .non
  | bl b => exact .base (.bl b)
  | int i => exact .base (.int i)
  | str x => exact .base (.str x)
  | lst s a =>
    rcases s with (s | ⟨o, s⟩) | ⟨o, its, n, e, c, _⟩
    · exact .base (.lst s)
    · exact .base (.frz s)
    · exact .kList e c
  | tup s a =>
    rcases s with (s | ⟨o, s⟩) | ⟨o, its, n, e, c, _⟩
    · exact .base (.tup s)
    · exact .fTuple s
    · exact .kTuple e c
theorem few_at : ∀ {ds : List PyData} {i : Nat} {d : PyData}, fewD.fewDs ds = true → ds[i]? = some d → fewD d = true
  | [], _, _, _, h => by simp at h
  | a :: r, 0, d, n, h => by
    rw [fewD.fewDs, Bool.and_eq_true] at n
    have e : a = d := Option.some.inj h
    subst e; exact n.1
  | a :: r, i + 1, d, n, h => by
    rw [fewD.fewDs, Bool.and_eq_true] at n
    exact few_at n.2 (by simpa using h)
theorem depth_at : ∀ {ds : List PyData} {i : Nat} {d : PyData}, ds[i]? = some d → d.depth ≤ PyData.depthAll ds
  | [], _, _, h => by simp at h
  | a :: r, 0, d, h => by
    have e : a = d := Option.some.inj h
    subst e; rw [PyData.depthAll]; omega
  | a :: r, i + 1, d, h => by
    have := depth_at (ds := r) (i := i) (d := d) (by simpa using h)
    rw [PyData.depthAll]; omega
theorem ix_any {K : PySem.W.Frag} {H : Hp} {p : Addr} {xs : List V} {i : Int} {x : V} {Q : VK} (s : SqL K H p xs ∨ SqT K H p xs) (h : atI xs i = some x) (q : Q x H) : rIx K (.ref p) (.int i) H Q := by
  rcases s with s | s
  · exact .inl ⟨p, xs, i, x, rfl, rfl, s, h, q⟩
  · exact .inr (.inl ⟨p, xs, i, x, rfl, rfl, s, h, q⟩)
def spSame (K : PySem.W.Frag) (n : Nat) : Sp := fun vs H Q _ => ∃ (v u : V) (d : PyData), vs = [v, u] ∧ Dp K H v d ∧ Dp K H u d ∧ fewD d = true ∧ d.depth < n ∧ ∀ H', Same H H' → Q (.bl true) H'
theorem seq_same {K : PySem.W.Frag} {H H' : Hp} {p : Addr} {xs : List V} (S : Same H H') (s : SqL K H p xs ∨ SqT K H p xs) : SqL K H' p xs ∨ SqT K H' p xs := s.imp (Same.sqL S) (Same.sqT S)
theorem all_true (n : Nat) : (List.replicate n true).all id = true := by simp
section
variable {P : Program} {w : World} {K : PySem.W.Frag} {mg : Str → Option Value} {base : Heap} {Z : Ad}
theorem ok_law_same_of {k n : Nat} (T : Tx K w mg Z) (ih : FnOk P w K mg base CX0 k Z.a_law_same Z.d_law_same P_law_same (spSame K n)) : FnOk P w K mg base CX0 (k + 1) Z.a_law_same Z.d_law_same P_law_same (spSame K (n + 1)) := by
  refine T.F_law_same.ok sclaw_same (fun vs H Q E h => ?_) (fun cdv A outer s H vs Q E hr h => ?_)
  · obtain ⟨v, u, d, rfl, _⟩ := h
    rfl
  · obtain ⟨v, u, d, rfl, hv, hu, hf, hd, k⟩ := h
    refine ⟨_, (C8.pss_cut (ps_if (pt_val (pe_callB (isiTK (K := K)) (by rfl) T.b_isinstance (by decide +kernel) (pa_cons (pv 1) (pa_cons (pe_tup (pa_cons (pe_bltn (v := .ty "list") (by rfl) T.b_list (by decide +kernel) rfl) (pa_cons (pe_bltn (v := .ty "tuple") (by rfl) T.b_tuple (by decide +kernel) rfl) pa_nil))) pa_nil)))) (C8.pss_cut (ps_if (PW.pt (pw_or (pt_cmpR (neDK (K := K) hr.units) (pe_callB (isiK (K := K)) (by rfl) T.b_isinstance (by decide +kernel) (pa_cons (pv 0) (pa_cons (pe_bltn (v := .ty "list") (by rfl) T.b_list (by decide +kernel) rfl) pa_nil))) (pe_callB (isiK (K := K)) (by rfl) T.b_isinstance (by decide +kernel) (pa_cons (pv 1) (pa_cons (pe_bltn (v := .ty "list") (by rfl) T.b_list (by decide +kernel) rfl) pa_nil))) (nomark _)) (pw_or1 (pt_cmpR (neDK (K := K) hr.units) (pe_callB (isiK (K := K)) (by rfl) T.b_isinstance (by decide +kernel) (pa_cons (pv 0) (pa_cons (pe_bltn (v := .ty "tuple") (by rfl) T.b_tuple (by decide +kernel) rfl) pa_nil))) (pe_callB (isiK (K := K)) (by rfl) T.b_isinstance (by decide +kernel) (pa_cons (pv 1) (pa_cons (pe_bltn (v := .ty "tuple") (by rfl) T.b_tuple (by decide +kernel) rfl) pa_nil))) (nomark _))))) (pss_one (ps_ret pe_bl)) pss_nil)
      (pss_one (ps_ret (pe_and (pe_cmpR op_eq (pe_callB (lenK (K := K)) (by rfl) T.b_len (by decide +kernel) (pa_cons (pv 0) pa_nil)) (pe_callB (lenK (K := K)) (by rfl) T.b_len (by decide +kernel) (pa_cons (pv 1) pa_nil)) (nomark _)) (pe_one (pe_callB (allK (K := K) rfl) (by rfl) T.b_all (by decide +kernel) (pa_cons (pe_lc (own := [("k", 2)]) (g := gName 2) (tt := tYes) rfl sclaw_same.nd (pi_range1 (by rfl) T.b_range (pa_cons (pe_callB (lenK (K := K)) (by rfl) T.b_len (by decide +kernel) (pa_cons (pv 1) pa_nil)) pa_nil)) (blkOk_by (own := [("k", 2)]) (N := N_law_same) (sc := defScope slaw_same) (by decide +kernel)) (fun _ _ _ _ _ => (pg_name (i := 2) sclaw_same.nd rfl (Or.inl rfl))) (fun _ _ _ _ _ => pts_nil) (fun _ _ _ _ _ => (pe_call ih hr (by rfl) T.g_law_same T.F_law_same.kp T.bb_law_same .nil pass0 (pa_cons (pe_ix (ixA (K := K)) (pv 0) (pv 2) (fun _ _ => rfl)) (pa_cons (pe_ix (ixA (K := K)) (pv 1) (pv 2) (fun _ _ => rfl)) pa_nil))))) pa_nil))))))) pss_nil)
      (pss_one (ps_ret (pe_and (pe_cmpR (eqDK (K := K) hr.units) (pe_callB (isiK (K := K)) (by rfl) T.b_isinstance (by decide +kernel) (pa_cons (pv 0) (pa_cons (pe_bltn (v := .ty "bool") (by rfl) T.b_bool (by decide +kernel) rfl) pa_nil))) (pe_callB (isiK (K := K)) (by rfl) T.b_isinstance (by decide +kernel) (pa_cons (pv 1) (pa_cons (pe_bltn (v := .ty "bool") (by rfl) T.b_bool (by decide +kernel) rfl) pa_nil))) (nomark _)) (pe_one (pe_cmpR op_eq (pv 0) (pv 1) (nomark _))))))), ?_⟩
    -- a list or a tuple, or plain
    have kinds : (∃ (p q : Addr) (xs ys : List V) (ds : List PyData), v = .ref p ∧ u = .ref q ∧ (SqL K H p xs ∨ SqT K H p xs) ∧ (SqL K H q ys ∨ SqT K H q ys) ∧ DpAll K H xs ds ∧ DpAll K H ys ds ∧ ds.length ≤ 1000 ∧ fewD.fewDs ds = true ∧ PyData.depthAll ds < n ∧ (tyName d = "list" ∨ tyName d = "tuple")) ∨ ((tyName d = "int" ∨ tyName d = "bool" ∨ tyName d = "str") ∧ v = u) := by
      cases hu with
      | non => exact absurd hf (by decide)
      | bl b => cases hv; exact .inr ⟨.inr (.inl rfl), rfl⟩
      | int b => cases hv; exact .inr ⟨.inl rfl, rfl⟩
      | str b => cases hv; exact .inr ⟨.inr (.inr rfl), rfl⟩
      | lst s a =>
        cases hv with
        | lst s' a' =>
          rw [fewD, Bool.and_eq_true, decide_eq_true_eq] at hf
          rw [PyData.depth] at hd
          exact .inl ⟨_, _, _, _, _, rfl, rfl, .inl s', .inl s, a', a, hf.1, hf.2, by omega, .inl rfl⟩
      | tup s a =>
        cases hv with
        | tup s' a' =>
          rw [fewD, Bool.and_eq_true, decide_eq_true_eq] at hf
          rw [PyData.depth] at hd
          exact .inl ⟨_, _, _, _, _, rfl, rfl, .inr s', .inr s, a', a, hf.1, hf.2, by omega, .inr rfl⟩
    obtain ⟨b1, e1⟩ : ∃ b, kitB (tyName d) "list" = some b := by
      rcases kinds with ⟨_, _, _, _, _, _, _, _, _, _, _, _, _, _, e | e⟩ | ⟨e | e | e, _⟩ <;> rw [e]
      · exact ⟨true, by decide +kernel⟩
      · exact ⟨false, by decide +kernel⟩
      · exact ⟨false, by decide +kernel⟩
      · exact ⟨false, by decide +kernel⟩
      · exact ⟨false, by decide +kernel⟩
    obtain ⟨b2, e2⟩ : ∃ b, kitB (tyName d) "tuple" = some b := by
      rcases kinds with ⟨_, _, _, _, _, _, _, _, _, _, _, _, _, _, e | e⟩ | ⟨e | e | e, _⟩ <;> rw [e]
      · exact ⟨false, by decide +kernel⟩
      · exact ⟨true, by decide +kernel⟩
      · exact ⟨false, by decide +kernel⟩
      · exact ⟨false, by decide +kernel⟩
      · exact ⟨false, by decide +kernel⟩
    refine ⟨fun σ' H' => σ' = [some v, some u, none] ∧ Same H H' ∧ ((tyName d = "int" ∨ tyName d = "bool" ∨ tyName d = "str") ∧ v = u), ?_, ?_⟩
    · refine ⟨_, rfl, (by show 2 ≤ sizeLine; decide), fun tp htp => ?_⟩
      have S1 := same_upd (o := HO.tup [V.ty "list", .ty "tuple"]) htp
      rcases kinds with ⟨p, q, xs, ys, ds, ev, eu, sx, sy, hx, hy, hl, hfw, hdp, hty⟩ | ⟨hp, huv⟩
      · refine ⟨_, tp, _, _, _, true, rfl, upd_same, .cons (.ty _) (.cons (.ty _) .nil), ty_of (dp_mono S1 _ _ hu), ?_, _, rfl, iteT ?_⟩
        · rcases hty with e | e <;> rw [e]
          · exact kitAny_cons (b := true) (kit_ty (by decide +kernel)) nofun (fun _ => rfl)
          · exact kitAny_cons (b := false) (kit_ty (by decide +kernel)) (fun _ => kitAny_cons (b := true) (kit_ty (by decide +kernel)) nofun (fun _ => rfl)) nofun
        have hv1 := dp_mono S1 _ _ hv
        have hu1 := dp_mono S1 _ _ hu
        have sx1 := seq_same S1 sx
        have sy1 := seq_same S1 sy
        have hx1 := dpAll_mono S1 _ _ hx
        have hy1 := dpAll_mono S1 _ _ hy
        generalize upd H tp (.tup [V.ty "list", .ty "tuple"]) = H1 at S1 hv1 hu1 sx1 sy1 hx1 hy1 ⊢
        have lx := dpAll_len hx
        have ly := dpAll_len hy
        refine ⟨fun σ' H' => σ' = [some v, some u, none] ∧ H' = H1, ?_, ?_⟩
        · refine ⟨_, rfl, ⟨_, _, _, _, _, rfl, .ty _, ty_of hv1, kit_ty e1, _, rfl, ⟨_, _, _, _, _, rfl, .ty _, ty_of hu1, kit_ty e1, .bool b1, .bool b1, .bl _, .bl _, rfl, rfl, _, rfl, ?_⟩⟩⟩
          have d1 : (!PyData.eqv (.bool b1) (.bool b1)) = false := by simp [PyData.eqv]
          rw [d1]
          refine iteF ⟨_, rfl, ⟨_, _, _, _, _, rfl, .ty _, ty_of hv1, kit_ty e2, _, rfl, ⟨_, _, _, _, _, rfl, .ty _, ty_of hu1, kit_ty e2, .bool b2, .bool b2, .bl _, .bl _, rfl, rfl, _, rfl, ?_⟩⟩⟩
          have d2 : (!PyData.eqv (.bool b2) (.bool b2)) = false := by simp [PyData.eqv]
          rw [d2]
          exact iteF ⟨rfl, rfl⟩
        rintro σ2 H2 ⟨rfl, rfl⟩
        subst ev eu
        refine ⟨_, rfl, p, xs, rfl, sx1, _, rfl, q, ys, rfl, sy1, rfl, _, rfl, ?_⟩
        have d1 : decide (V.int (xs.length : Int) = V.int (ys.length : Int)) = true := by rw [lx, ly]; simp
        rw [d1]
        refine iteT ?_
        refine ⟨_, rfl, q, ys, rfl, sy1, (ys.length : Int), rfl, ?_, ?_, fun D hD => ?_⟩
        · exact Int.le_trans (by decide) (Int.natCast_nonneg _)
        · have : (ys.length : Int) ≤ 1000 := by rw [ly]; exact_mod_cast hl
          exact Int.lt_of_le_of_lt this (by decide)
        refine lc_range (lo := 0) (n := (ys.length : Int).toNat) (fun i H' => Same H2 H' ∧ H' D = some (.lst ((List.replicate i true).map V.bl))) ⟨same_upd hD, upd_same⟩ ?_ ?_
        · rintro i H' hi ⟨S2, gD⟩
          have hi' : i < ds.length := by rw [← ly]; simpa using hi
          obtain ⟨e, he⟩ : ∃ e, ds[i]? = some e := ⟨ds[i], List.getElem?_eq_getElem hi'⟩
          obtain ⟨x, hxi, hxe⟩ := dpAll_get' hx1 he
          obtain ⟨y, hyi, hye⟩ := dpAll_get' hy1 he
          refine ⟨rfl, yes_ite ?_⟩
          refine ⟨_, rfl, _, rfl, ?_⟩
          refine ix_any (K := K) (seq_same S2 sx1) (at_of (by simp) hxi) ?_
          refine ⟨_, rfl, _, rfl, ?_⟩
          refine ix_any (K := K) (seq_same S2 sy1) (at_of (by simp) hyi) ?_
          refine ⟨x, y, e, rfl, dp_mono S2 _ _ hxe, dp_mono S2 _ _ hye, few_at hfw he, Nat.lt_of_le_of_lt (depth_at he) hdp, fun H3 S3 => ?_⟩
          refine ⟨_, S3 _ _ gD, small1000 (by simp; omega), same_set (S2.trans S3) hD, ?_⟩
          rw [List.replicate_succ', List.map_append]
          exact upd_same
        · rintro H' ⟨S2, gD⟩
          refine ⟨D, _, rfl, SqL.of gD, ?_⟩
          rw [all_true]
          exact k H' (S1.trans S2)
      · refine ⟨_, tp, _, _, _, false, rfl, upd_same, .cons (.ty _) (.cons (.ty _) .nil), ty_of (dp_mono S1 _ _ hu), ?_, _, rfl, iteF ⟨rfl, S1, hp, huv⟩⟩
        rcases hp with e | e | e <;> rw [e]
        · exact kitAny_cons (b := false) (kit_ty (by decide +kernel)) (fun _ => kitAny_cons (b := false) (kit_ty (by decide +kernel)) (fun _ => rfl) nofun) nofun
        · exact kitAny_cons (b := false) (kit_ty (by decide +kernel)) (fun _ => kitAny_cons (b := false) (kit_ty (by decide +kernel)) (fun _ => rfl) nofun) nofun
        · exact kitAny_cons (b := false) (kit_ty (by decide +kernel)) (fun _ => kitAny_cons (b := false) (kit_ty (by decide +kernel)) (fun _ => rfl) nofun) nofun
    rintro σ1 H1 ⟨rfl, S1, hp, rfl⟩
    have hv1 := dp_mono S1 _ _ hv
    obtain ⟨b3, e3⟩ : ∃ b, kitB (tyName d) "bool" = some b := by
      rcases hp with e | e | e <;> rw [e]
      · exact ⟨false, by decide +kernel⟩
      · exact ⟨true, by decide +kernel⟩
      · exact ⟨false, by decide +kernel⟩
    refine ⟨_, rfl, ⟨_, _, _, _, _, rfl, .ty _, ty_of hv1, kit_ty e3, _, rfl, ⟨_, _, _, _, _, rfl, .ty _, ty_of hv1, kit_ty e3, .bool b3, .bool b3, .bl _, .bl _, rfl, rfl, _, rfl, ?_⟩⟩⟩
    have d2 : PyData.eqv (.bool b3) (.bool b3) = true := by simp [PyData.eqv]
    rw [d2]
    refine iteT ⟨_, rfl, _, rfl, ?_⟩
    have kk := k H1 S1
    cases hv with
    | non => exact absurd hf (by decide)
    | bl b => exact ⟨rfl, by simpa using kk⟩
    | int b => exact ⟨rfl, by simpa using kk⟩
    | str b => exact ⟨rfl, by simpa using kk⟩
    | lst s a => exact absurd hp (by simp [tyName])
    | tup s a => exact absurd hp (by simp [tyName])
theorem ok_law_same0 (T : Tx K w mg Z) : FnOk P w K mg base CX0 1 Z.a_law_same Z.d_law_same P_law_same (spSame K 0) := by
  refine T.F_law_same.ok sclaw_same (fun vs H Q E h => ?_) (fun cdv A outer s H vs Q E hr h => ?_)
  · obtain ⟨v, u, d, rfl, _⟩ := h
    rfl
  · obtain ⟨v, u, d, rfl, hv, hu, hf, hd, k⟩ := h
    exact absurd hd (Nat.not_lt_zero _)
theorem ok_law_same (T : Tx K w mg Z) : ∀ n, FnOk P w K mg base CX0 (n + 1) Z.a_law_same Z.d_law_same P_law_same (spSame K n)
  | 0 => ok_law_same0 T
  | n + 1 => ok_law_same_of T (ok_law_same T n)
end
end KA
namespace KA
open PySem PySem.Spec PyProof.Rows L2 DP
/-! ### pairs in order, each once -/
def leP (a b : Pr) : Bool := PySem.W.dataLe false encP a b
theorem leP_iff {a b : Pr} : leP a b = true ↔ (listOrd itemOrd).kle (PySem.W.keyToks (encP a)) (PySem.W.keyToks (encP b)) := by
  show (!PyProof.Rows.lexLt itemOrd (PySem.W.keyToks (encP b)) (PySem.W.keyToks (encP a))) = true ↔ PyProof.Rows.lexLt itemOrd (PySem.W.keyToks (encP b)) (PySem.W.keyToks (encP a)) = false
  cases PyProof.Rows.lexLt itemOrd (PySem.W.keyToks (encP b)) (PySem.W.keyToks (encP a)) <;> simp
theorem leP_trans (a b c : Pr) (h1 : leP a b = true) (h2 : leP b c = true) : leP a c = true := leP_iff.mpr (KeyOrd.kle_trans (leP_iff.mp h1) (leP_iff.mp h2))
theorem leP_total (a b : Pr) : (leP a b || leP b a) = true := by
  rw [Bool.or_eq_true]
  cases e : (listOrd itemOrd).blt (PySem.W.keyToks (encP b)) (PySem.W.keyToks (encP a)) with
  | false => exact .inl (leP_iff.mpr e)
  | true => exact .inr (leP_iff.mpr (KeyOrd.kle_of_klt (O := listOrd itemOrd) e))
theorem toksP_inj {a b : Pr} (h : PySem.W.keyToks (encP a) = PySem.W.keyToks (encP b)) : a = b := by
  obtain ⟨a2, a3⟩ := a
  obtain ⟨b2, b3⟩ := b
  simp [encP, PySem.W.keyToks, PySem.W.keyToksAll] at h
  obtain ⟨h2, h3⟩ := h
  rw [h2, h3]
theorem leP_anti (a b : Pr) (h1 : leP a b = true) (h2 : leP b a = true) : a = b := toksP_inj (KeyOrd.kle_antisymm (leP_iff.mp h1) (leP_iff.mp h2))
structure CanonP (ms : List Pr) (S : Pr → Prop) : Prop where
  nd : ms.Nodup
  srt : ms.Pairwise (fun a b => leP a b = true)
  mem : ∀ o, o ∈ ms ↔ S o
theorem CanonP.eq {ms ns : List Pr} {S S' : Pr → Prop} (a : CanonP ms S) (b : CanonP ns S') (h : ∀ o, S o ↔ S' o) : ms = ns :=
  List.Perm.eq_of_pairwise (fun x y _ _ h1 h2 => leP_anti x y h1 h2) a.srt b.srt ((List.perm_ext_iff_of_nodup a.nd b.nd).mpr fun o => (a.mem o).trans ((h o).trans (b.mem o).symm))
theorem CanonP.iff {ms : List Pr} {S S' : Pr → Prop} (a : CanonP ms S) (h : ∀ o, S o ↔ S' o) : CanonP ms S' := ⟨a.nd, a.srt, fun o => (a.mem o).trans (h o)⟩
theorem canonP_sort {ms : List Pr} (nd : ms.Nodup) : CanonP (ms.mergeSort leP) (fun o => o ∈ ms) := ⟨(List.mergeSort_perm _ _).nodup_iff.mpr nd, List.pairwise_mergeSort leP_trans leP_total _, fun o => (List.mergeSort_perm _ _).mem_iff⟩
def keyP (l : Pr) : List Key := [.inl l.1, .inl l.2]
theorem keyP_inj {a b : Pr} (h : keyP a = keyP b) : a = b := by
  obtain ⟨a2, a3⟩ := a
  obtain ⟨b2, b3⟩ := b
  simp [keyP] at h
  obtain ⟨h2, h3⟩ := h
  rw [h2, h3]
section
variable {K : PySem.W.Frag} {H : Hp}
theorem pair_rows : ∀ {ls : List Pr} {xs : List V}, DpAll K H xs (ls.map encP) → ∃ ks : List (Addr × List Key), xs = ks.map (fun p => V.ref p.1) ∧ ks.map Prod.snd = ls.map keyP ∧ SD.Stand K H ks
  | [], xs, h => by
    have h' : DpAll K H xs [] := h
    cases h'
    exact ⟨[], rfl, rfl, fun p hp => by cases hp⟩
  | l :: ls, xs, h => by
    have h' : DpAll K H xs (encP l :: ls.map encP) := h
    cases h' with
    | cons h1 h2 =>
      obtain ⟨ks, e1, e2, st⟩ := pair_rows h2
      obtain ⟨a, rfl, ha⟩ := dp_pair h1
      refine ⟨(a, keyP l) :: ks, by rw [e1]; rfl, by rw [List.map_cons, e2]; rfl, fun p hp => ?_⟩
      rcases List.mem_cons.mp hp with e | e
      · rw [e]; exact ha
      · exact st p e
theorem rows_pair : ∀ {ms : List Pr} {M : List (Addr × List Key)}, M.map Prod.snd = ms.map keyP → SD.Stand K H M → DpAll K H (M.map fun p => V.ref p.1) (ms.map encP)
  | [], [], _, _ => .nil
  | [], _ :: _, e, _ => by cases e
  | _ :: _, [], e, _ => by cases e
  | l :: ms, p :: M, e, st => by
    injection e with e1 e2
    have h1 := st p List.mem_cons_self
    rw [e1] at h1
    exact .cons (.tup h1 (.cons (.int _) (.cons (.int _) .nil))) (rows_pair e2 fun q hq => st q (List.mem_cons_of_mem _ hq))
theorem keysP_back : ∀ {ks : List (List Key)} {ls : List Pr}, (∀ k ∈ ks, ∃ l ∈ ls, k = keyP l) → ∃ ms : List Pr, ks = ms.map keyP ∧ ∀ m ∈ ms, m ∈ ls
  | [], _, _ => ⟨[], rfl, fun _ h => by cases h⟩
  | k :: ks, ls, h => by
    obtain ⟨l, hl, e⟩ := h k List.mem_cons_self
    obtain ⟨ms, e2, h2⟩ := keysP_back (ks := ks) (ls := ls) fun q hq => h q (List.mem_cons_of_mem _ hq)
    refine ⟨l :: ms, by rw [e, e2]; rfl, fun m hm => ?_⟩
    rcases List.mem_cons.mp hm with z | z
    · rw [z]; exact hl
    · exact h2 m z
/-- sorted(set(looks)) -/
theorem set_sortedP {P : Program} {w : World} {l : Addr} {xs : List V} {ls : List Pr} (hl : SqL K H l xs) (hd : DpAll K H xs (ls.map encP)) (hlen : ls.length < 64) {Q : VK}
    (q : ∀ p ys H' ms, Same H H' → H p = none → H' p = some (.lst ys) → DpAll K H' ys (ms.map encP) → CanonP ms (fun o => o ∈ ls) → Q (.ref p) H') :
    SD.rSetD K P w [.ref l] H (fun v H' => SD.rSortSetD K P w [v] H' Q) := by
  obtain ⟨ks, e1, e2, st⟩ := pair_rows hd
  have hkl : ks.length = ls.length := by rw [← List.length_map (f := Prod.snd), e2, List.length_map]
  subst e1
  refine ⟨l, ks, rfl, hl, st, by rw [hkl]; exact hlen, fun a M ha hM hall hone => ?_⟩
  have S1 := same_upd (o := SD.SetDO P w a M) ha
  have stM : SD.Stand K (upd H a (SD.SetDO P w a M)) M := SD.Stand.same (fun p hp => st p (hM p hp)) S1
  have inl : ∀ p ∈ M, ∃ l ∈ ls, p.2 = keyP l := fun p hp => by
    have h1 : p.2 ∈ ks.map Prod.snd := List.mem_map.mpr ⟨p, hM p hp, rfl⟩
    rw [e2] at h1
    obtain ⟨l, hl, e⟩ := List.mem_map.mp h1
    exact ⟨l, hl, e.symm⟩
  refine ⟨a, M, rfl, upd_same, stM, ⟨fun p hp p2 hp2 => ?_, fun p hp => ?_⟩, fun N p pm hp => ?_⟩
  · obtain ⟨l1, _, e1⟩ := inl p hp
    obtain ⟨l2, _, e2⟩ := inl p2 hp2
    unfold SD.encK
    rw [e1, e2]
    simp [keyP, SD.kD, PySem.W.alike, PySem.W.alikeAll]
  · obtain ⟨l1, _, e1⟩ := inl p hp
    rw [e1]; simp [keyP]
  · obtain ⟨ms, em, hms⟩ := keysP_back (ks := N.map Prod.snd) (ls := ls) fun k hk => by
      obtain ⟨p, hp, e⟩ := List.mem_map.mp hk
      obtain ⟨l, hl, e2⟩ := inl p (pm.mem_iff.mp hp)
      exact ⟨l, hl, by rw [← e, e2]⟩
    have ndk : (ms.map keyP).Nodup := by rw [← em]; exact (pm.map Prod.snd).nodup_iff.mpr hone
    have nd : ms.Nodup := List.Pairwise.of_map keyP (fun _ _ hne e => hne (congrArg keyP e)) ndk
    have hsort : (N.mergeSort (PySem.W.dataLe false SD.encK)).map Prod.snd = (ms.mergeSort leP).map keyP := by
      rw [List.map_mergeSort (f := Prod.snd) (r := PySem.W.dataLe false SD.encK) (s := fun a b => PySem.W.dataLe false SD.encK (0, a) (0, b)) (fun a _ b _ => rfl), em]
      rw [List.map_mergeSort (f := keyP) (r := leP) (s := fun a b => PySem.W.dataLe false SD.encK (0, a) (0, b)) (fun a _ b _ => rfl)]
    have S2 := same_upd (o := HO.lst ((N.mergeSort (PySem.W.dataLe false SD.encK)).map fun q => V.ref q.1)) hp
    refine q p _ _ (ms.mergeSort leP) (S1.trans S2) (S1.free hp) upd_same (rows_pair hsort (SD.Stand.same (fun r hr => stM r (pm.mem_iff.mp ((List.mergeSort_perm _ _).mem_iff.mp hr))) S2)) ((canonP_sort nd).iff fun o => ⟨hms o, fun ho => ?_⟩)
    have h1 : keyP o ∈ ks.map Prod.snd := by rw [e2]; exact List.mem_map.mpr ⟨o, ho, rfl⟩
    obtain ⟨p2, hp2, e3⟩ := List.mem_map.mp h1
    have h2 := hall p2 hp2
    rw [e3, ← (pm.map Prod.snd).mem_iff, em] at h2
    obtain ⟨m, hm, e4⟩ := List.mem_map.mp h2
    rw [← keyP_inj e4]; exact hm
end

/-! ### the steps of a hand, in order -/
theorem lexLt_same (O : KeyOrd) (x : O.α) (as bs : List O.α) : PyProof.Rows.lexLt O (x :: as) (x :: bs) = PyProof.Rows.lexLt O as bs := by
  simp [PyProof.Rows.lexLt, O.irrefl]
theorem toks_fr (p : Pr) : PySem.W.keyToks (encL (fr1 p)) = .inl 1 :: .inr ("from" : Str).cps.toList :: PySem.W.keyToks (encP p) := by
  show PySem.W.keyToks (.tuple [.str "from", .int p.1, .int p.2]) = _ :: _ :: PySem.W.keyToks (.tuple [.int p.1, .int p.2])
  rw [PySem.W.keyToks, PySem.W.keyToks, PySem.W.keyToksAll, PySem.W.keyToks]; rfl
theorem le_fr (a b : Pr) : leL (fr1 a) (fr1 b) = leP a b := by
  have h : leL (fr1 a) (fr1 b) = true ↔ leP a b = true := by
    rw [leL_iff, leP_iff]
    show PyProof.Rows.lexLt itemOrd (PySem.W.keyToks (encL (fr1 b))) (PySem.W.keyToks (encL (fr1 a))) = false ↔ PyProof.Rows.lexLt itemOrd (PySem.W.keyToks (encP b)) (PySem.W.keyToks (encP a)) = false
    rw [toks_fr, toks_fr, lexLt_same, lexLt_same]
  cases h1 : leL (fr1 a) (fr1 b) <;> cases h2 : leP a b <;> simp_all
def homeP (L : Int) (s : Pr) : Pr := (s.1 % L, s.2 - s.1 / L * L)
theorem home_fr1 (L : Int) (s : Pr) : home L (fr1 s) = fr1 (homeP L s) := by
  have e : s.1 - s.1 / L * L = s.1 % L := by rw [Int.emod_def, Int.mul_comm]
  show ((("from" : Str), s.1 - s.1 / L * L, s.2 - s.1 / L * L) : Lk) = (("from" : Str), s.1 % L, s.2 - s.1 / L * L)
  rw [e]
theorem fr1_inj {a b : Pr} (h : fr1 a = fr1 b) : a = b := by
  have := congrArg Prod.snd h
  exact this
theorem heard_frs {L : Int} {ss ps : List Pr} (c : CanonP ps (fun o => ∃ s ∈ ss, o = homeP L s)) : heardAll L (frs ss) = ps.map fr1 := by
  refine (fold0_canon L (frs ss)).eq (S' := fun o => o ∈ ps.map fr1) ⟨?_, ?_, fun o => Iff.rfl⟩ fun o => ?_
  · exact List.Pairwise.map fr1 (fun a b h e => h (fr1_inj e)) c.nd
  · rw [List.pairwise_map]
    exact c.srt.imp fun h => by rw [le_fr]; exact h
  · rw [List.mem_map]
    constructor
    · rintro ⟨l, hl, rfl⟩
      obtain ⟨s, hs, rfl⟩ := List.mem_map.mp hl
      exact ⟨homeP L s, (c.mem _).mpr ⟨s, hs, rfl⟩, (home_fr1 L s).symm⟩
    · rintro ⟨p, hp, rfl⟩
      obtain ⟨s, hs, rfl⟩ := (c.mem _).mp hp
      exact ⟨fr1 s, List.mem_map.mpr ⟨s, hs, rfl⟩, (home_fr1 L s).symm⟩
theorem frs_inj {a b : List Pr} (h : a.map fr1 = b.map fr1) : a = b := by
  have := congrArg (List.map Prod.snd) h
  rw [List.map_map, List.map_map] at this
  have e : ∀ l : List Pr, l.map (Prod.snd ∘ fr1) = l := fun l => by
    induction l with
    | nil => rfl
    | cons x l ih => rw [List.map_cons, ih]; rfl
  rw [e, e] at this
  exact this
end KA
namespace KA
open PySem PySem.Spec PyProof.Rows L2 DP
def spLen (Z : Ad) (K : PySem.W.Frag) : Sp := fun vs H Q _ => ∃ (d : Addr) (L : Int) (ls : List Lk), vs = [.ref d] ∧ DarkAt Z K H d L ls ∧ Q (.int L) H
theorem eqv_looks : ∀ a b : List Lk, PyData.eqvAll (a.map encL) (b.map encL) = decide (a = b)
  | [], [] => rfl
  | [], y :: b => by simp [PyData.eqvAll]
  | x :: a, [] => by simp [PyData.eqvAll]
  | x :: a, y :: b => by
    rw [List.map_cons, List.map_cons, PyData.eqvAll, eqv_look, eqv_looks a b]
    by_cases h1 : x = y <;> by_cases h2 : a = b <;> simp [h1, h2]
theorem eqv_pair (a b : Pr) : PyData.eqv (encP a) (encP b) = decide (a = b) := by
  obtain ⟨a1, a2⟩ := a
  obtain ⟨b1, b2⟩ := b
  simp [encP, PyData.eqv, PyData.eqvAll]
  by_cases h1 : a1 = b1 <;> by_cases h2 : a2 = b2 <;> simp [h1, h2]
theorem eqv_pairs : ∀ a b : List Pr, PyData.eqvAll (a.map encP) (b.map encP) = decide (a = b)
  | [], [] => rfl
  | [], y :: b => by simp [PyData.eqvAll]
  | x :: a, [] => by simp [PyData.eqvAll]
  | x :: a, y :: b => by
    rw [List.map_cons, List.map_cons, PyData.eqvAll, eqv_pair, eqv_pairs a b]
    by_cases h1 : x = y <;> by_cases h2 : a = b <;> simp [h1, h2]
theorem lay_pairs : ∀ ps : List Pr, PyData.canLayAll0 (ps.map encP) = true
  | [] => rfl
  | p :: ps => by
    show PyData.canLayAll0 (encP p :: ps.map encP) = true
    rw [PyData.canLayAll0, lay_pairs ps]; rfl
theorem depth_pr : ∀ ps : List Pr, PyData.depthAll (ps.map encP) ≤ 1
  | [] => by simp [PyData.depthAll]
  | p :: ps => by
    show PyData.depthAll (encP p :: ps.map encP) ≤ 1
    have := depth_pr ps
    rw [PyData.depthAll]
    simp [encP, PyData.depth, PyData.depthAll]
    omega
theorem shaped_prs (ps : List Pr) : SeqAt.shaped (.list (ps.map encP)) = true := by
  unfold SeqAt.shaped
  rw [PyData.canLay0, lay_pairs ps, PyData.depth]
  have := depth_pr ps
  simp; omega
theorem few_prs {ps : List Pr} (h : ps.length ≤ 1000) : fewD (.list (ps.map encP)) = true := by
  have z : ∀ ps : List Pr, fewD.fewDs (ps.map encP) = true := by
    intro ps
    induction ps with
    | nil => rfl
    | cons l ls ih =>
      show fewD.fewDs (encP l :: ls.map encP) = true
      rw [fewD.fewDs, ih]; rfl
  rw [fewD, z, List.length_map, Bool.and_true, decide_eq_true_eq]
  exact h
theorem depth_prs (ps : List Pr) : (PyData.list (ps.map encP)).depth ≤ 2 := by
  rw [PyData.depth]
  have := depth_pr ps
  omega
def spDEq (Z : Ad) (K : PySem.W.Frag) : Sp := fun vs H Q _ => ∃ (a b : Addr) (L L2 : Int) (ls ls2 : List Lk), vs = [.ref a, .ref b] ∧ DarkAt Z K H a L ls ∧ DarkAt Z K H b L2 ls2 ∧ Q (.bl (decide (L = L2) && decide (ls = ls2))) H
def spHLen (Z : Ad) (K : PySem.W.Frag) : Sp := fun vs H Q _ => ∃ (h d b : Addr) (L : Int) (ss : List Pr), vs = [.ref h] ∧ HandAt Z K H h d b L ss ∧ Q (.int L) H
def spHSteps (Z : Ad) (K : PySem.W.Frag) : Sp := fun vs H Q _ => ∃ (h d b : Addr) (L : Int) (ss ps : List Pr), vs = [.ref h] ∧ HandAt Z K H h d b L ss ∧ heardAll L (frs ss) = ps.map fr1 ∧
  ∀ p H', Same H H' → H p = none → LAt K H' p (ps.map encP) → Q (.ref p) H'
/-- what else may stand on the right of == -/
def Foe (Z : Ad) (K : PySem.W.Frag) (H : Hp) (y : V) : Prop := ∃ t, TyX K H y (.type t) ∧ PySem.W.kitOne K (.type t) (.ref Z.C_Hand) = some false ∧ PySem.W.notFirst K Z.C_Hand (.type t) = true
def spHEq (Z : Ad) (K : PySem.W.Frag) : Sp := fun vs H Q _ => ∃ (h d b : Addr) (L : Int) (ss : List Pr) (y : V), vs = [.ref h, y] ∧ HandAt Z K H h d b L ss ∧
  ((∃ h2 d2 b2 L2 ss2, y = .ref h2 ∧ HandAt Z K H h2 d2 b2 L2 ss2 ∧ Q (.bl (decide (L = L2) && decide (heardAll L (frs ss) = heardAll L2 (frs ss2)))) H) ∨ (Foe Z K H y ∧ Q (.bl false) H))
def spHNe (Z : Ad) (K : PySem.W.Frag) : Sp := fun vs H Q _ => ∃ (h d b : Addr) (L : Int) (ss : List Pr) (h2 d2 b2 : Addr) (L2 : Int) (ss2 : List Pr), vs = [.ref h, .ref h2] ∧ HandAt Z K H h d b L ss ∧ HandAt Z K H h2 d2 b2 L2 ss2 ∧ Q (.bl (!(decide (L = L2) && decide (heardAll L (frs ss) = heardAll L2 (frs ss2))))) H
def spHomes (K : PySem.W.Frag) : Sp := fun vs H Q _ => ∃ (q : Addr) (L : Int) (ss : List Pr), vs = [.int L, .ref q] ∧ LAt K H q (ss.map encP) ∧ ss.length < 60 ∧ 0 < L ∧ L.natAbs < 2 ^ 200 ∧ (∀ s ∈ ss, SzP 280 s) ∧
  ∀ (p : Addr) (H' : Hp) (ps : List Pr), Same H H' → H p = none → LAt K H' p (ps.map encP) → CanonP ps (fun o => ∃ s ∈ ss, o = homeP L s) → ps.length ≤ ss.length → Q (.ref p) H'
def spOther (K : PySem.W.Frag) : Sp := fun vs H Q _ => ∃ (t g q : Addr) (n : Nat) (L : Int) (ss : List Pr), vs = [.ref t, .int L, .ref q] ∧ Tray H t g n ∧ n < 2 ^ 50 ∧ LAt K H q (ss.map encP) ∧ q ≠ t ∧ q ≠ g ∧ 0 < ss.length ∧ ss.length ≤ 24 ∧ L.natAbs < 2 ^ 100 ∧ (∀ s ∈ ss, SzP 200 s) ∧
  ∀ (H' : Hp) (r : Addr) (ks : List Pr), H r = none → At H H' t g (n + 10) → LAt K H' r (ks.map encP) → 0 < ks.length → ks.length ≤ 24 → (∀ s ∈ ks, SzP 250 s) → Q (.ref r) H'
section
variable {P : Program} {w : World} {K : PySem.W.Frag} {mg : Str → Option Value} {base : Heap} {Z : Ad}
theorem ok_Dark_length (T : Tx K w mg Z) : FnOk P w K mg base CX0 1 Z.a_Dark_length Z.d_Dark_length P_Dark_length (spLen Z K) := by
  refine T.F_Dark_length.ok scDark_length (fun vs H Q E h => ?_) (fun cdv A outer s H vs Q E hr h => ?_)
  · obtain ⟨d, L, ls, rfl, _⟩ := h
    rfl
  · obtain ⟨d, L, ls, rfl, D, k⟩ := h
    obtain ⟨dx, la, xs, h1, h2, h3⟩ := id D.ex
    refine ⟨_, (pss_one (ps_ret (fldK (K := K) (pv 0) rfl))), ?_⟩
    exact ⟨_, rfl, d, Z.C, dx, _, _, rfl, h1, T.cl, T.n_length, df_length _ _, k⟩
theorem ok_Dark_eq (T : Tx K w mg Z) : FnOk P w K mg base CX0 1 Z.a_Dark_eq Z.d_Dark_eq P_Dark_eq (spDEq Z K) := by
  refine T.F_Dark_eq.ok scDark_eq (fun vs H Q E h => ?_) (fun cdv A outer s H vs Q E hr h => ?_)
  · obtain ⟨a, b, L, L2, ls, ls2, rfl, _⟩ := h
    rfl
  · obtain ⟨a, b, L, L2, ls, ls2, rfl, D, D2, k⟩ := h
    obtain ⟨dx, la, xs, h1, h2, h3⟩ := id D.ex
    refine ⟨_, (pss_one (ps_ret (pe_and (pe_callB (isiK (K := K)) (by rfl) T.b_isinstance (by decide +kernel) (pa_cons (pv 1) (pa_cons (pe_glob (v := .ref Z.C) rfl T.g_Dark rfl) pa_nil))) (pe_and (pe_cmpR op_eq (fldK (K := K) (pv 0) rfl) (fldK (K := K) (pv 1) rfl) (nomark _)) (pe_one (pe_cmpR (eqDK (K := K) hr.units) (fldK (K := K) (pv 0) rfl) (fldK (K := K) (pv 1) rfl) (nomark _))))))), ?_⟩
    obtain ⟨dx2, la2, xs2, g1, g2, g3⟩ := id D2.ex
    refine ⟨_, rfl, .ref b, .ref Z.C, _, _, true, rfl, .own _, .base (.ins g1 T.cl T.isi.ha T.isi.hn T.isi.htk T.isi.hm), kit_self _ _, _, rfl, iteT ?_⟩
    refine ⟨_, rfl, a, Z.C, dx, _, _, rfl, h1, T.cl, T.n_length, df_length _ _, _, rfl, b, Z.C, dx2, _, _, rfl, g1, T.cl, T.n_length, df_length _ _, rfl, _, rfl, ?_⟩
    have e0 : decide (V.int L = V.int L2) = decide (L = L2) := by
      by_cases c : L = L2
      · rw [c]; simp
      · rw [decide_eq_false c]; exact decide_eq_false fun e => c (V.int.inj e)
    rw [e0]
    cases c : decide (L = L2) with
    | false =>
      rw [c] at k
      exact iteF k
    | true =>
      rw [c] at k
      have hw1 : ∀ l ∈ ls, WordOk l.1 := fun l hl => (D.ok l hl).1
      have hw2 : ∀ l ∈ ls2, WordOk l.1 := fun l hl => (D2.ok l hl).1
      refine iteT ⟨_, rfl, a, Z.C, dx, _, _, rfl, h1, T.cl, T.n_looks, df_looks _ _, _, rfl, b, Z.C, dx2, _, _, rfl, g1, T.cl, T.n_looks, df_looks _ _, _, _, .lst (SqL.of h2) h3, .lst (SqL.of g2) g3, shaped_looks hw1, shaped_looks hw2, ?_⟩
      have e1 : PyData.eqv (.list (ls.map encL)) (.list (ls2.map encL)) = decide (ls = ls2) := by rw [PyData.eqv, eqv_looks]
      rw [e1]
      exact k
theorem ok_Hand_length (T : Tx K w mg Z) : FnOk P w K mg base CX0 3 Z.a_Hand_length Z.d_Hand_length P_Hand_length (spHLen Z K) := by
  refine T.F_Hand_length.ok scHand_length (fun vs H Q E h => ?_) (fun cdv A outer s H vs Q E hr h => ?_)
  · obtain ⟨h, d, b, L, ss, rfl, _⟩ := h
    rfl
  · obtain ⟨h, d, b, L, ss, rfl, A1, k⟩ := h
    obtain ⟨hx, h1⟩ := A1.ex
    obtain ⟨dx, la, xs, d1, _, _⟩ := id A1.dark.ex
    refine ⟨_, (pss_one (ps_ret (pe_meth0 (fldK (K := K) (pv 0) rfl) T.cl T.m_Dark_length (ok_Dark_length T) (hr.mono (by decide)) T.bb_Dark_length .nil pass0))), ?_⟩
    refine ⟨_, rfl, h, Z.C_Hand, hx, _, _, rfl, h1, T.cl_Hand, T.nHand__dark, hf_dark _ _, d, dx, _, rfl, d1, df_no _ _ (by decide +kernel) (by decide +kernel), d, L, _, rfl, A1.dark, k⟩
theorem ok_Hand_eq (T : Tx K w mg Z) : FnOk P w K mg base CX0 3 Z.a_Hand_eq Z.d_Hand_eq P_Hand_eq (spHEq Z K) := by
  refine T.F_Hand_eq.ok scHand_eq (fun vs H Q E h => ?_) (fun cdv A outer s H vs Q E hr h => ?_)
  · obtain ⟨h, d, b, L, ss, y, rfl, _⟩ := h
    rfl
  · obtain ⟨h, d, b, L, ss, y, rfl, A1, hy⟩ := h
    obtain ⟨hx, h1⟩ := A1.ex
    obtain ⟨dx, la, xs, d1, _, _⟩ := id A1.dark.ex
    refine ⟨_, (pss_one (ps_ret (pe_and (pe_callB (isiK (K := K)) (by rfl) T.b_isinstance (by decide +kernel) (pa_cons (pv 1) (pa_cons (pe_glob (v := .ref Z.C_Hand) rfl T.g_Hand rfl) pa_nil))) (pe_one (pe_cmpR (op_ownEq (ok_Dark_eq T) T.m_Dark_eq.at_ T.m_Dark_eq.fn T.bb_Dark_eq pass0 (hr.mono (by decide))) (fldK (K := K) (pv 0) rfl) (fldK (K := K) (pv 1) rfl) (nomark _)))))), ?_⟩
    rcases hy with ⟨h2, d2, b2, L2, ss2, rfl, A2, k⟩ | ⟨⟨t, ty, hk, hn⟩, k⟩
    · obtain ⟨hx2, g1⟩ := A2.ex
      obtain ⟨dx2, la2, xs2, e1, _, _⟩ := id A2.dark.ex
      refine ⟨_, rfl, .ref h2, .ref Z.C_Hand, _, _, true, rfl, .own _, .base (.ins g1 T.cl_Hand T.isi_Hand.ha T.isi_Hand.hn T.isi_Hand.htk T.isi_Hand.hm), kit_self _ _, _, rfl, iteT ?_⟩
      refine ⟨_, rfl, h, Z.C_Hand, hx, _, _, rfl, h1, T.cl_Hand, T.nHand__dark, hf_dark _ _, _, rfl, h2, Z.C_Hand, hx2, _, _, rfl, g1, T.cl_Hand, T.nHand__dark, hf_dark _ _, d, dx, _, rfl, d1, .ins e1, d, d2, L, L2, _, _, rfl, A1.dark, A2.dark, _, rfl, k⟩
    · exact ⟨_, rfl, y, .ref Z.C_Hand, _, _, false, rfl, .own _, ty, hk, _, rfl, iteF k⟩
theorem ok_Hand_ne (T : Tx K w mg Z) : FnOk P w K mg base CX0 5 Z.a_Hand_ne Z.d_Hand_ne P_Hand_ne (spHNe Z K) := by
  refine T.F_Hand_ne.ok scHand_ne (fun vs H Q E h => ?_) (fun cdv A outer s H vs Q E hr h => ?_)
  · obtain ⟨h, d, b, L, ss, h2, d2, b2, L2, ss2, rfl, _⟩ := h
    rfl
  · obtain ⟨h, d, b, L, ss, h2, d2, b2, L2, ss2, rfl, A1, A2, k⟩ := h
    obtain ⟨hx, h1⟩ := A1.ex
    obtain ⟨hx2, g1⟩ := A2.ex
    refine ⟨_, (pss_one (ps_ret (pe_not (pe_cmpR (op_ownEq (ok_Hand_eq T) T.m_Hand_eq.at_ T.m_Hand_eq.fn T.bb_Hand_eq pass0 (hr.mono (by decide))) (pv 0) (pv 1) (nomark _))))), ?_⟩
    exact ⟨_, rfl, _, rfl, h, hx, _, rfl, h1, .ins g1, h, d, b, L, ss, .ref h2, rfl, A1, .inl ⟨h2, d2, b2, L2, ss2, rfl, A2, _, rfl, _, rfl, k⟩⟩
theorem ok_Hand_steps (T : Tx K w mg Z) : FnOk P w K mg base CX0 3 Z.a_Hand_steps Z.d_Hand_steps P_Hand_steps (spHSteps Z K) := by
  refine T.F_Hand_steps.ok scHand_steps (fun vs H Q E h => ?_) (fun cdv A outer s H vs Q E hr h => ?_)
  · obtain ⟨h, d, b, L, ss, ps, rfl, _⟩ := h
    rfl
  · obtain ⟨h, d, b, L, ss, ps, rfl, A1, eps, k⟩ := h
    obtain ⟨hx, h1⟩ := A1.ex
    obtain ⟨dx, la, xs, d1, _, _⟩ := id A1.dark.ex
    have D := A1.dark
    have hpl : ps.length ≤ 60 := by
      have := D.len
      rw [eps, List.length_map] at this
      exact this
    refine ⟨_, (pss_one (ps_ret (pe_lc (own := [("_", 1), ("x", 2), ("y", 3)]) (g := gTup K 3 (gCons (gName 1) (gCons (gName 2) (gCons (gName 3) gNil)))) (tt := tYes) rfl scHand_steps.nd (pi_list (pe_meth0 (fldK (K := K) (pv 0) rfl) T.cl T.m_Dark_looks (ok_Dark_looks T) (hr.mono (by decide)) T.bb_Dark_looks .nil pass0)) (blkOk_by (own := [("_", 1), ("x", 2), ("y", 3)]) (N := N_Hand_steps) (sc := defScope sHand_steps) (by decide +kernel)) (fun _ _ _ _ _ => (tupK (K := K) (by rfl) (pgs_cons (pg_name (i := 1) scHand_steps.nd rfl (Or.inl rfl)) (pgs_cons (pg_name (i := 2) scHand_steps.nd rfl (Or.inl rfl)) (pgs_cons (pg_name (i := 3) scHand_steps.nd rfl (Or.inl rfl)) pgs_nil))))) (fun _ _ _ _ _ => pts_nil) (fun _ _ _ _ _ => (pe_tup (pa_cons (pv 2) (pa_cons (pv 3) pa_nil))))))), ?_⟩
    refine ⟨_, rfl, h, Z.C_Hand, hx, _, _, rfl, h1, T.cl_Hand, T.nHand__dark, hf_dark _ _, d, dx, _, rfl, d1, df_no _ _ (by decide +kernel) (by decide +kernel), d, L, _, rfl, D, fun p ys H1 hp S1 p1 p2 => ?_⟩
    rw [eps] at p2
    have hyl : ys.length = ps.length := by rw [dpAll_len p2, List.length_map, List.length_map]
    refine ⟨p, rfl, ⟨_, SqL.of p1⟩, fun Dd hDd => ?_⟩
    refine lc_list (K := K) (a := p) (xs := ys) (fun j H' => Same H1 H' ∧ LAt K H' Dd ((ps.take j).map encP)) ⟨same_upd hDd, [], upd_same, .nil⟩ (fun j H' _ ⟨S, _⟩ => SqL.of (S _ _ p1)) ?_ ?_
    · rintro j y H' hj ⟨S, vs2, hd2, hds2⟩
      obtain ⟨e, hdi, hdy⟩ := dpAll_get p2 hj
      obtain ⟨l, hl, rfl⟩ := map_at hdi
      obtain ⟨s, hs, rfl⟩ := map_at hl
      obtain ⟨pp, rfl, hpp⟩ := dp_look (dp_mono S _ _ hdy)
      have hv2 : vs2.length ≤ 60 := by rw [dpAll_len hds2, List.length_map, List.length_take]; omega
      refine ⟨_, _, rfl, hpp, rfl, _, _, rfl, _, _, rfl, _, _, rfl, rfl, rfl, yes_ite ?_⟩
      refine ⟨_, rfl, _, rfl, (by show 2 ≤ sizeLine; decide), fun q2 hq2 => ?_⟩
      have S2 := same_upd (o := HO.tup [V.int s.1, .int s.2]) hq2
      have hd5 := S2 _ _ hd2
      refine ⟨vs2, hd5, small1000 (by omega), same_set (S.trans S2) hDd, _, upd_same, ?_⟩
      rw [take_snoc hs, List.map_append]
      exact acc_step hd5 (noLs_map noL_encP _) rfl (dpAll_mono S2 _ _ hds2) (show Dp K _ (.ref q2) (encP s) from .tup (SqT.of upd_same) (.cons (.int _) (.cons (.int _) .nil)))
    · rintro H2 ⟨S2, l2⟩
      rw [List.take_of_length_le (by rw [hyl]; exact Nat.le_refl _)] at l2
      exact k Dd H2 (S1.trans S2) (S1.free hDd) l2
end
end KA
namespace KA
open PySem PySem.Spec PyProof.Rows L2 DP
theorem cut_take {xs : List V} {k : Nat} : cutV xs none (some (k : Int)) = xs.take k := by
  unfold cutV
  rw [HT.sIx_none, HT.sIx_nat, List.drop_zero, Nat.sub_zero, List.take_eq_take_iff]
  omega
theorem dpAll_take {K : PySem.W.Frag} {H : Hp} : ∀ {vs : List V} {ds : List PyData} (k : Nat), DpAll K H vs ds → DpAll K H (vs.take k) (ds.take k)
  | _, _, 0, _ => by rw [List.take_zero, List.take_zero]; exact .nil
  | _, _, k + 1, .nil => by rw [List.take_nil, List.take_nil]; exact .nil
  | _, _, k + 1, .cons a b => .cons a (dpAll_take k b)
theorem cut_from {xs : List V} {k : Nat} : cutV xs (some (k : Int)) none = xs.drop k := by
  unfold cutV
  rw [HT.sIx_none, HT.sIx_nat]
  by_cases h : k ≤ xs.length
  · rw [show min k xs.length = k by omega, List.take_of_length_le (by rw [List.length_drop]; exact Nat.le_refl _)]
  · rw [show min k xs.length = xs.length by omega, Nat.sub_self, List.take_zero, List.drop_eq_nil_of_le (by omega)]
theorem dpAll_drop {K : PySem.W.Frag} {H : Hp} : ∀ (n : Nat) {vs : List V} {ds : List PyData}, DpAll K H vs ds → DpAll K H (vs.drop n) (ds.drop n)
  | 0, _, _, h => h
  | _ + 1, _, _, .nil => .nil
  | n + 1, _, _, .cons _ b => dpAll_drop n b
theorem dpAll_rev {K : PySem.W.Frag} {H : Hp} : ∀ {vs : List V} {ds : List PyData}, DpAll K H vs ds → DpAll K H vs.reverse ds.reverse
  | _, _, .nil => .nil
  | _, _, .cons a b => by
    rw [List.reverse_cons, List.reverse_cons]
    exact dpAll_app (dpAll_rev b) (.cons a .nil)
theorem splice_at {K : PySem.W.Frag} {H : Hp} {vs : List V} {ss : List Pr} {p : Pr} {v : V} (at' : Nat) (h : DpAll K H vs (ss.map encP)) (hv : Dp K H v (encP p)) : DpAll K H (vs.take at' ++ [v] ++ vs.drop (at' + 1)) ((ss.take at' ++ [p] ++ ss.drop (at' + 1)).map encP) := by
  rw [List.map_append, List.map_append, List.map_take, List.map_drop]
  exact dpAll_app (dpAll_app (dpAll_take at' h) (.cons hv .nil)) (dpAll_drop (at' + 1) h)
theorem splice_len {ss : List Pr} {p : Pr} {at' : Nat} (h : at' < ss.length) : (ss.take at' ++ [p] ++ ss.drop (at' + 1)).length = ss.length := by
  simp; omega
theorem splice_sz {n : Nat} {ss : List Pr} {p : Pr} {at' : Nat} (h : ∀ s ∈ ss, SzP n s) (hp : SzP n p) : ∀ s ∈ ss.take at' ++ [p] ++ ss.drop (at' + 1), SzP n s := fun s hs => by
  rcases List.mem_append.mp hs with h1 | h1
  · rcases List.mem_append.mp h1 with h2 | h2
    · exact h s (List.mem_of_mem_take h2)
    · rw [List.mem_singleton] at h2; rw [h2]; exact hp
  · exact h s (List.mem_of_mem_drop h1)
theorem nodup_len {α : Type} [DecidableEq α] : ∀ {l m : List α}, l.Nodup → (∀ x ∈ l, x ∈ m) → l.length ≤ m.length
  | [], m, _, _ => Nat.zero_le _
  | x :: l, m, nd, h => by
    obtain ⟨h1, h2⟩ := List.nodup_cons.mp nd
    have hx := h x List.mem_cons_self
    have h3 := nodup_len (l := l) (m := m.erase x) h2 fun y hy => (List.mem_erase_of_ne fun (e : y = x) => h1 (by rw [← e]; exact hy)).mpr (h y (List.mem_cons_of_mem _ hy))
    have h4 := List.length_erase_of_mem hx
    have h5 := List.length_pos_of_mem hx
    rw [List.length_cons]
    omega
/-- steps kept in a list -/
structure Way (K : PySem.W.Frag) (t g : Addr) (H : Hp) (r : Addr) (ks : List Pr) : Prop where
  l : LAt K H r (ks.map encP)
  pos : 0 < ks.length
  len : ks.length ≤ 60
  sz : ∀ s ∈ ks, SzP 250 s
  nt : r ≠ t ∧ r ≠ g
theorem Way.same {K : PySem.W.Frag} {H H' : Hp} {t g r : Addr} {ks : List Pr} (w : Way K t g H r ks) (S : Same H H') : Way K t g H' r ks := ⟨w.l.same S, w.pos, w.len, w.sz, w.nt⟩
section
variable {P : Program} {w : World} {K : PySem.W.Frag} {mg : Str → Option Value} {base : Heap} {Z : Ad}
theorem ok_law_home (T : Tx K w mg Z) : FnOk P w K mg base CX0 2 Z.a_law_home Z.d_law_home P_law_home (spHomes K) := by
  refine T.F_law_home.ok sclaw_home (fun vs H Q E h => ?_) (fun cdv A outer s H vs Q E hr h => ?_)
  · obtain ⟨q, L, ss, rfl, _⟩ := h
    rfl
  · obtain ⟨q, L, ss, rfl, lq, hlen, hL, hLb, hsz, k⟩ := h
    obtain ⟨vs, v1, v2⟩ := id lq
    have hvl : vs.length = ss.length := by rw [dpAll_len v2, List.length_map]
    refine ⟨_, (pss_one (ps_ret (pe_callB (SD.sortSetDK (K := K) (P := P) (w := w) rfl (rooms64 hr)) (by rfl) T.b_sorted (by decide +kernel) (pa_cons (pe_callTy (SD.setDK (K := K) (P := P) (w := w) rfl (rooms64 hr)) (by rfl) T.b_set (by decide +kernel) (pa_cons (pe_lc (own := [("spot", 2), ("there", 3)]) (g := gTup K 2 (gCons (gName 2) (gCons (gName 3) gNil))) (tt := tYes) rfl sclaw_home.nd (pi_list (pv 1)) (blkOk_by (own := [("spot", 2), ("there", 3)]) (N := N_law_home) (sc := defScope slaw_home) (by decide +kernel)) (fun _ _ _ _ _ => (tupK (K := K) (by rfl) (pgs_cons (pg_name (i := 2) sclaw_home.nd rfl (Or.inl rfl)) (pgs_cons (pg_name (i := 3) sclaw_home.nd rfl (Or.inl rfl)) pgs_nil)))) (fun _ _ _ _ _ => pts_nil) (fun _ _ _ _ _ => (pe_tup (pa_cons (pe_op op_mod (pv 2) (pv 0)) (pa_cons (pe_op op_sub (pv 3) (pe_op op_mulW (pe_op op_fdivW (pv 2) (pv 0)) (pv 0))) pa_nil))))) pa_nil)) pa_nil)))), ?_⟩
    refine ⟨_, rfl, q, rfl, ⟨_, SqL.of v1⟩, fun Dh hDh => ?_⟩
    refine lc_list (K := K) (a := q) (xs := vs) (fun j H' => Same H H' ∧ LAt K H' Dh (((ss.take j).map (homeP L)).map encP)) ⟨same_upd hDh, [], upd_same, .nil⟩ (fun j H' _ ⟨S, _⟩ => SqL.of (S _ _ v1)) ?_ ?_
    · rintro j y H' hj ⟨S, vs2, hd2, hds2⟩
      obtain ⟨e, hdi, hdy⟩ := dpAll_get v2 hj
      obtain ⟨s, hs, rfl⟩ := map_at hdi
      obtain ⟨pp, rfl, hpp⟩ := dp_pair (dp_mono S _ _ hdy)
      have hz := hsz s (List.mem_of_getElem? hs)
      have hv2 : vs2.length ≤ 60 := by rw [dpAll_len hds2, List.length_map, List.length_map, List.length_take]; omega
      refine ⟨_, _, rfl, hpp, rfl, _, _, rfl, _, _, rfl, rfl, rfl, yes_ite ?_⟩
      refine ⟨_, rfl, _, rfl, _, _, rfl, rfl, hL, _, rfl, _, rfl, _, rfl, _, _, rfl, rfl, wide_div hL hLb (by decide) (by decide), _, rfl, _, _, rfl, rfl, wide_mul (div_lt hL hz.1) hLb (by decide) (by decide) (by decide), _, _, rfl, rfl, (by show 2 ≤ sizeLine; decide), fun q2 hq2 => ?_⟩
      have S2 := same_upd (o := HO.tup [V.int (s.1 % L), .int (s.2 - s.1 / L * L)]) hq2
      have hd5 := S2 _ _ hd2
      refine ⟨vs2, hd5, small1000 (by omega), same_set (S.trans S2) hDh, _, upd_same, ?_⟩
      rw [take_snoc hs, List.map_append, List.map_append]
      exact acc_step hd5 (noLs_map noL_encP _) rfl (dpAll_mono S2 _ _ hds2) (show Dp K _ (.ref q2) (encP (homeP L s)) from .tup (SqT.of upd_same) (.cons (.int _) (.cons (.int _) .nil)))
    rintro H4 ⟨S4, vs4, hv1, hv2⟩
    rw [List.take_of_length_le (by rw [hvl]; exact Nat.le_refl _)] at hv2
    dsimp only [tNil]
    refine set_sortedP (SqL.of hv1) hv2 (by rw [List.length_map]; omega) fun pd yd H5 ps S5 hpd hd1 hd2 cm0 => ?_
    have cm : CanonP ps (fun o => ∃ s ∈ ss, o = homeP L s) := cm0.iff fun o => by
      rw [List.mem_map]
      exact exists_congr fun q => and_congr_right fun _ => eq_comm
    refine k pd H5 ps (S4.trans S5) (S4.free hpd) ⟨yd, hd1, hd2⟩ cm ?_
    have h1 : ps.length ≤ (ss.map (homeP L)).length := nodup_len cm.nd fun o ho => (cm0.mem o).mp ho
    rw [List.length_map] at h1
    exact h1
theorem ok_law_otherwise (T : Tx K w mg Z) : FnOk P w K mg base CX0 4 Z.a_law_otherwise Z.d_law_otherwise P_law_otherwise (spOther K) := by
  refine T.F_law_otherwise.ok sclaw_otherwise (fun vs H Q E h => ?_) (fun cdv A outer s H vs Q E hr h => ?_)
  · obtain ⟨t, g, q, n, L, ss, rfl, _⟩ := h
    rfl
  · obtain ⟨t, g, q, n, L, ss, rfl, hT, hn, lq, qt, qg, hs0, hs24, hLb, hsz, k⟩ := h
    have hb6 : ∀ m, m ≤ n + 100 → m < 2 ^ 60 := fun m hm => Nat.lt_of_le_of_lt hm (Nat.lt_of_lt_of_le (Nat.add_lt_add_right hn 100) (by decide))
    have A0 : At H H t g n := ⟨hT, Keep.refl _ _ _⟩
    obtain ⟨vs, v1, v2⟩ := id lq
    have hvl : vs.length = ss.length := by rw [dpAll_len v2, List.length_map]
    have nls := noLs_map noL_encP ss
    refine ⟨_, (pss_cons (ps_set (i := 3) sclaw_otherwise.nd rfl (Or.inl rfl) (pe_call (ok_law_take T) (hr.mono (by decide)) (by rfl) T.g_law_take T.F_law_take.kp T.bb_law_take .nil pass0 (pa_cons (pv 0) (pa_cons (pe_callB (lenK (K := K)) (by rfl) T.b_len (by decide +kernel) (pa_cons (pv 2) pa_nil)) pa_nil))))
      (pss_cons (ps_asg (pe_ix (ixL (K := K)) (pv 2) (pv 3) (fun _ _ => rfl)) (tupK (K := K) (by rfl) (pgs_cons (pg_name (i := 4) sclaw_otherwise.nd rfl (Or.inl rfl)) (pgs_cons (pg_name (i := 5) sclaw_otherwise.nd rfl (Or.inl rfl)) pgs_nil))))
      (C8.pss_cut (ps_set (i := 6) sclaw_otherwise.nd rfl (Or.inl rfl) (pe_lst (pa_cons (pe_op op_cat (pe_op op_cat (pe_slice (slL (K := K)) (pv 2) po_none (po_some (pv 3))) (pe_lst (pa_cons (pe_tup (pa_cons (pv 4) (pa_cons (pe_op op_add (pv 5) pe_int) pa_nil))) pa_nil))) (pe_slice (slL (K := K)) (pv 2) (po_some (pe_op op_add (pv 3) pe_int)) po_none)) (pa_cons (pe_op op_cat (pe_op op_cat (pe_slice (slL (K := K)) (pv 2) po_none (po_some (pv 3))) (pe_lst (pa_cons (pe_tup (pa_cons (pe_op op_add (pv 4) (pv 1)) (pa_cons (pv 5) pa_nil))) pa_nil))) (pe_slice (slL (K := K)) (pv 2) (po_some (pe_op op_add (pv 3) pe_int)) po_none)) pa_nil))))
      (C8.pss_cut (ps_set (i := 6) sclaw_otherwise.nd rfl (Or.inl rfl) (pe_op op_cat (pv 6) (pe_lst (pa_cons (pe_op op_cat (pv 2) (pe_lst (pa_cons (pe_ix (ixL (K := K)) (pv 2) (pv 3) (fun _ _ => rfl)) pa_nil))) (pa_cons (pe_revL (pv 2)) (pa_cons (pe_orT (pe_op op_cat (pe_slice (slL (K := K)) (pv 2) po_none (po_some (pv 3))) (pe_slice (slL (K := K)) (pv 2) (po_some (pe_op op_add (pv 3) pe_int)) po_none)) (pe_one (pv 2))) pa_nil))))))
      (pss_one (ps_ret (pe_slice (slL (K := K)) (pe_ix (ixL (K := K)) (pv 6) (pe_call (ok_law_take T) (hr.mono (by decide)) (by rfl) T.g_law_take T.F_law_take.kp T.bb_law_take .nil pass0 (pa_cons (pv 0) (pa_cons pe_int pa_nil))) (fun _ _ => rfl)) po_none (po_some pe_int)))))))), ?_⟩
    refine ⟨_, rfl, _, rfl, q, _, rfl, .inl (SqL.of v1), t, g, n, (vs.length : Int), rfl, hT, by omega, Nat.lt_of_le_of_lt (by omega : ((vs.length : Int)).natAbs ≤ 24) (by decide), hb6 _ (by omega), fun H1 c c0 c1 T1 k1 => ?_⟩
    have A1 := A0.step T1 k1
    have lq1 := lq.keep hT k1 qt qg nls
    obtain ⟨j, rfl⟩ := Int.eq_ofNat_of_zero_le c0
    have hj : j < ss.length := by omega
    obtain ⟨us, u1, u2⟩ := id lq1
    have hul : us.length = ss.length := by rw [dpAll_len u2, List.length_map]
    have huj : us[j]? = some (us[j]'(by omega)) := List.getElem?_eq_getElem (by omega)
    generalize us[j]'(by omega) = y at huj
    obtain ⟨e, hdi, hdy⟩ := dpAll_get u2 huj
    obtain ⟨s, hsj, rfl⟩ := map_at hdi
    have hsm := List.mem_of_getElem? hsj
    have hz := hsz s hsm
    obtain ⟨pp, rfl, hpp⟩ := dp_pair hdy
    refine ⟨_, rfl, _, rfl, q, us, _, _, rfl, rfl, SqL.of u1, at_of (j := j) rfl huj, ?_⟩
    refine ⟨pp, _, rfl, hpp, rfl, _, _, rfl, _, _, rfl, rfl, ?_⟩
    have hcut : ∀ {xs : List V}, cutV xs (some ((j : Int) + 1)) none = xs.drop (j + 1) := fun {xs} => by
      have e : ((j : Int) + 1) = ((j + 1 : Nat) : Int) := by push_cast; rfl
      rw [e, cut_from]
    have sz1 : ∀ z ∈ ss, SzP 250 z := fun z hz => ⟨lt_up (hsz z hz).1 (by decide), lt_up (hsz z hz).2 (by decide)⟩
    have one1 : SzP 250 (s.1, s.2 + 1) := ⟨lt_up hz.1 (by decide), lt_up (add_lt hz.2 (show (1 : Int).natAbs < 2 ^ 200 by decide)) (by decide)⟩
    have one2 : SzP 250 (s.1 + L, s.2) := ⟨lt_up (add_lt hz.1 (lt_up hLb (by decide : 100 ≤ 200))) (by decide), lt_up hz.2 (by decide)⟩
    have ne1 : ∀ {H' : Hp} {r : Addr}, Same H1 H' → H' r = none → r ≠ t ∧ r ≠ g := fun S h => (T1.same S).at_ne h
    have tl24 : (us.take j).length ≤ 24 := by rw [List.length_take]; omega
    have dl24 : (us.drop (j + 1)).length ≤ 24 := by rw [List.length_drop]; omega
    -- two ways
    refine ⟨fun σ' H' => ∃ (w0 a b : Addr) (ks ks2 : List Pr), σ' = [some (.ref t), some (.int L), some (.ref q), some (.int (j : Int)), some (.int s.1), some (.int s.2), some (.ref w0)] ∧ Same H1 H' ∧ H' w0 = some (.lst [.ref a, .ref b]) ∧ Way K t g H' a ks ∧ Way K t g H' b ks2, ?_, ?_⟩
    · refine ⟨_, rfl, _, rfl, (j : Int), rfl, q, _, rfl, SqL.of u1, fun a1 ha1 => ?_⟩
      rw [cut_take]
      have q1 := same_upd (o := HO.lst (us.take j)) ha1
      refine ⟨_, rfl, _, rfl, _, _, rfl, rfl, (by show 2 ≤ sizeLine; decide), fun tq htq => ⟨(by show 1 ≤ sizeLine; decide), fun a2 ha2 => ?_⟩⟩
      have q2 := same_upd (o := HO.tup [V.int s.1, .int (s.2 + 1)]) htq
      have q3 := same_upd (o := HO.lst [V.ref tq]) ha2
      refine ⟨a1, a2, _, _, rfl, rfl, q3 _ _ (q2 a1 _ upd_same), upd_same, Nat.le_trans (by simp; omega : _ ≤ 100) (by decide), fun a3 ha3 => ?_⟩
      have q4 := same_upd (o := HO.lst (us.take j ++ [V.ref tq])) ha3
      have S4 := ((q1.trans q2).trans q3).trans q4
      refine ⟨_, rfl, _, rfl, _, _, rfl, rfl, (j : Int) + 1, rfl, q, _, rfl, SqL.of (S4 _ _ u1), fun a4 ha4 => ?_⟩
      rw [hcut]
      have q5 := same_upd (o := HO.lst (us.drop (j + 1))) ha4
      refine ⟨a3, a4, _, _, rfl, rfl, q5 a3 _ upd_same, upd_same, Nat.le_trans (by simp; omega : _ ≤ 100) (by decide), fun a5 ha5 => ?_⟩
      have q6 := same_upd (o := HO.lst (us.take j ++ [V.ref tq] ++ us.drop (j + 1))) ha5
      have S6 := (S4.trans q5).trans q6
      have W1 := fun h => (⟨⟨_, upd_same, splice_at j (dpAll_mono S6 _ _ u2) h⟩, by rw [splice_len hj]; exact hs0, by rw [splice_len hj]; omega, splice_sz sz1 one1, ne1 (S4.trans q5) ha5⟩ : Way K t g _ a5 (ss.take j ++ [(s.1, s.2 + 1)] ++ ss.drop (j + 1)))
      have W1 := W1 (show Dp K _ (.ref tq) (encP (s.1, s.2 + 1)) from .tup (SqT.of (q6 _ _ (q5 _ _ (q4 _ _ (q3 tq _ upd_same))))) (.cons (.int _) (.cons (.int _) .nil)))
      -- the second
      refine ⟨_, rfl, _, rfl, (j : Int), rfl, q, _, rfl, SqL.of (S6 _ _ u1), fun b1 hb1 => ?_⟩
      rw [cut_take]
      have r1 := same_upd (o := HO.lst (us.take j)) hb1
      refine ⟨_, rfl, _, rfl, _, _, rfl, rfl, _, rfl, (by show 2 ≤ sizeLine; decide), fun tr htr => ⟨(by show 1 ≤ sizeLine; decide), fun b2 hb2 => ?_⟩⟩
      have r2 := same_upd (o := HO.tup [V.int (s.1 + L), .int s.2]) htr
      have r3 := same_upd (o := HO.lst [V.ref tr]) hb2
      refine ⟨b1, b2, _, _, rfl, rfl, r3 _ _ (r2 b1 _ upd_same), upd_same, Nat.le_trans (by simp; omega : _ ≤ 100) (by decide), fun b3 hb3 => ?_⟩
      have r4 := same_upd (o := HO.lst (us.take j ++ [V.ref tr])) hb3
      have R4 := ((r1.trans r2).trans r3).trans r4
      refine ⟨_, rfl, _, rfl, _, _, rfl, rfl, (j : Int) + 1, rfl, q, _, rfl, SqL.of (R4 _ _ (S6 _ _ u1)), fun b4 hb4 => ?_⟩
      rw [hcut]
      have r5 := same_upd (o := HO.lst (us.drop (j + 1))) hb4
      refine ⟨b3, b4, _, _, rfl, rfl, r5 b3 _ upd_same, upd_same, Nat.le_trans (by simp; omega : _ ≤ 100) (by decide), fun b5 hb5 => ?_⟩
      have r6 := same_upd (o := HO.lst (us.take j ++ [V.ref tr] ++ us.drop (j + 1))) hb5
      have R6 := (R4.trans r5).trans r6
      have W2 := fun h => (⟨⟨_, upd_same, splice_at j (dpAll_mono (S6.trans R6) _ _ u2) h⟩, by rw [splice_len hj]; exact hs0, by rw [splice_len hj]; omega, splice_sz sz1 one2, ne1 (S6.trans (R4.trans r5)) hb5⟩ : Way K t g _ b5 (ss.take j ++ [(s.1 + L, s.2)] ++ ss.drop (j + 1)))
      have W2 := W2 (show Dp K _ (.ref tr) (encP (s.1 + L, s.2)) from .tup (SqT.of (r6 _ _ (r5 _ _ (r4 _ _ (r3 tr _ upd_same))))) (.cons (.int _) (.cons (.int _) .nil)))
      refine ⟨(by show 2 ≤ sizeLine; decide), fun w0 hw0 => ?_⟩
      have Sw := same_upd (o := HO.lst [V.ref a5, .ref b5]) hw0
      exact ⟨w0, a5, b5, _, _, rfl, (S6.trans R6).trans Sw, upd_same, W1.same (R6.trans Sw), W2.same Sw⟩
    rintro σ2 H2 ⟨w0, a, b, ks, ks2, rfl, S2, gw, W1, W2⟩
    have u1' := S2 _ _ u1
    have u2' := dpAll_mono S2 _ _ u2
    -- three more
    refine ⟨fun σ' H' => ∃ (w0 a b c d e : Addr) (k1 k2 k3 k4 k5 : List Pr), σ' = [some (.ref t), some (.int L), some (.ref q), some (.int (j : Int)), some (.int s.1), some (.int s.2), some (.ref w0)] ∧ Same H1 H' ∧ w0 ≠ t ∧ w0 ≠ g ∧ H' w0 = some (.lst [.ref a, .ref b, .ref c, .ref d, .ref e]) ∧ Way K t g H' a k1 ∧ Way K t g H' b k2 ∧ Way K t g H' c k3 ∧ Way K t g H' d k4 ∧ Way K t g H' e k5, ?_, ?_⟩
    · refine ⟨_, rfl, _, rfl, _, rfl, _, rfl, q, us, _, _, rfl, rfl, SqL.of u1', at_of (j := j) rfl huj, (by show 1 ≤ sizeLine; decide), fun b1 hb1 => ?_⟩
      have r1 := same_upd (o := HO.lst [V.ref pp]) hb1
      refine ⟨q, b1, _, _, rfl, rfl, r1 _ _ u1', upd_same, Nat.le_trans (by simp; omega : _ ≤ 100) (by decide), fun b2 hb2 => ?_⟩
      have r2 := same_upd (o := HO.lst (us ++ [V.ref pp])) hb2
      have R2 := r1.trans r2
      refine ⟨_, rfl, q, _, rfl, SqL.of (R2 _ _ u1'), fun b3 hb3 => ?_⟩
      have r3 := same_upd (o := HO.lst us.reverse) hb3
      have R3 := R2.trans r3
      refine ⟨_, rfl, _, rfl, (j : Int), rfl, q, _, rfl, SqL.of (R3 _ _ u1'), fun b4 hb4 => ?_⟩
      rw [cut_take]
      have r4 := same_upd (o := HO.lst (us.take j)) hb4
      have R4 := R3.trans r4
      refine ⟨_, rfl, _, rfl, _, _, rfl, rfl, (j : Int) + 1, rfl, q, _, rfl, SqL.of (R4 _ _ u1'), fun b5 hb5 => ?_⟩
      rw [hcut]
      have r5 := same_upd (o := HO.lst (us.drop (j + 1))) hb5
      refine ⟨b4, b5, _, _, rfl, rfl, r5 b4 _ upd_same, upd_same, Nat.le_trans (by simp; omega : _ ≤ 100) (by decide), fun b6 hb6' => ?_⟩
      have r6 := same_upd (o := HO.lst (us.take j ++ us.drop (j + 1))) hb6'
      have R6 := (R4.trans r5).trans r6
      have dpp : ∀ {H' : Hp}, Same H2 H' → Dp K H' (.ref pp) (encP s) := fun S => .tup (Same.sqT (S2.trans S) hpp) (.cons (.int _) (.cons (.int _) .nil))
      have W3 : Way K t g _ b2 (ss ++ [s]) := ⟨⟨_, upd_same, by rw [List.map_append]; exact dpAll_app (dpAll_mono R2 _ _ u2') (.cons (dpp R2) .nil)⟩, by simp, by simp; omega, fun z hz => (List.mem_append.mp hz).elim (sz1 z) fun h => by rw [List.mem_singleton] at h; rw [h]; exact sz1 s hsm, ne1 (S2.trans r1) hb2⟩
      have W4 : Way K t g _ b3 ss.reverse := ⟨⟨_, upd_same, by rw [List.map_reverse]; exact dpAll_rev (dpAll_mono R3 _ _ u2')⟩, by simpa using hs0, by simp; omega, fun z hz => sz1 z (List.mem_reverse.mp hz), ne1 (S2.trans R2) hb3⟩
      refine ⟨_, .inl ⟨_, SqL.of upd_same, rfl⟩, ?_⟩
      cases hc : (us.take j ++ us.drop (j + 1)).isEmpty with
      | false =>
        have hne : 0 < (ss.take j ++ ss.drop (j + 1)).length := by
          have h1 : (us.take j ++ us.drop (j + 1)).length ≠ 0 := fun e => by
            rw [List.length_eq_zero_iff] at e
            rw [e] at hc
            cases hc
          have h2 : (ss.take j ++ ss.drop (j + 1)).length = (us.take j ++ us.drop (j + 1)).length := by simp [hul]
          omega
        have W5 : Way K t g _ b6 (ss.take j ++ ss.drop (j + 1)) := ⟨⟨_, upd_same, by rw [List.map_append, List.map_take, List.map_drop]; exact dpAll_app (dpAll_take j (dpAll_mono R6 _ _ u2')) (dpAll_drop (j + 1) (dpAll_mono R6 _ _ u2'))⟩, hne, by simp; omega, fun z hz => (List.mem_append.mp hz).elim (fun h => sz1 z (List.mem_of_mem_take h)) fun h => sz1 z (List.mem_of_mem_drop h), ne1 (S2.trans (R4.trans r5)) hb6'⟩
        refine iteT ⟨(by show 3 ≤ sizeLine; decide), fun b7 hb7 => ?_⟩
        have r7 := same_upd (o := HO.lst [V.ref b2, .ref b3, .ref b6]) hb7
        refine ⟨w0, b7, _, _, rfl, rfl, r7 _ _ (R6 _ _ gw), upd_same, Nat.le_trans (by simp : _ ≤ 100) (by decide), fun w1 hw1 => ?_⟩
        have r8 := same_upd (o := HO.lst ([V.ref a, .ref b] ++ [V.ref b2, .ref b3, .ref b6])) hw1
        have R8 := (R6.trans r7).trans r8
        obtain ⟨w1t, w1g⟩ := ne1 (S2.trans (R6.trans r7)) hw1
        exact ⟨w1, a, b, b2, b3, b6, _, _, _, _, _, rfl, S2.trans R8, w1t, w1g, upd_same, W1.same R8, W2.same R8, W3.same ((((r3.trans r4).trans r5).trans r6).trans (r7.trans r8)), W4.same (((r4.trans r5).trans r6).trans (r7.trans r8)), W5.same (r7.trans r8)⟩
      | true =>
        have W5 : Way K t g _ q ss := ⟨⟨_, R6 _ _ u1', dpAll_mono R6 _ _ u2'⟩, hs0, by omega, sz1, qt, qg⟩
        refine iteF ⟨_, rfl, (by show 3 ≤ sizeLine; decide), fun b7 hb7 => ?_⟩
        have r7 := same_upd (o := HO.lst [V.ref b2, .ref b3, .ref q]) hb7
        refine ⟨w0, b7, _, _, rfl, rfl, r7 _ _ (R6 _ _ gw), upd_same, Nat.le_trans (by simp : _ ≤ 100) (by decide), fun w1 hw1 => ?_⟩
        have r8 := same_upd (o := HO.lst ([V.ref a, .ref b] ++ [V.ref b2, .ref b3, .ref q])) hw1
        have R8 := (R6.trans r7).trans r8
        obtain ⟨w1t, w1g⟩ := ne1 (S2.trans (R6.trans r7)) hw1
        exact ⟨w1, a, b, b2, b3, q, _, _, _, _, _, rfl, S2.trans R8, w1t, w1g, upd_same, W1.same R8, W2.same R8, W3.same ((((r3.trans r4).trans r5).trans r6).trans (r7.trans r8)), W4.same (((r4.trans r5).trans r6).trans (r7.trans r8)), W5.same (r7.trans r8)⟩
    rintro σ3 H3 ⟨w0, a, b, c, d, e, k1', k2, k3, k4, k5, rfl, S3, wt, wg, gw, Wa, Wb, Wc, Wd, We⟩
    have T3 := T1.same S3
    refine ⟨_, rfl, _, rfl, t, g, n + 1, 5, rfl, T3, by decide, by decide, hb6 _ (by omega), fun H4 r r0 r1 T4 k4 => ?_⟩
    have A4 : At H H4 t g (n + 2) := ⟨T4, (A1.k.trans (Keep.of_same S3)).trans k4⟩
    obtain ⟨ri, kk, hat, Wr⟩ : ∃ ri kk, atI [V.ref a, .ref b, .ref c, .ref d, .ref e] r = some (.ref ri) ∧ Way K t g H3 ri kk := by
      have : r = 0 ∨ r = 1 ∨ r = 2 ∨ r = 3 ∨ r = 4 := by omega
      rcases this with e | e | e | e | e <;> subst e
      · exact ⟨_, _, rfl, Wa⟩
      · exact ⟨_, _, rfl, Wb⟩
      · exact ⟨_, _, rfl, Wc⟩
      · exact ⟨_, _, rfl, Wd⟩
      · exact ⟨_, _, rfl, We⟩
    obtain ⟨rv, rv1, rv2⟩ := Wr.l.keep T3 k4 Wr.nt.1 Wr.nt.2 (noLs_map noL_encP kk)
    refine ⟨w0, _, _, _, rfl, rfl, SqL.of (k4 _ _ gw wt wg), hat, 24, rfl, ri, _, rfl, SqL.of rv1, fun c1 hc1 => ?_⟩
    rw [show (some (24 : Int)) = some ((24 : Nat) : Int) from rfl, cut_take]
    have hlk := Wr.len
    have hpk := Wr.pos
    have Sc := same_upd (o := HO.lst (rv.take 24)) hc1
    refine k _ c1 (kk.take 24) (A4.free hc1) ((A4.sm Sc).up (by omega)) ⟨_, upd_same, by rw [List.map_take]; exact dpAll_mono Sc _ _ (dpAll_take 24 rv2)⟩ (by rw [List.length_take]; omega) (by rw [List.length_take]; omega) fun z hz => Wr.sz z (List.mem_of_mem_take hz)
end
end KA
namespace KA
open PySem PySem.Spec PyProof.Rows L2 DP
def spLaw (K : PySem.W.Frag) : Sp := fun vs H Q _ => ∃ (a : Addr) (ns : List Int), vs = [.ref a] ∧ SqL K H a (ns.map V.int) ∧ ns.length ≤ 63 ∧ ∀ H', Q (.bl true) H'
theorem DarkAt.acc {Z : Ad} {K : PySem.W.Frag} {H : Hp} {d F : Addr} {L : Int} {ls : List Lk} {xs : List V} {o : HO} (D : DarkAt Z K H d L ls) (hF : H F = some (.lst xs)) (hne : ∀ la dx, H d = some (.ins Z.C dx (df L la)) → la ≠ F) : DarkAt Z K (upd H F o) d L ls := by
  obtain ⟨dx, la, vs, e1, e2, e3⟩ := D.ex
  have hdF : d ≠ F := fun e => by rw [e, hF] at e1; cases e1
  exact ⟨⟨dx, la, vs, (upd_ne hdF).trans e1, (upd_ne (hne la dx e1)).trans e2, dpAll_tups (Tups.upd_lst hF) _ _ (noLs_map noL_encL ls) e3⟩, D.pos, D.big, D.ok, D.len⟩
theorem HandAt.acc {Z : Ad} {K : PySem.W.Frag} {H : Hp} {h d b F : Addr} {L : Int} {ss : List Pr} {xs : List V} {o : HO} (A : HandAt Z K H h d b L ss) (hF : H F = some (.lst xs)) (h1 : ∀ la dx, H d = some (.ins Z.C dx (df L la)) → la ≠ F) (h2 : ∀ la dx, H b = some (.ins Z.C dx (df L la)) → la ≠ F) : HandAt Z K (upd H F o) h d b L ss := by
  obtain ⟨dx, e⟩ := A.ex
  have hne : h ≠ F := fun q => by rw [q, hF] at e; cases e
  exact ⟨⟨dx, (upd_ne hne).trans e⟩, A.dark.acc hF h1, A.back.acc hF h2⟩
theorem LAt.acc {K : PySem.W.Frag} {H : Hp} {p D : Addr} {ds : List PyData} {xs : List V} {o : HO} (h : LAt K H p ds) (hD : H D = some (.lst xs)) (hne : p ≠ D) (hn : noL.noLs ds = true) : LAt K (upd H D o) p ds := by
  obtain ⟨vs, a, b⟩ := h
  exact ⟨vs, (upd_ne hne).trans a, dpAll_tups (Tups.upd_lst hD) _ _ hn b⟩
theorem SzP.up {m n : Nat} {s : Pr} (h : SzP m s) (hm : m ≤ n) : SzP n s := ⟨lt_up h.1 hm, lt_up h.2 hm⟩
theorem same_eq {L W : Int} {ss ks ps ps2 : List Pr} (c : CanonP ps (fun o => ∃ s ∈ ss, o = homeP L s)) (c2 : CanonP ps2 (fun o => ∃ s ∈ ks, o = homeP W s)) : (decide (L = W) && decide (heardAll L (frs ss) = heardAll W (frs ks))) = (decide (W = L) && decide (ps2 = ps)) := by
  rw [heard_frs c, heard_frs c2]
  have e1 : decide (L = W) = decide (W = L) := decide_eq_decide.mpr eq_comm
  have e2 : decide (ps.map fr1 = ps2.map fr1) = decide (ps2 = ps) := decide_eq_decide.mpr ⟨fun h => (frs_inj h).symm, fun h => by rw [h]⟩
  rw [e1, e2]
theorem same_eq' {L W : Int} {ss ks ps ps2 : List Pr} (c : CanonP ps (fun o => ∃ s ∈ ss, o = homeP L s)) (c2 : CanonP ps2 (fun o => ∃ s ∈ ks, o = homeP W s)) : (decide (W = L) && decide (heardAll W (frs ks) = heardAll L (frs ss))) = (decide (W = L) && decide (ps2 = ps)) := by
  rw [heard_frs c, heard_frs c2]
  have e2 : decide (ps2.map fr1 = ps.map fr1) = decide (ps2 = ps) := decide_eq_decide.mpr ⟨fun h => frs_inj h, fun h => by rw [h]⟩
  rw [e2]
def Trio (K : PySem.W.Frag) (t g : Addr) (H : Hp) (x : Addr) : Prop := ∃ (W : Int) (r : Addr) (ks : List Pr), H x = some (.tup [.int W, .ref r]) ∧ LAt K H r (ks.map encP) ∧ x ≠ t ∧ x ≠ g ∧ r ≠ t ∧ r ≠ g ∧ 0 < ks.length ∧ ks.length ≤ 24 ∧ 0 < W ∧ W.natAbs < 2 ^ 200 ∧ ∀ s ∈ ks, SzP 250 s
theorem Trio.same {K : PySem.W.Frag} {t g x : Addr} {H H' : Hp} (h : Trio K t g H x) (S : Same H H') : Trio K t g H' x := by
  obtain ⟨W, r, ks, h1, h2, h3⟩ := h
  exact ⟨W, r, ks, S _ _ h1, h2.same S, h3⟩
theorem Trio.keep {K : PySem.W.Frag} {t g x : Addr} {n : Nat} {H H' : Hp} (h : Trio K t g H x) (T : Tray H t g n) (k : Keep t g H H') : Trio K t g H' x := by
  obtain ⟨W, r, ks, h1, h2, x1, x2, r1, r2, h3⟩ := h
  exact ⟨W, r, ks, k _ _ h1 x1 x2, h2.keep T k r1 r2 (noLs_map noL_encP ks), x1, x2, r1, r2, h3⟩
section
variable {P : Program} {w : World} {K : PySem.W.Frag} {mg : Str → Option Value} {base : Heap} {Z : Ad}
theorem ok_law (T : Tx K w mg Z) : FnOk P w K mg base CX0 9 Z.a_law Z.d_law P_law (spLaw K) := by
  refine T.F_law.ok sclaw (fun vs H Q E h => ?_) (fun cdv A outer s H vs Q E hr h => ?_)
  · obtain ⟨a, ns, rfl, _⟩ := h
    rfl
  · obtain ⟨a, ns, rfl, hS, hlen, k⟩ := h
    refine ⟨_, (pss_cons (ps_set (i := 1) sclaw.nd rfl (Or.inl rfl) (pe_call (ok_law_deck T) (hr.mono (by decide)) (by rfl) T.g_law_deck T.F_law_deck.kp T.bb_law_deck .nil pass0 (pa_cons (pv 0) pa_nil)))
      (pss_cons (ps_for PassesOwn.never rfl (pi_range1 (by rfl) T.b_range (pa_cons (pe_op op_add pe_int (pe_callB (call_min2 rfl) (by rfl) T.b_min (by decide +kernel) (pa_cons pe_int (pa_cons (pe_callB (lenK (K := K)) (by rfl) T.b_len (by decide +kernel) (pa_cons (pv 0) pa_nil)) pa_nil)))) pa_nil)) (pg_name (i := 2) sclaw.nd rfl (Or.inl rfl)) (pss_cons (ps_set (i := 3) sclaw.nd rfl (Or.inl rfl) (pe_call (ok_law_wide T) (hr.mono (by decide)) (by rfl) T.g_law_wide T.F_law_wide.kp T.bb_law_wide .nil pass0 (pa_cons (pv 1) pa_nil)))
      (pss_cons (ps_set (i := 4) sclaw.nd rfl (Or.inl rfl) (pe_call (ok_law_afar T) (hr.mono (by decide)) (by rfl) T.g_law_afar T.F_law_afar.kp T.bb_law_afar .nil pass0 (pa_cons (pv 1) (pa_cons (pv 3) (pa_cons (pe_call (ok_law_steps_of T) (hr.mono (by decide)) (by rfl) T.g_law_steps_of T.F_law_steps_of.kp T.bb_law_steps_of .nil pass0 (pa_cons (pv 1) (pa_cons (pv 3) pa_nil))) pa_nil)))))
      (pss_cons (ps_set (i := 5) sclaw.nd rfl (Or.inl rfl) (pe_callTy (listK (K := K)) (by rfl) T.b_list (by decide +kernel) (pa_cons (pv 4) pa_nil)))
      (pss_cons (ps_set (i := 6) sclaw.nd rfl (Or.inr rfl) (pe_make T.mk_Hand (ok_Hand_init T) (hr.mono (by decide)) (by rfl) T.g_Hand T.bb_Hand_init .nil pass0 (pa_cons (pv 3) (pa_cons (pv 5) pa_nil))))
      (pss_cons (ps_expr (pe_bm PySem.F.plainAttrs_list PySem.F.slot_list_append PySem.F.type_list_append mt_append (pv 5) (pa_cons (pe_tup (pa_cons pe_int (pa_cons pe_int pa_nil))) pa_nil)))
      (pss_cons (ps_set (i := 7) sclaw.nd rfl (Or.inl rfl) (pe_call (ok_law_home T) (hr.mono (by decide)) (by rfl) T.g_law_home T.F_law_home.kp T.bb_law_home .nil pass0 (pa_cons (pv 3) (pa_cons (pv 4) pa_nil))))
      (pss_cons (ps_set (i := 8) sclaw.nd rfl (Or.inl rfl) (pe_meth0 (pv 6) T.cl_Hand T.m_Hand_steps (ok_Hand_steps T) (hr.mono (by decide)) T.bb_Hand_steps .nil pass0))
      (C8.pss_cut (ps_if (pt_not (pt_val (pe_call (ok_law_same T 4) (hr.mono (by decide)) (by rfl) T.g_law_same T.F_law_same.kp T.bb_law_same .nil pass0 (pa_cons (pe_lst (pa_cons (pe_meth0 (pv 6) T.cl_Hand T.m_Hand_length (ok_Hand_length T) (hr.mono (by decide)) T.bb_Hand_length .nil pass0) (pa_cons (pv 8) pa_nil))) (pa_cons (pe_lst (pa_cons (pv 3) (pa_cons (pv 7) pa_nil))) pa_nil))))) (pss_one (ps_ret pe_bl)) pss_nil)
      (pss_cons (ps_expr (pe_bm0 PySem.F.plainAttrs_list PySem.F.slot_list_reverse PySem.F.type_list_reverse mt_reverse (pv 8)))
      (pss_cons (ps_expr (pe_bm PySem.F.plainAttrs_list PySem.F.slot_list_append PySem.F.type_list_append mt_append (pv 8) (pa_cons (pe_tup (pa_cons pe_int (pa_cons pe_int pa_nil))) pa_nil)))
      (C8.pss_cut (ps_if (PW.pt (pw_or (pt_not (pt_val (pe_call (ok_law_same T 4) (hr.mono (by decide)) (by rfl) T.g_law_same T.F_law_same.kp T.bb_law_same .nil pass0 (pa_cons (pe_meth0 (pv 6) T.cl_Hand T.m_Hand_steps (ok_Hand_steps T) (hr.mono (by decide)) T.bb_Hand_steps .nil pass0) (pa_cons (pv 7) pa_nil))))) (pw_or1 (pt_cmpR (op_ownNe (ok_Hand_ne T) T.m_Hand_ne.at_ T.m_Hand_ne.fn T.bb_Hand_ne pass0 (hr.mono (by decide))) (pv 6) (pe_makeK0 T.mk_Hand (ok_Hand_init T) (hr.mono (by decide)) (by rfl) T.g_Hand T.kn_Hand_init_steps_length pass0 (pk_cons (pe_revL (pv 4)) (pk_cons (pv 3) pk_nil))) (nomark _))))) (pss_one (ps_ret pe_bl)) pss_nil)
      (C8.pss_cut (ps_set (i := 9) sclaw.nd rfl (Or.inl rfl) (pe_lst (pa_cons (pe_tup (pa_cons (pv 3) (pa_cons (pe_call (ok_law_otherwise T) (hr.mono (by decide)) (by rfl) T.g_law_otherwise T.F_law_otherwise.kp T.bb_law_otherwise .nil pass0 (pa_cons (pv 1) (pa_cons (pv 3) (pa_cons (pv 4) pa_nil)))) pa_nil))) (pa_cons (pe_tup (pa_cons (pe_op op_add (pv 3) pe_int) (pa_cons (pv 4) pa_nil))) (pa_cons (pe_tup (pa_cons (pv 3) (pa_cons (pe_call (ok_law_afar T) (hr.mono (by decide)) (by rfl) T.g_law_afar T.F_law_afar.kp T.bb_law_afar .nil pass0 (pa_cons (pv 1) (pa_cons (pv 3) (pa_cons (pv 4) pa_nil)))) pa_nil))) pa_nil)))))
      (pss_cons (ps_for PassesOwn.never rfl (pi_list (pv 9)) (tupK (K := K) (by rfl) (pgs_cons (pg_name (i := 10) sclaw.nd rfl (Or.inl rfl)) (pgs_cons (pg_name (i := 11) sclaw.nd rfl (Or.inl rfl)) pgs_nil))) (C8.pss_cut (ps_set (i := 12) sclaw.nd rfl (Or.inl rfl) (pe_and (pe_cmpR op_eq (pv 10) (pv 3) (nomark _)) (pe_one (pe_cmpR (eqDK (K := K) hr.units) (pe_call (ok_law_home T) (hr.mono (by decide)) (by rfl) T.g_law_home T.F_law_home.kp T.bb_law_home .nil pass0 (pa_cons (pv 10) (pa_cons (pv 11) pa_nil))) (pv 7) (nomark _)))))
      (pss_cons (ps_set (i := 13) sclaw.nd rfl (Or.inl rfl) (pe_make T.mk_Hand (ok_Hand_init T) (hr.mono (by decide)) (by rfl) T.g_Hand T.bb_Hand_init .nil pass0 (pa_cons (pv 10) (pa_cons (pv 11) pa_nil))))
      (pss_one (ps_if (pt_not (pt_val (pe_call (ok_law_same T 4) (hr.mono (by decide)) (by rfl) T.g_law_same T.F_law_same.kp T.bb_law_same .nil pass0 (pa_cons (pe_lst (pa_cons (pe_cmpR (op_ownEq (ok_Hand_eq T) T.m_Hand_eq.at_ T.m_Hand_eq.fn T.bb_Hand_eq pass0 (hr.mono (by decide))) (pv 6) (pv 13) (nomark _)) (pa_cons (pe_cmpR (op_ownEq (ok_Hand_eq T) T.m_Hand_eq.at_ T.m_Hand_eq.fn T.bb_Hand_eq pass0 (hr.mono (by decide))) (pv 13) (pv 6) (nomark _)) (pa_cons (pe_cmpR (op_ownNe (ok_Hand_ne T) T.m_Hand_ne.at_ T.m_Hand_ne.fn T.bb_Hand_ne pass0 (hr.mono (by decide))) (pv 6) (pv 13) (nomark _)) pa_nil)))) (pa_cons (pe_lst (pa_cons (pv 12) (pa_cons (pv 12) (pa_cons (pe_not (pv 12)) pa_nil)))) pa_nil))))) (pss_one (ps_ret pe_bl)) pss_nil)))))
      (pss_one (ps_if (pt_cmpR (neDK (K := K) hr.units) (pe_lc (own := [("thing", 14)]) (g := gName 14) (tt := _) rfl sclaw.nd (pi_list (pe_lst (pa_cons pe_non (pa_cons pe_int (pa_cons pe_str (pa_cons (pv 7) (pa_cons (pe_tup (pa_cons (pv 3) (pa_cons (pv 7) pa_nil))) (pa_cons pe_dnewT pa_nil)))))))) (blkOk_by (own := [("thing", 14)]) (N := N_law) (sc := defScope slaw) (by decide +kernel)) (fun _ _ _ _ _ => (pg_name (i := 14) sclaw.nd rfl (Or.inl rfl))) (fun _ _ _ _ _ => (pts_one (pt_cmpR (ownEqK (K := K) (ok_Hand_eq T) T.m_Hand_eq.at_ T.m_Hand_eq.fn T.bb_Hand_eq pass0 (hr.mono (by decide))) (pv 6) (pv 14) (nomark _)))) (fun _ _ _ _ _ => pe_int)) (pe_lst pa_nil) (nomark _)) (pss_one (ps_ret pe_bl)) pss_nil))))))))))))))))
      (pss_one (ps_ret pe_bl)))), ?_⟩
    refine ⟨_, rfl, a, ns, rfl, hS, hlen, fun H0 t g T0 S0 ht hg => ?_⟩
    refine ⟨_, rfl, a, _, rfl, .inl (Same.sqL S0 hS), _, _, rfl, _, _, rfl, rfl, ?_⟩
    obtain ⟨cut, hcut⟩ : ∃ cut, cut = (if ((ns.map V.int).length : Int) < 5 then ((ns.map V.int).length : Int) else 5) := ⟨_, rfl⟩
    have hc0 : 0 ≤ cut := by rw [hcut]; split <;> omega
    have hc4 : cut ≤ 5 := by rw [hcut]; split <;> omega
    refine ⟨3 + cut, by rw [hcut], by omega, by omega, ?_⟩
    refine for_range (n := (3 + cut).toNat) (fun i σ' H' => ∃ (u2 u3 u4 u5 u6 u7 u8 u9 u10 u11 u12 u13 u14 : Option V), σ' = [some (.ref a), some (.ref t), u2, u3, u4, u5, u6, u7, u8, u9, u10, u11, u12, u13, u14] ∧ Tray H' t g (20000 * i)) ⟨_, _, _, _, _, _, _, _, _, _, _, _, _, rfl, T0⟩ ?_ ?_
    rotate_left
    · rintro σ' H' ⟨_, _, _, _, _, _, _, _, _, _, _, _, _, rfl, _⟩
      exact k H'
    rintro i σ' H1 hi ⟨u2, u3, u4, u5, u6, u7, u8, u9, u10, u11, u12, u13, u14, rfl, T1⟩
    have hn : ∀ m, m ≤ 20000 * i + 20000 → m < 2 ^ 40 := fun m hm => Nat.lt_of_le_of_lt (by omega : m ≤ 2000000) (by decide)
    obtain ⟨N, eN⟩ : ∃ N, N = 20000 * i := ⟨_, rfl⟩
    have eN2 : 20000 * (i + 1) = N + 20000 := by omega
    rw [eN2]
    rw [← eN] at T1 hn
    -- wide, pairs
    refine ⟨_, rfl, t, g, N, rfl, T1, Nat.lt_trans (hn _ (by omega)) (by decide), fun H2 L hL hL30 T2 k2 => ?_⟩
    have hLb := bigL hL hL30
    have hLb2 : L.natAbs < 2 ^ 200 := lt_up hLb (by decide)
    refine ⟨_, rfl, _, rfl, _, rfl, _, rfl, t, g, N + 70, L, rfl, T2, Nat.lt_trans (hn _ (by omega)) (by decide), hL, hL30, fun H3 p prs hp B3 lp hp0 hp24 hpsz => ?_⟩
    obtain ⟨pt, pg⟩ := T2.at_ne hp
    refine ⟨t, g, p, N + 9070, L, prs, 110, rfl, B3.T, Nat.lt_trans (hn _ (by omega)) (by decide), hL, hL30, lp, pt, pg, hp24, by decide, hpsz, fun H4 q ss hq B4 lq hql hqsz _ => ?_⟩
    obtain ⟨qt, qg⟩ := B3.T.at_ne hq
    have hs0 : 0 < ss.length := by omega
    have hs24 : ss.length ≤ 24 := by omega
    have nls := noLs_map noL_encP ss
    have z28 : ∀ s ∈ ss, SzP 280 s := fun s hs => (hqsz s hs).up (by decide)
    -- handed
    obtain ⟨qs, q1, q2⟩ := id lq
    have hqsl : qs.length = ss.length := by rw [dpAll_len q2, List.length_map]
    refine ⟨_, rfl, q, _, rfl, .inl (SqL.of q1), fun hd hhd => ?_⟩
    have Sd := same_upd (o := HO.lst qs) hhd
    have gd : (upd H4 hd (.lst qs)) hd = some (.lst qs) := upd_same
    have ld : LAt K (upd H4 hd (.lst qs)) hd (ss.map encP) := ⟨qs, gd, dpAll_mono Sd _ _ q2⟩
    have lq5 := lq.same Sd
    have T5 := B4.T.same Sd
    obtain ⟨hdt, hdg⟩ := B4.T.at_ne hhd
    have hqd : q ≠ hd := ne_of_none q1 hhd
    generalize upd H4 hd (.lst qs) = H5 at Sd gd ld lq5 T5 ⊢
    -- hand
    refine ⟨_, rfl, _, rfl, fun h dx hhn hdx hne => ?_⟩
    have Sm : Same H5 (upd (upd H5 dx (.own h)) h (.ins Z.C_Hand dx [])) := same_made hhn hdx
    refine ⟨h, dx, .ref hd, L, ss, rfl, upd_same, (ld.same Sm).dp, hs0, by omega, hL, hLb2, z28, fun H6 d b A6 f1 f2 O6 => ⟨rfl, ?_⟩⟩
    have S6 : Same H5 H6 := fun c o e => O6 c o (Sm c o e) (ne_of_none e hhn)
    have nf1 : ∀ la dx', H6 d = some (.ins Z.C dx' (df L la)) → la ≠ hd := fun la dx' e q => by
      have := Sm.free (f1 la dx' e)
      rw [q, gd] at this; cases this
    have nf2 : ∀ la dx', H6 b = some (.ins Z.C dx' (df L la)) → la ≠ hd := fun la dx' e q => by
      have := Sm.free (f2 la dx' e)
      rw [q, gd] at this; cases this
    have o1 : Off Z H6 d L t g := fun la dx' e => T5.at_ne (Sm.free (f1 la dx' e))
    have o2 : Off Z H6 b L t g := fun la dx' e => T5.at_ne (Sm.free (f2 la dx' e))
    have A6' : HAt Z K H6 h d b L ss t g := ⟨A6, o1, o2⟩
    -- handed is changed
    refine ⟨_, rfl, .inl ⟨rfl, _, SqL.of (S6 _ _ gd)⟩, (by show 2 ≤ sizeLine; decide), fun tq htq => ?_⟩
    have Sq := same_upd (o := HO.tup [V.int 5, .int 5]) htq
    refine ⟨hd, _, _, rfl, rfl, Sq _ _ (S6 _ _ gd), small1000 (by omega), ?_⟩
    have gd7 := Sq _ _ (S6 _ _ gd)
    have A7a := A6.same Sq
    have nq1 : ∀ la dx', (upd H6 tq (HO.tup [V.int 5, .int 5])) d = some (.ins Z.C dx' (df L la)) → la ≠ hd := fun la dx' e => by
      obtain ⟨x1, x2, _, e1, _⟩ := A6.dark.ex
      have e2 := Sq _ _ e1
      rw [e] at e2
      rw [df_inj e2]
      exact nf1 _ _ e1
    have nq2 : ∀ la dx', (upd H6 tq (HO.tup [V.int 5, .int 5])) b = some (.ins Z.C dx' (df L la)) → la ≠ hd := fun la dx' e => by
      obtain ⟨x1, x2, _, e1, _⟩ := A6.back.ex
      have e2 := Sq _ _ e1
      rw [e] at e2
      rw [df_inj e2]
      exact nf2 _ _ e1
    have oq1 := o1.same A6.dark Sq
    have oq2 := o2.same A6.back Sq
    have A7 := A7a.acc (o := .lst (qs ++ [.ref tq])) gd7 nq1 nq2
    have lq7 := ((lq5.same S6).same Sq).acc (o := .lst (qs ++ [.ref tq])) gd7 hqd nls
    have T7 : Tray (upd (upd H6 tq (HO.tup [V.int 5, .int 5])) hd (.lst (qs ++ [.ref tq]))) t g (N + 9130) := by
      have := (⟨(T5.same S6).same Sq, Keep.of_same ((Sd.trans S6).trans Sq)⟩ : At H4 (upd H6 tq (HO.tup [V.int 5, .int 5])) t g _).acc (o := .lst (qs ++ [.ref tq])) hhd hdt hdg
      exact this.T.up (by omega)
    have oo1 : Off Z (upd (upd H6 tq (HO.tup [V.int 5, .int 5])) hd (.lst (qs ++ [.ref tq]))) d L t g := fun la dx' e => by
      obtain ⟨x1, x2, _, e1, _⟩ := A7a.dark.ex
      rw [upd_ne (fun z => by rw [z, gd7] at e1; cases e1)] at e
      exact oq1 la dx' e
    have oo2 : Off Z (upd (upd H6 tq (HO.tup [V.int 5, .int 5])) hd (.lst (qs ++ [.ref tq]))) b L t g := fun la dx' e => by
      obtain ⟨x1, x2, _, e1, _⟩ := A7a.back.ex
      rw [upd_ne (fun z => by rw [z, gd7] at e1; cases e1)] at e
      exact oq2 la dx' e
    have F7 : HAt Z K (upd (upd H6 tq (HO.tup [V.int 5, .int 5])) hd (.lst (qs ++ [.ref tq]))) h d b L ss t g := ⟨A7, oo1, oo2⟩
    generalize upd (upd H6 tq (HO.tup [V.int 5, .int 5])) hd (.lst (qs ++ [V.ref tq])) = H7 at lq7 T7 F7 ⊢
    clear A7 A7a nq1 nq2 oq1 oq2 gd7
    -- due
    refine ⟨_, rfl, _, rfl, q, L, ss, rfl, lq7, by omega, hL, hLb2, z28, fun pd H8 ps S8 hpd ld8 cm psl => ?_⟩
    have F8 := F7.same S8
    have T8 := T7.same S8
    have lq8 := lq7.same S8
    obtain ⟨pdt, pdg⟩ := T7.at_ne hpd
    obtain ⟨hx, h8⟩ := F8.A.ex
    have eps := heard_frs cm
    have hps : ps.length ≤ 24 := by omega
    have nlp := noLs_map noL_encP ps
    -- told
    refine ⟨_, rfl, h, hx, _, rfl, h8, hf_no _ _ (by decide +kernel) (by decide +kernel), h, d, b, L, ss, ps, rfl, F8.A, eps, fun tl H9 S9 htl lt9 => ?_⟩
    have sameTl : ∀ {H' : Hp} {o : HO}, Same H8 H' → Same H8 (upd H' tl o) := fun S => same_set S htl
    -- length, steps
    refine ⟨fun σ' H' => σ' = [some (.ref a), some (.ref t), some (.int (0 + (i : Nat))), some (.int L), some (.ref q), some (.ref hd), some (.ref h), some (.ref pd), some (.ref tl), u9, u10, u11, u12, u13, u14] ∧ Same H9 H', ?_, ?_⟩
    · refine ⟨_, rfl, h, hx, _, rfl, S9 _ _ h8, hf_no _ _ (by decide +kernel) (by decide +kernel), h, d, b, L, ss, rfl, F8.A.same S9, _, rfl, (by show 2 ≤ sizeLine; decide), fun x1 hx1 => ?_⟩
      refine ⟨_, rfl, _, rfl, (by show 2 ≤ sizeLine; decide), fun x2 hx2 => ?_⟩
      have Sx1 := same_upd (o := HO.lst [V.int L, .ref tl]) hx1
      have Sx2 := same_upd (o := HO.lst [V.int L, .ref pd]) hx2
      have Sx := Sx1.trans Sx2
      refine ⟨.ref x1, .ref x2, .list [.int L, .list (ps.map encP)], rfl, .lst (SqL.of (Sx2 _ _ upd_same)) (.cons (.int _) (.cons (lt9.same Sx).dp .nil)), .lst (SqL.of upd_same) (.cons (.int _) (.cons (ld8.same (S9.trans Sx)).dp .nil)), ?_, ?_, fun H' S' => ⟨_, rfl, iteF ⟨rfl, Sx.trans S'⟩⟩⟩
      · have h1 := few_prs (ps := ps) (by omega)
        rw [fewD, fewD.fewDs, fewD.fewDs, h1]; rfl
      · have h1 := depth_prs ps
        rw [PyData.depth, PyData.depthAll]
        simp only [PyData.depthAll, PyData.depth] at h1 ⊢
        omega
    rintro σ' H10 ⟨rfl, S10⟩
    -- told is changed
    obtain ⟨tv, tv1, tv2⟩ := lt9.same S10
    have htvl : tv.length = ps.length := by rw [dpAll_len tv2, List.length_map]
    refine ⟨_, rfl, .inl ⟨rfl, _, SqL.of tv1⟩, tl, _, rfl, rfl, tv1, ?_⟩
    refine ⟨_, rfl, .inl ⟨rfl, _, SqL.of upd_same⟩, (by show 2 ≤ sizeLine; decide), fun qt' hqt' => ?_⟩
    have Sqt := same_upd (o := HO.tup [V.int 0, .int 0]) hqt'
    refine ⟨tl, _, _, rfl, rfl, Sqt _ _ upd_same, small1000 (by rw [List.length_reverse]; omega), ?_⟩
    have S8a := sameTl (o := .lst (tv.reverse ++ [.ref qt'])) ((sameTl (o := .lst tv.reverse) (S9.trans S10)).trans Sqt)
    generalize upd (upd (upd H10 tl (.lst tv.reverse)) qt' (HO.tup [V.int 0, .int 0])) tl (.lst (tv.reverse ++ [V.ref qt'])) = H15 at S8a ⊢
    have F15 := F8.same S8a
    have T15 := T8.same S8a
    have lq15 := lq8.same S8a
    have ld15 := ld8.same S8a
    have h15 := S8a _ _ h8
    -- the steps stand; by names
    refine ⟨fun σ' H' => σ' = [some (.ref a), some (.ref t), some (.int (0 + (i : Nat))), some (.int L), some (.ref q), some (.ref hd), some (.ref h), some (.ref pd), some (.ref tl), u9, u10, u11, u12, u13, u14] ∧ Same H15 H', ?_, ?_⟩
    · refine ⟨_, rfl, h, hx, _, rfl, h15, hf_no _ _ (by decide +kernel) (by decide +kernel), h, d, b, L, ss, ps, rfl, F15.A, eps, fun pl H16 S16 hpl l16 => ?_⟩
      refine ⟨_, rfl, .ref pl, .ref pd, .list (ps.map encP), rfl, l16.dp, (ld15.same S16).dp, few_prs (by omega), Nat.lt_of_le_of_lt (depth_prs ps) (by decide), fun H17 S17 => ⟨_, rfl, iteF ?_⟩⟩
      have S1617 := S16.trans S17
      obtain ⟨rv, rv1, rv2⟩ := lq15.same S1617
      refine ⟨_, rfl, _, rfl, q, _, rfl, SqL.of rv1, fun rr hrr => ?_⟩
      have Sr := same_upd (o := HO.lst rv.reverse) hrr
      have lr : LAt K (upd H17 rr (.lst rv.reverse)) rr (ss.reverse.map encP) := ⟨_, upd_same, by rw [List.map_reverse]; exact dpAll_mono Sr _ _ (dpAll_rev rv2)⟩
      refine ⟨_, rfl, rfl, rfl, fun h2 dx2 hh2 hdx2 hne2 => ?_⟩
      have Sm2 := same_made (o := HO.ins Z.C_Hand dx2 []) hh2 hdx2
      refine ⟨h2, dx2, .ref rr, L, ss.reverse, rfl, upd_same, (lr.same Sm2).dp, by rw [List.length_reverse]; exact hs0, by rw [List.length_reverse]; omega, hL, hLb2, fun s hs => z28 s (List.mem_reverse.mp hs), fun H18 d2 b2 A18 _ _ O18 => ⟨rfl, ?_⟩⟩
      have S18 : Same H17 H18 := fun c o e => O18 c o (Sm2 c o (Sr c o e)) (ne_of_none (Sr c o e) hh2)
      have S1518 := S1617.trans S18
      obtain ⟨hx2, h18⟩ := A18.ex
      refine ⟨h, hx, _, rfl, S1518 _ _ h15, .ins h18, h, d, b, L, ss, h2, d2, b2, L, ss.reverse, rfl, F15.A.same S1518, A18, ?_⟩
      have e : heardAll L (frs ss) = heardAll L (frs ss.reverse) := by
        rw [eps]
        exact (heard_frs (cm.iff fun o => by simp only [List.mem_reverse])).symm
      have ff : (!(decide (L = L) && decide (heardAll L (frs ss) = heardAll L (frs ss.reverse)))) = false := by rw [← e]; simp
      rw [ff]
      exact ⟨_, rfl, _, rfl, iteF ⟨rfl, S1518⟩⟩
    rintro σ' H20 ⟨rfl, S20⟩
    have F20 := F15.same S20
    have T20 := T15.same S20
    have lq20 := lq15.same S20
    have ld20 := ld15.same S20
    -- others
    refine ⟨fun σ' H' => ∃ (oth t1 t2 t3 : Addr), σ' = [some (.ref a), some (.ref t), some (.int (0 + (i : Nat))), some (.int L), some (.ref q), some (.ref hd), some (.ref h), some (.ref pd), some (.ref tl), some (.ref oth), u10, u11, u12, u13, u14] ∧ At H20 H' t g (N + 9300) ∧ H' oth = some (.lst [.ref t1, .ref t2, .ref t3]) ∧ Trio K t g H' t1 ∧ Trio K t g H' t2 ∧ Trio K t g H' t3, ?_, ?_⟩
    · refine ⟨_, rfl, _, rfl, _, rfl, _, rfl, t, g, q, N + 9130, L, ss, rfl, T20, Nat.lt_trans (hn _ (by omega)) (by decide), lq20, qt, qg, hs0, hs24, hLb, fun s hs => (hqsz s hs).up (by decide), fun H21 r1 ks1 hr1 B21 lr1 p1 n1 z1 => ?_⟩
      obtain ⟨r1t, r1g⟩ := T20.at_ne hr1
      have lq21 := lq20.keep T20 B21.k qt qg nls
      refine ⟨(by show 2 ≤ sizeLine; decide), fun t1 ht1 => ?_⟩
      obtain ⟨t1t, t1g⟩ := B21.T.at_ne ht1
      have S1 := same_upd (o := HO.tup [V.int L, .ref r1]) ht1
      have C1 : Trio K t g (upd H21 t1 (HO.tup [V.int L, .ref r1])) t1 := ⟨L, r1, ks1, upd_same, lr1.same S1, t1t, t1g, r1t, r1g, p1, n1, hL, hLb2, z1⟩
      refine ⟨_, rfl, _, _, rfl, rfl, _, rfl, (by show 2 ≤ sizeLine; decide), fun t2 ht2 => ?_⟩
      obtain ⟨t2t, t2g⟩ := (B21.T.same S1).at_ne ht2
      have S2 := same_upd (o := HO.tup [V.int (L + 1), .ref q]) ht2
      have hL1 : (L + 1).natAbs < 2 ^ 200 := lt_up (add_lt hLb (show (1 : Int).natAbs < 2 ^ 100 by decide)) (by decide)
      have C2 : Trio K t g (upd (upd H21 t1 (HO.tup [V.int L, .ref r1])) t2 (HO.tup [V.int (L + 1), .ref q])) t2 := ⟨L + 1, q, ss, upd_same, (lq21.same S1).same S2, t2t, t2g, qt, qg, hs0, hs24, by omega, hL1, fun s hs => (hqsz s hs).up (by decide)⟩
      have C1b := C1.same S2
      have B22 := (B21.sm S1).sm S2
      have lq22 := (lq21.same S1).same S2
      generalize upd (upd H21 t1 (HO.tup [V.int L, .ref r1])) t2 (HO.tup [V.int (L + 1), .ref q]) = H22 at C2 C1b B22 lq22 ⊢
      refine ⟨_, rfl, _, rfl, _, rfl, _, rfl, t, g, q, N + 9140, L, ss, 112, rfl, B22.T, Nat.lt_trans (hn _ (by omega)) (by decide), hL, hL30, lq22, qt, qg, hs24, by decide, hqsz, fun H24 r3 ks3 hr3 B24 lr3 l3 z3 _ => ?_⟩
      obtain ⟨r3t, r3g⟩ := B22.T.at_ne hr3
      refine ⟨(by show 2 ≤ sizeLine; decide), fun t3 ht3 => ?_⟩
      obtain ⟨t3t, t3g⟩ := B24.T.at_ne ht3
      have S3 := same_upd (o := HO.tup [V.int L, .ref r3]) ht3
      have C3 : Trio K t g (upd H24 t3 (HO.tup [V.int L, .ref r3])) t3 := ⟨L, r3, ks3, upd_same, lr3.same S3, t3t, t3g, r3t, r3g, by omega, by omega, hL, hLb2, fun s hs => (z3 s hs).up (by decide)⟩
      refine ⟨(by show 3 ≤ sizeLine; decide), fun oth hoth => ?_⟩
      have S4 := same_upd (o := HO.lst [V.ref t1, .ref t2, .ref t3]) hoth
      exact ⟨oth, t1, t2, t3, rfl, (((B22.step B24.T B24.k).sm S3).sm S4).up (by omega), upd_same, ((C1b.keep B22.T B24.k).same S3).same S4, ((C2.keep B22.T B24.k).same S3).same S4, C3.same S4⟩
    rintro σ' Hb ⟨oth, t1, t2, t3, rfl, Bb, goth, C1, C2, C3⟩
    have Fb := F20.keep T20 Bb.k
    have ldb := ld20.keep T20 Bb.k pdt pdg nlp
    obtain ⟨hxb, hb⟩ := Fb.A.ex
    have Tb := Bb.T
    clear Bb F20 T20 lq20 ld20 S20 F15 T15 lq15 ld15 S8a F8 T8 lq8 ld8 F7 T7 lq7 S8 S9 h8 h15
    have trio : ∀ (j : Nat) (y : V), [V.ref t1, .ref t2, .ref t3][j]? = some y → ∃ x, y = .ref x ∧ Trio K t g Hb x := fun j y hy => by
      match j, hy with
      | 0, hy => exact ⟨t1, (Option.some.inj hy).symm, C1⟩
      | 1, hy => exact ⟨t2, (Option.some.inj hy).symm, C2⟩
      | 2, hy => exact ⟨t3, (Option.some.inj hy).symm, C3⟩
      | n + 3, hy => exact absurd hy (by simp)
    refine ⟨_, rfl, oth, rfl, ⟨_, SqL.of goth⟩, ?_⟩
    refine for_list (K := K) (a := oth) (xs := [V.ref t1, .ref t2, .ref t3]) (fun j σ' H' => ∃ (v10 v11 v12 v13 : Option V), σ' = [some (.ref a), some (.ref t), some (.int (0 + (i : Nat))), some (.int L), some (.ref q), some (.ref hd), some (.ref h), some (.ref pd), some (.ref tl), some (.ref oth), v10, v11, v12, v13, u14] ∧ Same Hb H') ⟨_, _, _, _, rfl, fun _ _ e => e⟩ (fun j σ' H' _ ⟨_, _, _, _, _, S⟩ => SqL.of (S _ _ goth)) ?_ ?_
    · rintro j y σ' Hc hj ⟨v10, v11, v12, v13, rfl, Sc⟩
      obtain ⟨x, rfl, W, r, ks, gx, lr, _, _, _, _, kp, kl, hW, hWb, kz⟩ := trio j y hj
      have kz28 : ∀ s ∈ ks, SzP 280 s := fun s hs => (kz s hs).up (by decide)
      refine ⟨x, _, rfl, SqT.of (Sc _ _ gx), rfl, _, _, rfl, _, _, rfl, rfl, ?_⟩
      -- alike
      refine ⟨fun σ' H' => ∃ al : Bool, σ' = [some (.ref a), some (.ref t), some (.int (0 + (i : Nat))), some (.int L), some (.ref q), some (.ref hd), some (.ref h), some (.ref pd), some (.ref tl), some (.ref oth), some (.int W), some (.ref r), some (.bl al), v13, u14] ∧ Same Hb H' ∧ (decide (L = W) && decide (heardAll L (frs ss) = heardAll W (frs ks))) = al ∧ (decide (W = L) && decide (heardAll W (frs ks) = heardAll L (frs ss))) = al, ?_, ?_⟩
      · refine ⟨_, rfl, _, rfl, rfl, _, rfl, ?_⟩
        have e0 : decide (V.int W = V.int L) = decide (W = L) := by
          by_cases c : W = L
          · rw [c]; simp
          · rw [decide_eq_false c]; exact decide_eq_false fun e => c (V.int.inj e)
        rw [e0]
        cases c : decide (W = L) with
        | false =>
          have cn := of_decide_eq_false c
          exact iteF ⟨false, rfl, Sc, by rw [decide_eq_false (fun e => cn e.symm)]; rfl, rfl⟩
        | true =>
          refine iteT ⟨_, rfl, _, rfl, r, W, ks, rfl, lr.same Sc, by omega, hW, hWb, kz28, fun pd2 Hd ps2 Sd2 hpd2 ld2 cm2 _ => ?_⟩
          refine ⟨_, rfl, .list (ps2.map encP), .list (ps.map encP), ld2.dp, (ldb.same (Sc.trans Sd2)).dp, shaped_prs _, shaped_prs _, ?_⟩
          have ev : PyData.eqv (.list (ps2.map encP)) (.list (ps.map encP)) = decide (ps2 = ps) := by rw [PyData.eqv, eqv_pairs]
          rw [ev]
          refine ⟨decide (ps2 = ps), rfl, Sc.trans Sd2, ?_, ?_⟩
          · rw [same_eq cm cm2, c, Bool.true_and]
          · have := same_eq' cm cm2
            rw [c, Bool.true_and] at this
            exact this
      rintro σ' He ⟨al, rfl, Se, c1, c2⟩
      -- other
      refine ⟨_, rfl, _, rfl, fun h2 dx2 hh2 hdx2 hne2 => ?_⟩
      have Sm2 := same_made (o := HO.ins Z.C_Hand dx2 []) hh2 hdx2
      refine ⟨h2, dx2, .ref r, W, ks, rfl, upd_same, ((lr.same Se).same Sm2).dp, kp, by omega, hW, hWb, kz28, fun Hf d2 b2 A2 _ _ O2 => ⟨rfl, ?_⟩⟩
      have Sf : Same He Hf := fun c o e => O2 c o (Sm2 c o e) (ne_of_none e hh2)
      have Sbf := Se.trans Sf
      obtain ⟨hx2, g2⟩ := A2.ex
      have Ff := Fb.A.same Sbf
      have hbf := Sbf _ _ hb
      refine ⟨_, rfl, _, rfl, h, hxb, _, rfl, hbf, .ins g2, h, d, b, L, ss, .ref h2, rfl, Ff, .inl ⟨h2, d2, b2, W, ks, rfl, A2, ?_⟩⟩
      rw [c1]
      refine ⟨_, rfl, _, rfl, _, rfl, h2, hx2, _, rfl, g2, .ins hbf, h2, d2, b2, W, ks, .ref h, rfl, A2, .inl ⟨h, d, b, L, ss, rfl, Ff, ?_⟩⟩
      rw [c2]
      refine ⟨_, rfl, _, rfl, _, rfl, h, hxb, _, rfl, hbf, .ins g2, h, d, b, L, ss, h2, d2, b2, W, ks, rfl, Ff, A2, ?_⟩
      rw [c1]
      refine ⟨_, rfl, (by show 3 ≤ sizeLine; decide), fun x1 hx1 => ?_⟩
      refine ⟨_, rfl, _, rfl, _, rfl, _, rfl, (by show 3 ≤ sizeLine; decide), fun x2 hx2 => ?_⟩
      have Sx1 := same_upd (o := HO.lst [V.bl al, .bl al, .bl (!al)]) hx1
      have Sx2 := same_upd (o := HO.lst [V.bl al, .bl al, .bl (!al)]) hx2
      exact ⟨.ref x1, .ref x2, .list [.bool al, .bool al, .bool (!al)], rfl, .lst (SqL.of (Sx2 _ _ upd_same)) (.cons (.bl _) (.cons (.bl _) (.cons (.bl _) .nil))), .lst (SqL.of upd_same) (.cons (.bl _) (.cons (.bl _) (.cons (.bl _) .nil))), rfl, by simp [PyData.depth, PyData.depthAll], fun H' S' => ⟨_, rfl, iteF ⟨_, _, _, _, rfl, ((Sbf.trans Sx1).trans Sx2).trans S'⟩⟩⟩
    rintro σ' Hg ⟨v10, v11, v12, v13, rfl, Sg⟩
    have Fg := Fb.same Sg
    have hg' := Sg _ _ hb
    have ldg := ldb.same Sg
    have Tg := Tb.same Sg
    obtain ⟨pv', pv1', pv2'⟩ := id ldg
    -- other things
    refine ⟨_, rfl, _, rfl, _, rfl, (by show 2 ≤ sizeLine; decide), fun tp htp => fun dd hdd => ⟨(by show 6 ≤ sizeLine; decide), fun lt hlt => ?_⟩⟩
    have Stp := same_upd (o := HO.tup [V.int L, .ref pd]) htp
    have Sdd := same_upd (o := HO.dT []) hdd
    have Slt := same_upd (o := HO.lst [V.non, .int 5, .str "hand", .ref pd, .ref tp, .ref dd]) hlt
    have Sw := (Stp.trans Sdd).trans Slt
    have glt : (upd (upd (upd Hg tp (HO.tup [V.int L, .ref pd])) dd (HO.dT [])) lt (HO.lst [V.non, .int 5, .str "hand", .ref pd, .ref tp, .ref dd])) lt = some (.lst [V.non, .int 5, .str "hand", .ref pd, .ref tp, .ref dd]) := upd_same
    have gdd := Slt dd _ upd_same
    have gtp := Slt tp _ (Sdd tp _ upd_same)
    have gpd := Sw _ _ pv1'
    have Fw := Fg.same Sw
    have hgw := Sw _ _ hg'
    have Tw := Tg.same Sw
    generalize upd (upd (upd Hg tp (HO.tup [V.int L, .ref pd])) dd (HO.dT [])) lt (HO.lst [V.non, .int 5, .str "hand", .ref pd, .ref tp, .ref dd]) = Hw at glt gdd gtp gpd Fw hgw Tw ⊢
    have foes : ∀ (j : Nat) (y : V), [V.non, .int 5, .str "hand", .ref pd, .ref tp, .ref dd][j]? = some y → ∀ H', Same Hw H' → Foe Z K H' y := fun j y hy H' S => by
      match j, hy with
      | 0, hy => rw [← Option.some.inj hy]; exact ⟨"NoneType", .base .non, T.no_Hand_NoneType, T.nf_Hand_NoneType⟩
      | 1, hy => rw [← Option.some.inj hy]; exact ⟨"int", .base (.int 5), T.no_Hand_int, T.nf_Hand_int⟩
      | 2, hy => rw [← Option.some.inj hy]; exact ⟨"str", .base (.str _), T.no_Hand_str, T.nf_Hand_str⟩
      | 3, hy => rw [← Option.some.inj hy]; exact ⟨"list", .base (.lst (S _ _ gpd)), T.no_Hand_list, T.nf_Hand_list⟩
      | 4, hy => rw [← Option.some.inj hy]; exact ⟨"tuple", .base (.tup (S _ _ gtp)), T.no_Hand_tuple, T.nf_Hand_tuple⟩
      | 5, hy => rw [← Option.some.inj hy]; exact ⟨"dict", .base (.dT (S _ _ gdd)), T.no_Hand_dict, T.nf_Hand_dict⟩
      | n + 6, hy => exact absurd hy (by simp)
    refine ⟨lt, rfl, ⟨_, SqL.of glt⟩, fun D hD => ?_⟩
    refine lc_list (K := K) (a := lt) (xs := [V.non, .int 5, .str "hand", .ref pd, .ref tp, .ref dd]) (fun j H' => Same Hw H' ∧ H' D = some (.lst [])) ⟨same_upd hD, upd_same⟩ (fun j H' _ ⟨S, _⟩ => SqL.of (S _ _ glt)) ?_ ?_
    · rintro j y H' hj ⟨S, gD⟩
      obtain ⟨ty, hty, hk, hnf⟩ := foes j y hj H' S
      exact ⟨rfl, _, rfl, _, rfl, h, hxb, _, rfl, S _ _ hgw, .any hty hnf, h, d, b, L, ss, y, rfl, Fw.A.same S, .inr ⟨⟨ty, hty, hk, hnf⟩, _, rfl, _, rfl, iteF ⟨S, gD⟩⟩⟩
    rintro H2 ⟨S2, gD⟩
    refine ⟨(by show 0 ≤ sizeLine; decide), fun e1 he1 => ?_⟩
    have Se1 := same_upd (o := HO.lst ([] : List V)) he1
    refine ⟨.list [], .list [], .lst (SqL.of (Se1 _ _ gD)) .nil, .lst (SqL.of upd_same) .nil, rfl, rfl, _, rfl, ?_⟩
    exact iteF ⟨_, _, _, _, _, _, _, _, _, _, _, _, _, rfl, ((Tw.same S2).same Se1).up (by omega)⟩
end
end KA
namespace KA
open PySem PySem.Spec PyProof.Rows L2 DP
theorem g11_of {α : Type} : ∀ {us ws : List α}, (g11 us ws).length = 2 → ∃ a b, us = [a] ∧ ws = [b]
  | [a], [b], _ => ⟨a, b, rfl, rfl⟩
  | [], _, h => nomatch (show (0 : Nat) = 2 from h)
  | [_], [], h => nomatch (show (0 : Nat) = 2 from h)
  | [_], _ :: _ :: _, h => nomatch (show (0 : Nat) = 2 from h)
  | _ :: _ :: _, _, h => nomatch (show (0 : Nat) = 2 from h)
theorem sqt2 {K : PySem.W.Frag} {H : Hp} {t : Addr} {x y : Str} {o : Option Addr} {u v : Tok} {n : Nat} {s : Array (Option Value)} (l : K.lookup t = some ⟨.type "tuple", o, .seq #[.str x u, .str y v] n, s⟩) : SqT K H t [.str x, .str y] :=
  .inr ⟨_, _, n, l, rfl, rfl, (by show 2 ≤ sizeLine; decide), .cons ⟨u, rfl⟩ (.cons ⟨v, rfl⟩ .nil)⟩
theorem sqt3 {K : PySem.W.Frag} {H : Hp} {t : Addr} {x y z : Str} {o : Option Addr} {u v q : Tok} {n : Nat} {s : Array (Option Value)} (l : K.lookup t = some ⟨.type "tuple", o, .seq #[.str x u, .str y v, .str z q] n, s⟩) : SqT K H t [.str x, .str y, .str z] :=
  .inr ⟨_, _, n, l, rfl, rfl, (by show 3 ≤ sizeLine; decide), .cons ⟨u, rfl⟩ (.cons ⟨v, rfl⟩ (.cons ⟨q, rfl⟩ .nil))⟩
theorem all_mk {l : PySem.W.OpenLaw} {w : World} {K : PySem.W.Frag} {h : Heap} {mg : Str → Option Value} {fa : Addr} (X : K.In h) (G : h.Ns mainGlobals mg) (hfa : mg "law" = some (.ref fa))
    {C : Addr}
    {C_Hand : Addr}
    {f0 : Addr} {od0 an0 : Option Addr} {sl0 : Array (Option Value)} {oc0 kV0 dc0 pm0 cd0 ct0 : Value}
    {f1 : Addr} {od1 an1 : Option Addr} {sl1 : Array (Option Value)} {oc1 kV1 dc1 pm1 cd1 ct1 : Value}
    {f2 : Addr} {od2 an2 : Option Addr} {sl2 : Array (Option Value)} {oc2 kV2 dc2 pm2 cd2 ct2 : Value}
    {f3 : Addr} {od3 an3 : Option Addr} {sl3 : Array (Option Value)} {oc3 kV3 dc3 pm3 cd3 ct3 : Value}
    {f4 : Addr} {od4 an4 : Option Addr} {sl4 : Array (Option Value)} {oc4 kV4 dc4 pm4 cd4 ct4 : Value}
    {f5 : Addr} {od5 an5 : Option Addr} {sl5 : Array (Option Value)} {oc5 kV5 dc5 pm5 cd5 ct5 : Value}
    {f6 : Addr} {od6 an6 : Option Addr} {sl6 : Array (Option Value)} {oc6 kV6 dc6 pm6 cd6 ct6 : Value}
    {f7 : Addr} {od7 an7 : Option Addr} {sl7 : Array (Option Value)} {oc7 kV7 dc7 pm7 cd7 ct7 : Value}
    {f8 : Addr} {od8 an8 : Option Addr} {sl8 : Array (Option Value)} {oc8 kV8 dc8 pm8 cd8 ct8 : Value}
    {f9 : Addr} {od9 an9 : Option Addr} {sl9 : Array (Option Value)} {oc9 kV9 dc9 pm9 cd9 ct9 : Value}
    {f10 : Addr} {od10 an10 : Option Addr} {sl10 : Array (Option Value)} {oc10 kV10 dc10 pm10 cd10 ct10 : Value}
    {f11 : Addr} {od11 an11 : Option Addr} {sl11 : Array (Option Value)} {oc11 kV11 dc11 pm11 cd11 ct11 : Value}
    {f12 : Addr} {od12 an12 : Option Addr} {sl12 : Array (Option Value)} {oc12 kV12 dc12 pm12 cd12 ct12 : Value}
    {f13 : Addr} {od13 an13 : Option Addr} {sl13 : Array (Option Value)} {oc13 kV13 dc13 pm13 cd13 ct13 : Value}
    {f14 : Addr} {od14 an14 : Option Addr} {sl14 : Array (Option Value)} {oc14 kV14 dc14 pm14 cd14 ct14 : Value}
    {f15 : Addr} {od15 an15 : Option Addr} {sl15 : Array (Option Value)} {oc15 kV15 dc15 pm15 cd15 ct15 : Value}
    {f16 : Addr} {od16 an16 : Option Addr} {sl16 : Array (Option Value)} {oc16 kV16 dc16 pm16 cd16 ct16 : Value}
    {f17 : Addr} {od17 an17 : Option Addr} {sl17 : Array (Option Value)} {oc17 kV17 dc17 pm17 cd17 ct17 : Value}
    {f18 : Addr} {od18 an18 : Option Addr} {sl18 : Array (Option Value)} {oc18 kV18 dc18 pm18 cd18 ct18 : Value}
    {f19 : Addr} {od19 an19 : Option Addr} {sl19 : Array (Option Value)} {oc19 kV19 dc19 pm19 cd19 ct19 : Value}
    {f20 : Addr} {od20 an20 : Option Addr} {sl20 : Array (Option Value)} {oc20 kV20 dc20 pm20 cd20 ct20 : Value}
    {f21 : Addr} {od21 an21 : Option Addr} {sl21 : Array (Option Value)} {oc21 kV21 dc21 pm21 cd21 ct21 : Value}
    {f22 : Addr} {od22 an22 : Option Addr} {sl22 : Array (Option Value)} {oc22 kV22 dc22 pm22 cd22 ct22 : Value}
    {f23 : Addr} {od23 an23 : Option Addr} {sl23 : Array (Option Value)} {oc23 kV23 dc23 pm23 cd23 ct23 : Value}
    {f24 : Addr} {od24 an24 : Option Addr} {sl24 : Array (Option Value)} {oc24 kV24 dc24 pm24 cd24 ct24 : Value}
    {f25 : Addr} {od25 an25 : Option Addr} {sl25 : Array (Option Value)} {oc25 kV25 dc25 pm25 cd25 ct25 : Value}
    {f26 : Addr} {od26 an26 : Option Addr} {sl26 : Array (Option Value)} {oc26 kV26 dc26 pm26 cd26 ct26 : Value}
    {f27 : Addr} {od27 an27 : Option Addr} {sl27 : Array (Option Value)} {oc27 kV27 dc27 pm27 cd27 ct27 : Value}
    {tSLOW : Tok}
    {tFAST : Tok}
    {aW aL tS tF : Addr} {es : Array DictEntry} {nW n1 n2 n3 : Nat} {o1 o2 o3 : Option Addr} {s1 s2 s3 : Array (Option Value)} {u1 u2 u3 u4 u5 u6 u7 : Tok}
    (aC : PySem.W.nsIn K mainGlobals "Dark" = some (some (.ref C)))
    (aC_Hand : PySem.W.nsIn K mainGlobals "Hand" = some (some (.ref C_Hand)))
    (a0 : PySem.W.nsIn K mainGlobals "_law_deck" = some (some (.ref f0)))
    (l0 : K.lookup f0 = some ⟨oc0, od0, .func (PySem.W.fnOf "_law_deck" "_law_deck" (defArgs slaw_deck) (defBody slaw_deck) (defScope slaw_deck) .none kV0 dc0 pm0 an0 cd0 ct0), sl0⟩)
    (c0 : PySem.W.codeIn K cd0 "_law_deck" = true)
    (k0 : PySem.W.keepIn K (.ref f0) = true)
    (a1 : PySem.W.nsIn K mainGlobals "_law_take" = some (some (.ref f1)))
    (l1 : K.lookup f1 = some ⟨oc1, od1, .func (PySem.W.fnOf "_law_take" "_law_take" (defArgs slaw_take) (defBody slaw_take) (defScope slaw_take) .none kV1 dc1 pm1 an1 cd1 ct1), sl1⟩)
    (c1 : PySem.W.codeIn K cd1 "_law_take" = true)
    (k1 : PySem.W.keepIn K (.ref f1) = true)
    (a2 : PySem.W.nsIn K mainGlobals "_law_below" = some (some (.ref f2)))
    (l2 : K.lookup f2 = some ⟨oc2, od2, .func (PySem.W.fnOf "_law_below" "_law_below" (defArgs slaw_below) (defBody slaw_below) (defScope slaw_below) .none kV2 dc2 pm2 an2 cd2 ct2), sl2⟩)
    (c2 : PySem.W.codeIn K cd2 "_law_below" = true)
    (k2 : PySem.W.keepIn K (.ref f2) = true)
    (a3 : PySem.W.nsIn K mainGlobals "_law_wide" = some (some (.ref f3)))
    (l3 : K.lookup f3 = some ⟨oc3, od3, .func (PySem.W.fnOf "_law_wide" "_law_wide" (defArgs slaw_wide) (defBody slaw_wide) (defScope slaw_wide) .none kV3 dc3 pm3 an3 cd3 ct3), sl3⟩)
    (c3 : PySem.W.codeIn K cd3 "_law_wide" = true)
    (k3 : PySem.W.keepIn K (.ref f3) = true)
    (a4 : PySem.W.nsIn K mainGlobals "_law_hidden" = some (some (.ref f4)))
    (l4 : K.lookup f4 = some ⟨oc4, od4, .func (PySem.W.fnOf "_law_hidden" "_law_hidden" (defArgs slaw_hidden) (defBody slaw_hidden) (defScope slaw_hidden) .none kV4 dc4 pm4 an4 cd4 ct4), sl4⟩)
    (c4 : PySem.W.codeIn K cd4 "_law_hidden" = true)
    (k4 : PySem.W.keepIn K (.ref f4) = true)
    (a5 : PySem.W.nsIn K mainGlobals "_law_steps_of" = some (some (.ref f5)))
    (l5 : K.lookup f5 = some ⟨oc5, od5, .func (PySem.W.fnOf "_law_steps_of" "_law_steps_of" (defArgs slaw_steps_of) (defBody slaw_steps_of) (defScope slaw_steps_of) .none kV5 dc5 pm5 an5 cd5 ct5), sl5⟩)
    (c5 : PySem.W.codeIn K cd5 "_law_steps_of" = true)
    (k5 : PySem.W.keepIn K (.ref f5) = true)
    (a6 : PySem.W.nsIn K mainGlobals "_law_afar" = some (some (.ref f6)))
    (l6 : K.lookup f6 = some ⟨oc6, od6, .func (PySem.W.fnOf "_law_afar" "_law_afar" (defArgs slaw_afar) (defBody slaw_afar) (defScope slaw_afar) .none kV6 dc6 pm6 an6 cd6 ct6), sl6⟩)
    (c6 : PySem.W.codeIn K cd6 "_law_afar" = true)
    (k6 : PySem.W.keepIn K (.ref f6) = true)
    (a7 : PySem.W.nsIn K mainGlobals "_law_same" = some (some (.ref f7)))
    (l7 : K.lookup f7 = some ⟨oc7, od7, .func (PySem.W.fnOf "_law_same" "_law_same" (defArgs slaw_same) (defBody slaw_same) (defScope slaw_same) .none kV7 dc7 pm7 an7 cd7 ct7), sl7⟩)
    (c7 : PySem.W.codeIn K cd7 "_law_same" = true)
    (k7 : PySem.W.keepIn K (.ref f7) = true)
    (a8 : PySem.W.nsIn K mainGlobals "_law_home" = some (some (.ref f8)))
    (l8 : K.lookup f8 = some ⟨oc8, od8, .func (PySem.W.fnOf "_law_home" "_law_home" (defArgs slaw_home) (defBody slaw_home) (defScope slaw_home) .none kV8 dc8 pm8 an8 cd8 ct8), sl8⟩)
    (c8 : PySem.W.codeIn K cd8 "_law_home" = true)
    (k8 : PySem.W.keepIn K (.ref f8) = true)
    (a9 : PySem.W.nsIn K mainGlobals "_law_otherwise" = some (some (.ref f9)))
    (l9 : K.lookup f9 = some ⟨oc9, od9, .func (PySem.W.fnOf "_law_otherwise" "_law_otherwise" (defArgs slaw_otherwise) (defBody slaw_otherwise) (defScope slaw_otherwise) .none kV9 dc9 pm9 an9 cd9 ct9), sl9⟩)
    (c9 : PySem.W.codeIn K cd9 "_law_otherwise" = true)
    (k9 : PySem.W.keepIn K (.ref f9) = true)
    (a10 : PySem.W.nsIn K mainGlobals "place_by" = some (some (.ref f10)))
    (l10 : K.lookup f10 = some ⟨oc10, od10, .func (PySem.W.fnOf "place_by" "place_by" (defArgs splace_by) (defBody splace_by) (defScope splace_by) .none kV10 dc10 pm10 an10 cd10 ct10), sl10⟩)
    (c10 : PySem.W.codeIn K cd10 "place_by" = true)
    (k10 : PySem.W.keepIn K (.ref f10) = true)
    (a11 : PySem.W.nsIn K mainGlobals "too_far" = some (some (.ref f11)))
    (l11 : K.lookup f11 = some ⟨oc11, od11, .func (PySem.W.fnOf "too_far" "too_far" (defArgs stoo_far) (defBody stoo_far) (defScope stoo_far) .none kV11 dc11 pm11 an11 cd11 ct11), sl11⟩)
    (c11 : PySem.W.codeIn K cd11 "too_far" = true)
    (k11 : PySem.W.keepIn K (.ref f11) = true)
    (a12 : PySem.W.nsIn K mainGlobals "clash" = some (some (.ref f12)))
    (l12 : K.lookup f12 = some ⟨oc12, od12, .func (PySem.W.fnOf "clash" "clash" (defArgs sclash) (defBody sclash) (defScope sclash) .none kV12 dc12 pm12 an12 cd12 ct12), sl12⟩)
    (c12 : PySem.W.codeIn K cd12 "clash" = true)
    (k12 : PySem.W.keepIn K (.ref f12) = true)
    (a13 : PySem.W.findIn K (.ref C) "__init__" = some (some (.ref f13)))
    (i13 : PySem.W.isFn K (.ref f13) = true)
    (l13 : K.lookup f13 = some ⟨oc13, od13, .func (PySem.W.fnOf "__init__" "Dark.__init__" (defArgs sDark_init) (defBody sDark_init) (defScope sDark_init) .none kV13 dc13 pm13 an13 cd13 ct13), sl13⟩)
    (c13 : PySem.W.codeIn K cd13 "Dark.__init__" = true)
    (k13 : PySem.W.keepIn K (.ref f13) = true)
    (a14 : PySem.W.findIn K (.ref C) "__eq__" = some (some (.ref f14)))
    (i14 : PySem.W.isFn K (.ref f14) = true)
    (l14 : K.lookup f14 = some ⟨oc14, od14, .func (PySem.W.fnOf "__eq__" "Dark.__eq__" (defArgs sDark_eq) (defBody sDark_eq) (defScope sDark_eq) .none kV14 dc14 pm14 an14 cd14 ct14), sl14⟩)
    (c14 : PySem.W.codeIn K cd14 "Dark.__eq__" = true)
    (k14 : PySem.W.keepIn K (.ref f14) = true)
    (a15 : PySem.W.findIn K (.ref C) "length" = some (some (.ref f15)))
    (i15 : PySem.W.isFn K (.ref f15) = true)
    (l15 : K.lookup f15 = some ⟨oc15, od15, .func (PySem.W.fnOf "length" "Dark.length" (defArgs sDark_length) (defBody sDark_length) (defScope sDark_length) .none kV15 dc15 pm15 an15 cd15 ct15), sl15⟩)
    (c15 : PySem.W.codeIn K cd15 "Dark.length" = true)
    (k15 : PySem.W.keepIn K (.ref f15) = true)
    (a16 : PySem.W.findIn K (.ref C) "hear" = some (some (.ref f16)))
    (i16 : PySem.W.isFn K (.ref f16) = true)
    (l16 : K.lookup f16 = some ⟨oc16, od16, .func (PySem.W.fnOf "hear" "Dark.hear" (defArgs sDark_hear) (defBody sDark_hear) (defScope sDark_hear) .none kV16 dc16 pm16 an16 cd16 ct16), sl16⟩)
    (c16 : PySem.W.codeIn K cd16 "Dark.hear" = true)
    (k16 : PySem.W.keepIn K (.ref f16) = true)
    (a17 : PySem.W.findIn K (.ref C) "looks" = some (some (.ref f17)))
    (i17 : PySem.W.isFn K (.ref f17) = true)
    (l17 : K.lookup f17 = some ⟨oc17, od17, .func (PySem.W.fnOf "looks" "Dark.looks" (defArgs sDark_looks) (defBody sDark_looks) (defScope sDark_looks) .none kV17 dc17 pm17 an17 cd17 ct17), sl17⟩)
    (c17 : PySem.W.codeIn K cd17 "Dark.looks" = true)
    (k17 : PySem.W.keepIn K (.ref f17) = true)
    (a18 : PySem.W.findIn K (.ref C) "led_back" = some (some (.ref f18)))
    (i18 : PySem.W.isFn K (.ref f18) = true)
    (l18 : K.lookup f18 = some ⟨oc18, od18, .func (PySem.W.fnOf "led_back" "Dark.led_back" (defArgs sDark_led_back) (defBody sDark_led_back) (defScope sDark_led_back) .none kV18 dc18 pm18 an18 cd18 ct18), sl18⟩)
    (c18 : PySem.W.codeIn K cd18 "Dark.led_back" = true)
    (k18 : PySem.W.keepIn K (.ref f18) = true)
    (a19 : PySem.W.findIn K (.ref C) "_check_word" = some (some (.ref f19)))
    (i19 : PySem.W.isFn K (.ref f19) = true)
    (l19 : K.lookup f19 = some ⟨oc19, od19, .func (PySem.W.fnOf "_check_word" "Dark._check_word" (defArgs sDarkcheck_word) (defBody sDarkcheck_word) (defScope sDarkcheck_word) .none kV19 dc19 pm19 an19 cd19 ct19), sl19⟩)
    (c19 : PySem.W.codeIn K cd19 "Dark._check_word" = true)
    (k19 : PySem.W.keepIn K (.ref f19) = true)
    (a20 : PySem.W.findIn K (.ref C) "_home" = some (some (.ref f20)))
    (i20 : PySem.W.isFn K (.ref f20) = true)
    (l20 : K.lookup f20 = some ⟨oc20, od20, .func (PySem.W.fnOf "_home" "Dark._home" (defArgs sDarkhome) (defBody sDarkhome) (defScope sDarkhome) .none kV20 dc20 pm20 an20 cd20 ct20), sl20⟩)
    (c20 : PySem.W.codeIn K cd20 "Dark._home" = true)
    (k20 : PySem.W.keepIn K (.ref f20) = true)
    (a21 : PySem.W.findIn K (.ref C) "_clashing" = some (some (.ref f21)))
    (i21 : PySem.W.isFn K (.ref f21) = true)
    (l21 : K.lookup f21 = some ⟨oc21, od21, .func (PySem.W.fnOf "_clashing" "Dark._clashing" (defArgs sDarkclashing) (defBody sDarkclashing) (defScope sDarkclashing) .none kV21 dc21 pm21 an21 cd21 ct21), sl21⟩)
    (c21 : PySem.W.codeIn K cd21 "Dark._clashing" = true)
    (k21 : PySem.W.keepIn K (.ref f21) = true)
    (a22 : PySem.W.findIn K (.ref C_Hand) "__init__" = some (some (.ref f22)))
    (i22 : PySem.W.isFn K (.ref f22) = true)
    (l22 : K.lookup f22 = some ⟨oc22, od22, .func (PySem.W.fnOf "__init__" "Hand.__init__" (defArgs sHand_init) (defBody sHand_init) (defScope sHand_init) .none kV22 dc22 pm22 an22 cd22 ct22), sl22⟩)
    (c22 : PySem.W.codeIn K cd22 "Hand.__init__" = true)
    (k22 : PySem.W.keepIn K (.ref f22) = true)
    (a23 : PySem.W.findIn K (.ref C_Hand) "__eq__" = some (some (.ref f23)))
    (i23 : PySem.W.isFn K (.ref f23) = true)
    (l23 : K.lookup f23 = some ⟨oc23, od23, .func (PySem.W.fnOf "__eq__" "Hand.__eq__" (defArgs sHand_eq) (defBody sHand_eq) (defScope sHand_eq) .none kV23 dc23 pm23 an23 cd23 ct23), sl23⟩)
    (c23 : PySem.W.codeIn K cd23 "Hand.__eq__" = true)
    (k23 : PySem.W.keepIn K (.ref f23) = true)
    (a24 : PySem.W.findIn K (.ref C_Hand) "__ne__" = some (some (.ref f24)))
    (i24 : PySem.W.isFn K (.ref f24) = true)
    (l24 : K.lookup f24 = some ⟨oc24, od24, .func (PySem.W.fnOf "__ne__" "Hand.__ne__" (defArgs sHand_ne) (defBody sHand_ne) (defScope sHand_ne) .none kV24 dc24 pm24 an24 cd24 ct24), sl24⟩)
    (c24 : PySem.W.codeIn K cd24 "Hand.__ne__" = true)
    (k24 : PySem.W.keepIn K (.ref f24) = true)
    (a25 : PySem.W.findIn K (.ref C_Hand) "length" = some (some (.ref f25)))
    (i25 : PySem.W.isFn K (.ref f25) = true)
    (l25 : K.lookup f25 = some ⟨oc25, od25, .func (PySem.W.fnOf "length" "Hand.length" (defArgs sHand_length) (defBody sHand_length) (defScope sHand_length) .none kV25 dc25 pm25 an25 cd25 ct25), sl25⟩)
    (c25 : PySem.W.codeIn K cd25 "Hand.length" = true)
    (k25 : PySem.W.keepIn K (.ref f25) = true)
    (a26 : PySem.W.findIn K (.ref C_Hand) "steps" = some (some (.ref f26)))
    (i26 : PySem.W.isFn K (.ref f26) = true)
    (l26 : K.lookup f26 = some ⟨oc26, od26, .func (PySem.W.fnOf "steps" "Hand.steps" (defArgs sHand_steps) (defBody sHand_steps) (defScope sHand_steps) .none kV26 dc26 pm26 an26 cd26 ct26), sl26⟩)
    (c26 : PySem.W.codeIn K cd26 "Hand.steps" = true)
    (k26 : PySem.W.keepIn K (.ref f26) = true)
    (a27 : PySem.W.nsIn K mainGlobals "law" = some (some (.ref f27)))
    (l27 : K.lookup f27 = some ⟨oc27, od27, .func (PySem.W.fnOf "law" "law" (defArgs slaw) (defBody slaw) (defScope slaw) .none kV27 dc27 pm27 an27 cd27 ct27), sl27⟩)
    (c27 : PySem.W.codeIn K cd27 "law" = true)
    (k27 : PySem.W.keepIn K (.ref f27) = true)
    (pg : PySem.W.plainGet K C Str.empty = true)
    (hd : PySem.W.hasDictIn K C = true)
    (po : PySem.W.plainOver K C = true)
    (sa : PySem.W.findIn K (.ref C) "__setattr__" = some (some (.builtin "object.__setattr__")))
    (mk : PySem.W.makesIn K C = true)
    (kc : PySem.W.keepIn K (.ref C) = true)
    (n_length : PySem.W.findIn K (.ref C) "_length" = some none)
    (n_looks : PySem.W.findIn K (.ref C) "_looks" = some none)
    (pg_Hand : PySem.W.plainGet K C_Hand Str.empty = true)
    (hd_Hand : PySem.W.hasDictIn K C_Hand = true)
    (po_Hand : PySem.W.plainOver K C_Hand = true)
    (sa_Hand : PySem.W.findIn K (.ref C_Hand) "__setattr__" = some (some (.builtin "object.__setattr__")))
    (mk_Hand : PySem.W.makesIn K C_Hand = true)
    (kc_Hand : PySem.W.keepIn K (.ref C_Hand) = true)
    (nHand__dark : PySem.W.findIn K (.ref C_Hand) "_dark" = some none)
    (nHand__back : PySem.W.findIn K (.ref C_Hand) "_back" = some none)
    (jha : PySem.W.findIn K (.ref C) "__class__" = some (some (.builtin "object.__class__")))
    (jhn : PySem.W.specialIn K (.builtin "object.__class__") "__get__" = some (some (.builtin "getset_descriptor.__get__")))
    (jtk : PySem.W.takesIn K (.builtin "object.__class__") = some true)
    (jm : PySem.W.mroIn K C (.type "object") = some true)
    (jic : PySem.W.isClsIn K C = true)
    (jty : PySem.W.typeIn K (.ref C) = some (.type "type"))
    (jsl : PySem.W.subIn K (.type "list") (.ref C) = some false)
    (jsi : PySem.W.subIn K (.type "int") (.ref C) = some false)
    (jnl : PySem.W.notFirst K C (.type "list") = true)
    (jni : PySem.W.notFirst K C (.type "int") = true)
    (jha_Hand : PySem.W.findIn K (.ref C_Hand) "__class__" = some (some (.builtin "object.__class__")))
    (jhn_Hand : PySem.W.specialIn K (.builtin "object.__class__") "__get__" = some (some (.builtin "getset_descriptor.__get__")))
    (jtk_Hand : PySem.W.takesIn K (.builtin "object.__class__") = some true)
    (jm_Hand : PySem.W.mroIn K C_Hand (.type "object") = some true)
    (jic_Hand : PySem.W.isClsIn K C_Hand = true)
    (jty_Hand : PySem.W.typeIn K (.ref C_Hand) = some (.type "type"))
    (js_Hand_NoneType : PySem.W.subIn K (.type "NoneType") (.ref C_Hand) = some false)
    (jn_Hand_NoneType : PySem.W.notFirst K C_Hand (.type "NoneType") = true)
    (js_Hand_int : PySem.W.subIn K (.type "int") (.ref C_Hand) = some false)
    (jn_Hand_int : PySem.W.notFirst K C_Hand (.type "int") = true)
    (js_Hand_str : PySem.W.subIn K (.type "str") (.ref C_Hand) = some false)
    (jn_Hand_str : PySem.W.notFirst K C_Hand (.type "str") = true)
    (js_Hand_list : PySem.W.subIn K (.type "list") (.ref C_Hand) = some false)
    (jn_Hand_list : PySem.W.notFirst K C_Hand (.type "list") = true)
    (js_Hand_tuple : PySem.W.subIn K (.type "tuple") (.ref C_Hand) = some false)
    (jn_Hand_tuple : PySem.W.notFirst K C_Hand (.type "tuple") = true)
    (js_Hand_dict : PySem.W.subIn K (.type "dict") (.ref C_Hand) = some false)
    (jn_Hand_dict : PySem.W.notFirst K C_Hand (.type "dict") = true)
    (b_len : PySem.W.nsIn K mainGlobals "len" = some none)
    (b_range : PySem.W.nsIn K mainGlobals "range" = some none)
    (b_sorted : PySem.W.nsIn K mainGlobals "sorted" = some none)
    (b_set : PySem.W.nsIn K mainGlobals "set" = some none)
    (b_abs : PySem.W.nsIn K mainGlobals "abs" = some none)
    (b_list : PySem.W.nsIn K mainGlobals "list" = some none)
    (b_int : PySem.W.nsIn K mainGlobals "int" = some none)
    (b_isinstance : PySem.W.nsIn K mainGlobals "isinstance" = some none)
    (b_tuple : PySem.W.nsIn K mainGlobals "tuple" = some none)
    (b_bool : PySem.W.nsIn K mainGlobals "bool" = some none)
    (b_all : PySem.W.nsIn K mainGlobals "all" = some none)
    (b_min : PySem.W.nsIn K mainGlobals "min" = some none)
    (gSLOW : PySem.W.nsIn K mainGlobals "SLOW" = some (some (.str "slow" tSLOW)))
    (gFAST : PySem.W.nsIn K mainGlobals "FAST" = some (some (.str "fast" tFAST)))
    (gW : PySem.W.nsIn K mainGlobals "WORDS" = some (some (.ref aW)))
    (lW : K.lookup aW = some ⟨.type "dict", none, .dict es nW, #[]⟩)
    (keys : PySem.W.KeysLit w.params es.toList)
    (low : (aW == sysModules) = false)
    (wS : PySem.W.nsIn K aW "slow" = some (some (.ref tS)))
    (wF : PySem.W.nsIn K aW "fast" = some (some (.ref tF)))
    (lS : K.lookup tS = some ⟨.type "tuple", o1, .seq #[.str "at" u1, .str "from" u2] n1, s1⟩)
    (lF : K.lookup tF = some ⟨.type "tuple", o2, .seq #[.str "at" u3, .str "upto" u4] n2, s2⟩)
    (gL : PySem.W.nsIn K mainGlobals "LOOK_WORDS" = some (some (.ref aL)))
    (lL : K.lookup aL = some ⟨.type "tuple", o3, .seq #[.str "at" u5, .str "from" u6, .str "upto" u7] n3, s3⟩) :
    ∃ fd : FuncData, (∀ (s : Shared) (v : Value), BindsTo s fd ⟨[v], []⟩ [("script", v)]) ∧ ∀ base : Heap, K.In base → base.Ns mainGlobals mg → FnOk l.prog w K mg base CX0 9 fa fd ["script"] (spLaw K) := by
  have e := hfa.symm.trans (PySem.W.mg_of X G a27)
  cases e
  have F0 := fun_mk (st := slaw_deck) l0 c0 k0
  have F1 := fun_mk (st := slaw_take) l1 c1 k1
  have F2 := fun_mk (st := slaw_below) l2 c2 k2
  have F3 := fun_mk (st := slaw_wide) l3 c3 k3
  have F4 := fun_mk (st := slaw_hidden) l4 c4 k4
  have F5 := fun_mk (st := slaw_steps_of) l5 c5 k5
  have F6 := fun_mk (st := slaw_afar) l6 c6 k6
  have F7 := fun_mk (st := slaw_same) l7 c7 k7
  have F8 := fun_mk (st := slaw_home) l8 c8 k8
  have F9 := fun_mk (st := slaw_otherwise) l9 c9 k9
  have F10 := fun_mk (st := splace_by) l10 c10 k10
  have F11 := fun_mk (st := stoo_far) l11 c11 k11
  have F12 := fun_mk (st := sclash) l12 c12 k12
  have F13 := fun_mk (st := sDark_init) l13 c13 k13
  have F14 := fun_mk (st := sDark_eq) l14 c14 k14
  have F15 := fun_mk (st := sDark_length) l15 c15 k15
  have F16 := fun_mk (st := sDark_hear) l16 c16 k16
  have F17 := fun_mk (st := sDark_looks) l17 c17 k17
  have F18 := fun_mk (st := sDark_led_back) l18 c18 k18
  have F19 := fun_mk (st := sDarkcheck_word) l19 c19 k19
  have F20 := fun_mk (st := sDarkhome) l20 c20 k20
  have F21 := fun_mk (st := sDarkclashing) l21 c21 k21
  have F22 := fun_mk (st := sHand_init) l22 c22 k22
  have F23 := fun_mk (st := sHand_eq) l23 c23 k23
  have F24 := fun_mk (st := sHand_ne) l24 c24 k24
  have F25 := fun_mk (st := sHand_length) l25 c25 k25
  have F26 := fun_mk (st := sHand_steps) l26 c26 k26
  have F27 := fun_mk (st := slaw) l27 c27 k27
  let Z : Ad := {
    a_law_deck := f0,
    d_law_deck := PySem.W.fnOf "_law_deck" "_law_deck" (defArgs slaw_deck) (defBody slaw_deck) (defScope slaw_deck) .none kV0 dc0 pm0 an0 cd0 ct0,
    a_law_take := f1,
    d_law_take := PySem.W.fnOf "_law_take" "_law_take" (defArgs slaw_take) (defBody slaw_take) (defScope slaw_take) .none kV1 dc1 pm1 an1 cd1 ct1,
    a_law_below := f2,
    d_law_below := PySem.W.fnOf "_law_below" "_law_below" (defArgs slaw_below) (defBody slaw_below) (defScope slaw_below) .none kV2 dc2 pm2 an2 cd2 ct2,
    a_law_wide := f3,
    d_law_wide := PySem.W.fnOf "_law_wide" "_law_wide" (defArgs slaw_wide) (defBody slaw_wide) (defScope slaw_wide) .none kV3 dc3 pm3 an3 cd3 ct3,
    a_law_hidden := f4,
    d_law_hidden := PySem.W.fnOf "_law_hidden" "_law_hidden" (defArgs slaw_hidden) (defBody slaw_hidden) (defScope slaw_hidden) .none kV4 dc4 pm4 an4 cd4 ct4,
    a_law_steps_of := f5,
    d_law_steps_of := PySem.W.fnOf "_law_steps_of" "_law_steps_of" (defArgs slaw_steps_of) (defBody slaw_steps_of) (defScope slaw_steps_of) .none kV5 dc5 pm5 an5 cd5 ct5,
    a_law_afar := f6,
    d_law_afar := PySem.W.fnOf "_law_afar" "_law_afar" (defArgs slaw_afar) (defBody slaw_afar) (defScope slaw_afar) .none kV6 dc6 pm6 an6 cd6 ct6,
    a_law_same := f7,
    d_law_same := PySem.W.fnOf "_law_same" "_law_same" (defArgs slaw_same) (defBody slaw_same) (defScope slaw_same) .none kV7 dc7 pm7 an7 cd7 ct7,
    a_law_home := f8,
    d_law_home := PySem.W.fnOf "_law_home" "_law_home" (defArgs slaw_home) (defBody slaw_home) (defScope slaw_home) .none kV8 dc8 pm8 an8 cd8 ct8,
    a_law_otherwise := f9,
    d_law_otherwise := PySem.W.fnOf "_law_otherwise" "_law_otherwise" (defArgs slaw_otherwise) (defBody slaw_otherwise) (defScope slaw_otherwise) .none kV9 dc9 pm9 an9 cd9 ct9,
    a_place_by := f10,
    d_place_by := PySem.W.fnOf "place_by" "place_by" (defArgs splace_by) (defBody splace_by) (defScope splace_by) .none kV10 dc10 pm10 an10 cd10 ct10,
    a_too_far := f11,
    d_too_far := PySem.W.fnOf "too_far" "too_far" (defArgs stoo_far) (defBody stoo_far) (defScope stoo_far) .none kV11 dc11 pm11 an11 cd11 ct11,
    a_clash := f12,
    d_clash := PySem.W.fnOf "clash" "clash" (defArgs sclash) (defBody sclash) (defScope sclash) .none kV12 dc12 pm12 an12 cd12 ct12,
    a_Dark_init := f13,
    d_Dark_init := PySem.W.fnOf "__init__" "Dark.__init__" (defArgs sDark_init) (defBody sDark_init) (defScope sDark_init) .none kV13 dc13 pm13 an13 cd13 ct13,
    a_Dark_eq := f14,
    d_Dark_eq := PySem.W.fnOf "__eq__" "Dark.__eq__" (defArgs sDark_eq) (defBody sDark_eq) (defScope sDark_eq) .none kV14 dc14 pm14 an14 cd14 ct14,
    a_Dark_length := f15,
    d_Dark_length := PySem.W.fnOf "length" "Dark.length" (defArgs sDark_length) (defBody sDark_length) (defScope sDark_length) .none kV15 dc15 pm15 an15 cd15 ct15,
    a_Dark_hear := f16,
    d_Dark_hear := PySem.W.fnOf "hear" "Dark.hear" (defArgs sDark_hear) (defBody sDark_hear) (defScope sDark_hear) .none kV16 dc16 pm16 an16 cd16 ct16,
    a_Dark_looks := f17,
    d_Dark_looks := PySem.W.fnOf "looks" "Dark.looks" (defArgs sDark_looks) (defBody sDark_looks) (defScope sDark_looks) .none kV17 dc17 pm17 an17 cd17 ct17,
    a_Dark_led_back := f18,
    d_Dark_led_back := PySem.W.fnOf "led_back" "Dark.led_back" (defArgs sDark_led_back) (defBody sDark_led_back) (defScope sDark_led_back) .none kV18 dc18 pm18 an18 cd18 ct18,
    a_Darkcheck_word := f19,
    d_Darkcheck_word := PySem.W.fnOf "_check_word" "Dark._check_word" (defArgs sDarkcheck_word) (defBody sDarkcheck_word) (defScope sDarkcheck_word) .none kV19 dc19 pm19 an19 cd19 ct19,
    a_Darkhome := f20,
    d_Darkhome := PySem.W.fnOf "_home" "Dark._home" (defArgs sDarkhome) (defBody sDarkhome) (defScope sDarkhome) .none kV20 dc20 pm20 an20 cd20 ct20,
    a_Darkclashing := f21,
    d_Darkclashing := PySem.W.fnOf "_clashing" "Dark._clashing" (defArgs sDarkclashing) (defBody sDarkclashing) (defScope sDarkclashing) .none kV21 dc21 pm21 an21 cd21 ct21,
    a_Hand_init := f22,
    d_Hand_init := PySem.W.fnOf "__init__" "Hand.__init__" (defArgs sHand_init) (defBody sHand_init) (defScope sHand_init) .none kV22 dc22 pm22 an22 cd22 ct22,
    a_Hand_eq := f23,
    d_Hand_eq := PySem.W.fnOf "__eq__" "Hand.__eq__" (defArgs sHand_eq) (defBody sHand_eq) (defScope sHand_eq) .none kV23 dc23 pm23 an23 cd23 ct23,
    a_Hand_ne := f24,
    d_Hand_ne := PySem.W.fnOf "__ne__" "Hand.__ne__" (defArgs sHand_ne) (defBody sHand_ne) (defScope sHand_ne) .none kV24 dc24 pm24 an24 cd24 ct24,
    a_Hand_length := f25,
    d_Hand_length := PySem.W.fnOf "length" "Hand.length" (defArgs sHand_length) (defBody sHand_length) (defScope sHand_length) .none kV25 dc25 pm25 an25 cd25 ct25,
    a_Hand_steps := f26,
    d_Hand_steps := PySem.W.fnOf "steps" "Hand.steps" (defArgs sHand_steps) (defBody sHand_steps) (defScope sHand_steps) .none kV26 dc26 pm26 an26 cd26 ct26,
    a_law := fa,
    d_law := PySem.W.fnOf "law" "law" (defArgs slaw) (defBody slaw) (defScope slaw) .none kV27 dc27 pm27 an27 cd27 ct27,
    C := C,
    C_Hand := C_Hand,
    v_SLOW := .str "slow" tSLOW,
    v_FAST := .str "fast" tFAST,
    a_WORDS := aW,
    a_LW := aL,
    t_slow := tS,
    t_fast := tF }
  have T : Tx K w mg Z := {
    F_law_deck := F0,
    bb_law_deck := F0.binds (ps := P_law_deck) fun _ _ _ _ _ _ us hl => match us, hl with | [_], _ => rfl,
    g_law_deck := PySem.W.mg_of X G a0,
    F_law_take := F1,
    bb_law_take := F1.binds (ps := P_law_take) fun _ _ _ _ _ _ us hl => match us, hl with | [_, _], _ => rfl,
    g_law_take := PySem.W.mg_of X G a1,
    F_law_below := F2,
    bb_law_below := F2.binds (ps := P_law_below) fun _ _ _ _ _ _ us hl => match us, hl with | [_, _], _ => rfl,
    g_law_below := PySem.W.mg_of X G a2,
    F_law_wide := F3,
    bb_law_wide := F3.binds (ps := P_law_wide) fun _ _ _ _ _ _ us hl => match us, hl with | [_], _ => rfl,
    g_law_wide := PySem.W.mg_of X G a3,
    F_law_hidden := F4,
    bb_law_hidden := F4.binds (ps := P_law_hidden) fun _ _ _ _ _ _ us hl => match us, hl with | [_, _, _], _ => rfl,
    g_law_hidden := PySem.W.mg_of X G a4,
    F_law_steps_of := F5,
    bb_law_steps_of := F5.binds (ps := P_law_steps_of) fun _ _ _ _ _ _ us hl => match us, hl with | [_, _], _ => rfl,
    g_law_steps_of := PySem.W.mg_of X G a5,
    F_law_afar := F6,
    bb_law_afar := F6.binds (ps := P_law_afar) fun _ _ _ _ _ _ us hl => match us, hl with | [_, _, _], _ => rfl,
    g_law_afar := PySem.W.mg_of X G a6,
    F_law_same := F7,
    bb_law_same := F7.binds (ps := P_law_same) fun _ _ _ _ _ _ us hl => match us, hl with | [_, _], _ => rfl,
    g_law_same := PySem.W.mg_of X G a7,
    F_law_home := F8,
    bb_law_home := F8.binds (ps := P_law_home) fun _ _ _ _ _ _ us hl => match us, hl with | [_, _], _ => rfl,
    g_law_home := PySem.W.mg_of X G a8,
    F_law_otherwise := F9,
    bb_law_otherwise := F9.binds (ps := P_law_otherwise) fun _ _ _ _ _ _ us hl => match us, hl with | [_, _, _], _ => rfl,
    g_law_otherwise := PySem.W.mg_of X G a9,
    F_place_by := F10,
    bb_place_by := F10.binds (ps := P_place_by) fun _ _ _ _ _ _ us hl => match us, hl with | [_, _, _, _], _ => rfl,
    g_place_by := PySem.W.mg_of X G a10,
    F_too_far := F11,
    bb_too_far := F11.binds (ps := P_too_far) fun _ _ _ _ _ _ us hl => match us, hl with | [_, _, _], _ => rfl,
    g_too_far := PySem.W.mg_of X G a11,
    F_clash := F12,
    bb_clash := F12.binds (ps := P_clash) fun _ _ _ _ _ _ us hl => match us, hl with | [_, _, _], _ => rfl,
    g_clash := PySem.W.mg_of X G a12,
    F_Dark_init := F13,
    bb_Dark_init := F13.binds (ps := P_Dark_init) fun _ _ _ _ _ _ us hl => match us, hl with | [_, _], _ => rfl,
    F_Dark_eq := F14,
    bb_Dark_eq := F14.binds (ps := P_Dark_eq) fun _ _ _ _ _ _ us hl => match us, hl with | [_, _], _ => rfl,
    m_Dark_eq := ⟨a14, i14, k14⟩,
    F_Dark_length := F15,
    bb_Dark_length := F15.binds (ps := P_Dark_length) fun _ _ _ _ _ _ us hl => match us, hl with | [_], _ => rfl,
    m_Dark_length := ⟨a15, i15, k15⟩,
    F_Dark_hear := F16,
    bb_Dark_hear := F16.binds (ps := P_Dark_hear) fun _ _ _ _ _ _ us hl => match us, hl with | [_, _, _, _], _ => rfl,
    m_Dark_hear := ⟨a16, i16, k16⟩,
    F_Dark_looks := F17,
    bb_Dark_looks := F17.binds (ps := P_Dark_looks) fun _ _ _ _ _ _ us hl => match us, hl with | [_], _ => rfl,
    m_Dark_looks := ⟨a17, i17, k17⟩,
    F_Dark_led_back := F18,
    bb_Dark_led_back := F18.binds (ps := P_Dark_led_back) fun _ _ _ _ _ _ us hl => match us, hl with | [_], _ => rfl,
    m_Dark_led_back := ⟨a18, i18, k18⟩,
    F_Darkcheck_word := F19,
    bb_Darkcheck_word := F19.binds (ps := P_Darkcheck_word) fun _ _ _ _ _ _ us hl => match us, hl with | [_, _], _ => rfl,
    m_Darkcheck_word := ⟨a19, i19, k19⟩,
    F_Darkhome := F20,
    bb_Darkhome := F20.binds (ps := P_Darkhome) fun _ _ _ _ _ _ us hl => match us, hl with | [_, _, _, _], _ => rfl,
    m_Darkhome := ⟨a20, i20, k20⟩,
    F_Darkclashing := F21,
    bb_Darkclashing := F21.binds (ps := P_Darkclashing) fun _ _ _ _ _ _ us hl => match us, hl with | [_, _], _ => rfl,
    m_Darkclashing := ⟨a21, i21, k21⟩,
    F_Hand_init := F22,
    bb_Hand_init := F22.binds (ps := P_Hand_init) fun _ _ _ _ _ _ us hl => match us, hl with | [_, _, _], _ => rfl,
    kn_Hand_init_steps_length := KW.kbn0 [1, 0] fun us ws h1 h2 => match us, ws, h1, h2 with | [_], [_, _], _, _ => rfl,
    F_Hand_eq := F23,
    bb_Hand_eq := F23.binds (ps := P_Hand_eq) fun _ _ _ _ _ _ us hl => match us, hl with | [_, _], _ => rfl,
    m_Hand_eq := ⟨a23, i23, k23⟩,
    F_Hand_ne := F24,
    bb_Hand_ne := F24.binds (ps := P_Hand_ne) fun _ _ _ _ _ _ us hl => match us, hl with | [_, _], _ => rfl,
    m_Hand_ne := ⟨a24, i24, k24⟩,
    F_Hand_length := F25,
    bb_Hand_length := F25.binds (ps := P_Hand_length) fun _ _ _ _ _ _ us hl => match us, hl with | [_], _ => rfl,
    m_Hand_length := ⟨a25, i25, k25⟩,
    F_Hand_steps := F26,
    bb_Hand_steps := F26.binds (ps := P_Hand_steps) fun _ _ _ _ _ _ us hl => match us, hl with | [_], _ => rfl,
    m_Hand_steps := ⟨a26, i26, k26⟩,
    F_law := F27,
    bb_law := F27.binds (ps := P_law) fun _ _ _ _ _ _ us hl => match us, hl with | [_], _ => rfl,
    g_law := PySem.W.mg_of X G a27,
    cl := ⟨pg, hd, po, sa⟩,
    g_Dark := PySem.W.mg_of X G aC,
    mk_Dark := ⟨mk, a13, i13, kc⟩,
    n_length := n_length,
    n_looks := n_looks,
    cl_Hand := ⟨pg_Hand, hd_Hand, po_Hand, sa_Hand⟩,
    g_Hand := PySem.W.mg_of X G aC_Hand,
    mk_Hand := ⟨mk_Hand, a22, i22, kc_Hand⟩,
    nHand__dark := nHand__dark,
    nHand__back := nHand__back,
    isi := ⟨jha, jhn, jtk, jm⟩,
    no_list := kit_no rfl jic jty jsl,
    no_int := kit_no rfl jic jty jsi,
    nf_list := jnl,
    nf_int := jni,
    isi_Hand := ⟨jha_Hand, jhn_Hand, jtk_Hand, jm_Hand⟩,
    no_Hand_NoneType := kit_no rfl jic_Hand jty_Hand js_Hand_NoneType,
    nf_Hand_NoneType := jn_Hand_NoneType,
    no_Hand_int := kit_no rfl jic_Hand jty_Hand js_Hand_int,
    nf_Hand_int := jn_Hand_int,
    no_Hand_str := kit_no rfl jic_Hand jty_Hand js_Hand_str,
    nf_Hand_str := jn_Hand_str,
    no_Hand_list := kit_no rfl jic_Hand jty_Hand js_Hand_list,
    nf_Hand_list := jn_Hand_list,
    no_Hand_tuple := kit_no rfl jic_Hand jty_Hand js_Hand_tuple,
    nf_Hand_tuple := jn_Hand_tuple,
    no_Hand_dict := kit_no rfl jic_Hand jty_Hand js_Hand_dict,
    nf_Hand_dict := jn_Hand_dict,
    b_len := PySem.W.mg_none_of X G b_len,
    b_range := PySem.W.mg_none_of X G b_range,
    b_sorted := PySem.W.mg_none_of X G b_sorted,
    b_set := PySem.W.mg_none_of X G b_set,
    b_abs := PySem.W.mg_none_of X G b_abs,
    b_list := PySem.W.mg_none_of X G b_list,
    b_int := PySem.W.mg_none_of X G b_int,
    b_isinstance := PySem.W.mg_none_of X G b_isinstance,
    b_tuple := PySem.W.mg_none_of X G b_tuple,
    b_bool := PySem.W.mg_none_of X G b_bool,
    b_all := PySem.W.mg_none_of X G b_all,
    b_min := PySem.W.mg_none_of X G b_min,
    g_SLOW := PySem.W.mg_of X G gSLOW,
    r_SLOW := ⟨tSLOW, rfl⟩,
    g_FAST := PySem.W.mg_of X G gFAST,
    r_FAST := ⟨tFAST, rfl⟩,
    g_WORDS := PySem.W.mg_of X G gW,
    kd_WORDS := ⟨es, nW, lW, keys, low⟩,
    w_slow := wS,
    w_fast := wF,
    q_slow := fun _ => sqt2 lS,
    q_fast := fun _ => sqt2 lF,
    g_LOOK_WORDS := PySem.W.mg_of X G gL,
    q_LW := fun _ => sqt3 lL }
  exact ⟨PySem.W.fnOf "law" "law" (defArgs slaw) (defBody slaw) (defScope slaw) .none kV27 dc27 pm27 an27 cd27 ct27, fun s v => .of_eq rfl, fun base _ _ => ok_law T⟩
theorem walk {l : PySem.W.OpenLaw} {q : Program} {loose : List Str} {XP : (Str → Option Value) → Heap → Prop} {YP : World → Heap → Prop} {d : DefRec} {K : Params → PySem.W.Frag} (hn : l.most = some 63) (hdf : d.params.defaults = [])
    (hY : ∀ (w : World) (h : Heap), YP w h → (K w.params).In h)
    (F : ∀ (w : World) (mg : Str → Option Value) (fa : Addr) (h : Heap), (K w.params).In h → h.Ns mainGlobals mg → mg d.name = some (.ref fa) →
      ∃ fd : FuncData, (∀ (s : Shared) (u : Value), BindsTo s fd ⟨[u], []⟩ [("script", u)]) ∧ ∀ base : Heap, (K w.params).In base → base.Ns mainGlobals mg → FnOk l.prog w (K w.params) mg base CX0 9 fa fd ["script"] (spLaw (K w.params))) :
    PySem.W.WalkO q loose XP YP l.row.toRowW d [] (fun f vs => PySem.call f vs) :=
  L2.walk_of (n := 63) (k := 9) (x := "script") (CX := fun _ => CX0) (sp := fun w => spLaw (K w.params)) hn (by decide) hdf ⟨rfl, by decide, by decide⟩ hY F (fun _ _ a ns hl _ hS => ⟨a, ns, rfl, hS, hl, fun _ => rfl⟩) fun _ _ _ _ _ z => z
end KA
open PySem PySem.W PyProof.Rows
set_option maxRecDepth 100000 in
set_option maxHeartbeats 0 in
theorem PySem.Challenge.cw_darkpace_k26_hands_told_holds : PySem.Challenge.rw_darkpace_k26_hands_told.Holds := by
  w_on; o_law; k_head; (case hw => w_witness2)
  k_fill
  refine KA.walk (l := PySem.Challenge.rw_darkpace_k26_hands_told) rfl rfl (fun w h Y => PySem.W.kIn_of Y) ?F
  case F =>
    intro w mg fa h KX G hmg
    refine' KA.all_mk KX G hmg ?aC ?aC_Hand ?a0 ?l0 ?c0 ?k0 ?a1 ?l1 ?c1 ?k1 ?a2 ?l2 ?c2 ?k2 ?a3 ?l3 ?c3 ?k3 ?a4 ?l4 ?c4 ?k4 ?a5 ?l5 ?c5 ?k5 ?a6 ?l6 ?c6 ?k6 ?a7 ?l7 ?c7 ?k7 ?a8 ?l8 ?c8 ?k8 ?a9 ?l9 ?c9 ?k9 ?a10 ?l10 ?c10 ?k10 ?a11 ?l11 ?c11 ?k11 ?a12 ?l12 ?c12 ?k12 ?a13 ?i13 ?l13 ?c13 ?k13 ?a14 ?i14 ?l14 ?c14 ?k14 ?a15 ?i15 ?l15 ?c15 ?k15 ?a16 ?i16 ?l16 ?c16 ?k16 ?a17 ?i17 ?l17 ?c17 ?k17 ?a18 ?i18 ?l18 ?c18 ?k18 ?a19 ?i19 ?l19 ?c19 ?k19 ?a20 ?i20 ?l20 ?c20 ?k20 ?a21 ?i21 ?l21 ?c21 ?k21 ?a22 ?i22 ?l22 ?c22 ?k22 ?a23 ?i23 ?l23 ?c23 ?k23 ?a24 ?i24 ?l24 ?c24 ?k24 ?a25 ?i25 ?l25 ?c25 ?k25 ?a26 ?i26 ?l26 ?c26 ?k26 ?a27 ?l27 ?c27 ?k27 ?pg ?hd ?po ?sa ?mk ?kc ?n_length ?n_looks ?pg_Hand ?hd_Hand ?po_Hand ?sa_Hand ?mk_Hand ?kc_Hand ?nHand__dark ?nHand__back ?jha ?jhn ?jtk ?jm ?jic ?jty ?jsl ?jsi ?jnl ?jni ?jha_Hand ?jhn_Hand ?jtk_Hand ?jm_Hand ?jic_Hand ?jty_Hand ?js_Hand_NoneType ?jn_Hand_NoneType ?js_Hand_int ?jn_Hand_int ?js_Hand_str ?jn_Hand_str ?js_Hand_list ?jn_Hand_list ?js_Hand_tuple ?jn_Hand_tuple ?js_Hand_dict ?jn_Hand_dict ?b_len ?b_range ?b_sorted ?b_set ?b_abs ?b_list ?b_int ?b_isinstance ?b_tuple ?b_bool ?b_all ?b_min ?gSLOW ?gFAST ?gW ?lW ?keys ?low ?wS ?wF ?lS ?lF ?gL ?lL
    (case aC => k_is)
    (case aC_Hand => k_is)
    (case a0 => k_is)
    (case l0 => k_is)
    (case c0 => k_is)
    (case k0 => k_is)
    (case a1 => k_is)
    (case l1 => k_is)
    (case c1 => k_is)
    (case k1 => k_is)
    (case a2 => k_is)
    (case l2 => k_is)
    (case c2 => k_is)
    (case k2 => k_is)
    (case a3 => k_is)
    (case l3 => k_is)
    (case c3 => k_is)
    (case k3 => k_is)
    (case a4 => k_is)
    (case l4 => k_is)
    (case c4 => k_is)
    (case k4 => k_is)
    (case a5 => k_is)
    (case l5 => k_is)
    (case c5 => k_is)
    (case k5 => k_is)
    (case a6 => k_is)
    (case l6 => k_is)
    (case c6 => k_is)
    (case k6 => k_is)
    (case a7 => k_is)
    (case l7 => k_is)
    (case c7 => k_is)
    (case k7 => k_is)
    (case a8 => k_is)
    (case l8 => k_is)
    (case c8 => k_is)
    (case k8 => k_is)
    (case a9 => k_is)
    (case l9 => k_is)
    (case c9 => k_is)
    (case k9 => k_is)
    (case a10 => k_is)
    (case l10 => k_is)
    (case c10 => k_is)
    (case k10 => k_is)
    (case a11 => k_is)
    (case l11 => k_is)
    (case c11 => k_is)
    (case k11 => k_is)
    (case a12 => k_is)
    (case l12 => k_is)
    (case c12 => k_is)
    (case k12 => k_is)
    (case a13 => k_is)
    (case i13 => k_is)
    (case l13 => k_is)
    (case c13 => k_is)
    (case k13 => k_is)
    (case a14 => k_is)
    (case i14 => k_is)
    (case l14 => k_is)
    (case c14 => k_is)
    (case k14 => k_is)
    (case a15 => k_is)
    (case i15 => k_is)
    (case l15 => k_is)
    (case c15 => k_is)
    (case k15 => k_is)
    (case a16 => k_is)
    (case i16 => k_is)
    (case l16 => k_is)
    (case c16 => k_is)
    (case k16 => k_is)
    (case a17 => k_is)
    (case i17 => k_is)
    (case l17 => k_is)
    (case c17 => k_is)
    (case k17 => k_is)
    (case a18 => k_is)
    (case i18 => k_is)
    (case l18 => k_is)
    (case c18 => k_is)
    (case k18 => k_is)
    (case a19 => k_is)
    (case i19 => k_is)
    (case l19 => k_is)
    (case c19 => k_is)
    (case k19 => k_is)
    (case a20 => k_is)
    (case i20 => k_is)
    (case l20 => k_is)
    (case c20 => k_is)
    (case k20 => k_is)
    (case a21 => k_is)
    (case i21 => k_is)
    (case l21 => k_is)
    (case c21 => k_is)
    (case k21 => k_is)
    (case a22 => k_is)
    (case i22 => k_is)
    (case l22 => k_is)
    (case c22 => k_is)
    (case k22 => k_is)
    (case a23 => k_is)
    (case i23 => k_is)
    (case l23 => k_is)
    (case c23 => k_is)
    (case k23 => k_is)
    (case a24 => k_is)
    (case i24 => k_is)
    (case l24 => k_is)
    (case c24 => k_is)
    (case k24 => k_is)
    (case a25 => k_is)
    (case i25 => k_is)
    (case l25 => k_is)
    (case c25 => k_is)
    (case k25 => k_is)
    (case a26 => k_is)
    (case i26 => k_is)
    (case l26 => k_is)
    (case c26 => k_is)
    (case k26 => k_is)
    (case a27 => k_is)
    (case l27 => k_is)
    (case c27 => k_is)
    (case k27 => k_is)
    (case pg => k_is)
    (case hd => k_is)
    (case po => k_is)
    (case sa => k_is)
    (case mk => k_is)
    (case kc => k_is)
    (case n_length => k_is)
    (case n_looks => k_is)
    (case pg_Hand => k_is)
    (case hd_Hand => k_is)
    (case po_Hand => k_is)
    (case sa_Hand => k_is)
    (case mk_Hand => k_is)
    (case kc_Hand => k_is)
    (case nHand__dark => k_is)
    (case nHand__back => k_is)
    (case jha => k_is)
    (case jhn => k_is)
    (case jtk => k_is)
    (case jm => k_is)
    (case jic => k_is)
    (case jty => k_is)
    (case jsl => k_is)
    (case jsi => k_is)
    (case jnl => k_is)
    (case jni => k_is)
    (case jha_Hand => k_is)
    (case jhn_Hand => k_is)
    (case jtk_Hand => k_is)
    (case jm_Hand => k_is)
    (case jic_Hand => k_is)
    (case jty_Hand => k_is)
    (case js_Hand_NoneType => k_is)
    (case jn_Hand_NoneType => k_is)
    (case js_Hand_int => k_is)
    (case jn_Hand_int => k_is)
    (case js_Hand_str => k_is)
    (case jn_Hand_str => k_is)
    (case js_Hand_list => k_is)
    (case jn_Hand_list => k_is)
    (case js_Hand_tuple => k_is)
    (case jn_Hand_tuple => k_is)
    (case js_Hand_dict => k_is)
    (case jn_Hand_dict => k_is)
    (case b_len => k_is)
    (case b_range => k_is)
    (case b_sorted => k_is)
    (case b_set => k_is)
    (case b_abs => k_is)
    (case b_list => k_is)
    (case b_int => k_is)
    (case b_isinstance => k_is)
    (case b_tuple => k_is)
    (case b_bool => k_is)
    (case b_all => k_is)
    (case b_min => k_is)
    (case gSLOW => k_is)
    (case gFAST => k_is)
    (case gW => k_is)
    (case lW => k_is)
    (case keys => k_keys)
    (case low => decide +kernel)
    (case wS => k_is)
    (case wF => k_is)
    (case lS => k_is)
    (case lF => k_is)
    (case gL => k_is)
    (case lL => k_is)
