import PyProof.Rows.All
import Wide.All
import OpenK.AllK
import Wide.FinOn
import HandS.ForMost
import HandS.Wide
import HandS.Deep
import HandS.IsInst
import HandS.Strs
import HandS.Codes
import HandS.Gcd
import KE.SortData
import KE.DataMinMax
import HandS.SetFor
import HandS.TupSets
import HandS.SetKeys
import HandS.OwnEq
import HandS.Defaults
import HandS.MakeKwOnly
import PyProof.NeKinds
import HandS.DeepEq
import HandS.WideBits
import HandS.NoneIn
import PySem.Challenge.RW_darkpace_k38_uses_by_all_hands
set_option Elab.async false
set_option linter.all false
set_option maxRecDepth 100000
set_option exponentiation.threshold 3000
set_option maxHeartbeats 16000000
/-! Rules of our own: data under a growing heap, sorted and max and min of data, set of ints, a written dict's item, a method called with a keyword. -/
namespace DP
open PySem PySem.Spec PyProof.Rows L2

theorem rooms {A : Around} {k : Nat} (hr : Room k A) : A.units + 65 < cLine := by have := hr.un; omega

theorem Same.rd {H H' : Hp} {a : Addr} {u : HO} (S : Same H H') (h : Rd H a u) : Rd H' a u := by
  rcases h with h | ⟨o, h⟩
  · exact Or.inl (S _ _ h)
  · exact Or.inr ⟨o, S _ _ h⟩
theorem Same.sqT {K : PySem.W.Frag} {H H' : Hp} {a : Addr} {xs : List V} (S : Same H H') (h : SqT K H a xs) : SqT K H' a xs := by
  rcases h with h | h
  · exact Or.inl (Same.rd S h)
  · exact Or.inr h
theorem Same.sqL {K : PySem.W.Frag} {H H' : Hp} {a : Addr} {xs : List V} (S : Same H H') (h : SqL K H a xs) : SqL K H' a xs := by
  rcases h with h | h
  · exact Or.inl (Same.rd S h)
  · exact Or.inr h
mutual
theorem dp_mono {K : PySem.W.Frag} {H H' : Hp} (S : Same H H') : ∀ (d : PyData) (v : V), Dp K H v d → Dp K H' v d
  | .none, _, h => by cases h; exact .non
  | .bool b, _, h => by cases h; exact .bl _
  | .int b, _, h => by cases h; exact .int _
  | .str b, _, h => by cases h; exact .str _
  | .list ds, _, h => by
    cases h with
    | lst s a => exact .lst (Same.sqL S s) (dpAll_mono S ds _ a)
  | .tuple ds, _, h => by
    cases h with
    | tup s a => exact .tup (Same.sqT S s) (dpAll_mono S ds _ a)
  | .dict _, _, h => by cases h
theorem dpAll_mono {K : PySem.W.Frag} {H H' : Hp} (S : Same H H') : ∀ (ds : List PyData) (vs : List V), DpAll K H vs ds → DpAll K H' vs ds
  | [], _, h => by cases h; exact .nil
  | d :: ds, _, h => by
    cases h with
    | cons a b => exact .cons (dp_mono S d _ a) (dpAll_mono S ds _ b)
end
section
variable {K : PySem.W.Frag} {H : Hp}
theorem dpAll_len : ∀ {vs : List V} {ds : List PyData}, DpAll K H vs ds → vs.length = ds.length
  | _, _, .nil => rfl
  | _, _, .cons _ t => by rw [List.length_cons, List.length_cons, dpAll_len t]
theorem dpAll_get : ∀ {vs : List V} {ds : List PyData} {i : Nat} {v : V}, DpAll K H vs ds → vs[i]? = some v → ∃ d, ds[i]? = some d ∧ Dp K H v d
  | _, _, _, _, .nil, e => by simp at e
  | _, _, 0, _, .cons r _, e => by simp at e; subst e; exact ⟨_, rfl, r⟩
  | _, _, i + 1, v, .cons _ t, e => by
    obtain ⟨d, h1, h2⟩ := dpAll_get (i := i) (v := v) t (by simpa using e)
    exact ⟨d, by simpa using h1, h2⟩
theorem dpAll_get' : ∀ {vs : List V} {ds : List PyData} {i : Nat} {d : PyData}, DpAll K H vs ds → ds[i]? = some d → ∃ v, vs[i]? = some v ∧ Dp K H v d
  | _, _, _, _, .nil, e => by simp at e
  | _, _, 0, _, .cons r _, e => by simp at e; subst e; exact ⟨_, rfl, r⟩
  | _, _, i + 1, v, .cons _ t, e => by
    obtain ⟨d, h1, h2⟩ := dpAll_get' (i := i) (d := v) t (by simpa using e)
    exact ⟨d, by simpa using h1, h2⟩
theorem dpAll_snoc : ∀ {vs : List V} {ds : List PyData} {v : V} {d : PyData}, DpAll K H vs ds → Dp K H v d → DpAll K H (vs ++ [v]) (ds ++ [d])
  | _, _, _, _, .nil, r => .cons r .nil
  | _, _, _, _, .cons q t, r => .cons q (dpAll_snoc t r)
theorem dpAll_app : ∀ {vs ws : List V} {ds es : List PyData}, DpAll K H vs ds → DpAll K H ws es → DpAll K H (vs ++ ws) (ds ++ es)
  | _, _, _, _, .nil, r => r
  | _, _, _, _, .cons q t, r => .cons q (dpAll_app t r)
theorem dpAll_ints : ∀ ns : List Int, DpAll K H (ns.map V.int) (ns.map PyData.int)
  | [] => .nil
  | n :: ns => .cons (.int n) (dpAll_ints ns)
theorem dpAll_int : ∀ {vs : List V} {ns : List Int}, DpAll K H vs (ns.map PyData.int) → vs = ns.map V.int
  | _, [], h => by cases h; rfl
  | _, n :: ns, h => by
    have h' : DpAll K H _ (PyData.int n :: ns.map PyData.int) := h
    cases h' with
    | cons a b =>
      cases a
      rw [dpAll_int b]; rfl
theorem same_upd {H : Hp} {p : Addr} {o : HO} (h : H p = none) : Same H (upd H p o) := fun b u e => by rw [upd_ne (ne_of_none e h)]; exact e
end

section
variable {X : Cx}
/-- sorted(xs): xs a list of alike data, of any length; P is what is known of each -/
def rSortD (K : PySem.W.Frag) {β : Type} (enc : β → PyData) : List V → Hp → VK → Prop := fun vs H Q => ∃ (a : Addr) (xs : List V) (bs : List β), vs = [V.ref a] ∧ SqL K H a xs ∧ DpAll K H xs (bs.map enc) ∧
  PySem.W.AllAlike (bs.map enc) ∧ PySem.W.Sortable (bs.map enc) ∧ (∀ b ∈ bs, (enc b).depth ≤ 60) ∧
  ∀ (p : Addr) (ys : List V) H', H p = none → Same H H' → H' p = some (.lst ys) → DpAll K H' ys ((bs.mergeSort (PySem.W.dataLe false enc)).map enc) → Q (.ref p) H'
theorem each_vals {K : PySem.W.Frag} {H : Hp} {β : Type} {enc : β → PyData} : ∀ {xs : List V} {us : List Value} {bs : List β}, Vals xs us → DpAll K H xs (bs.map enc) → PySem.W.EachIs (fun u b => ∃ x, RelV x u ∧ Dp K H x (enc b)) us bs
  | _, _, [], r, d => by
    have d' : DpAll K H _ [] := d
    cases d'
    cases r
    exact .nil
  | _, _, b :: bs, r, d => by
    have d' : DpAll K H _ (enc b :: bs.map enc) := d
    cases d' with
    | cons d1 d2 =>
      cases r with
      | cons r1 r2 => exact .cons ⟨_, r1, d1⟩ (each_vals r2 d2)
theorem vals_each {K : PySem.W.Frag} {H : Hp} {β : Type} {enc : β → PyData} : ∀ {us : List Value} {bs : List β}, PySem.W.EachIs (fun u b => ∃ x, RelV x u ∧ Dp K H x (enc b)) us bs → ∃ xs, Vals xs us ∧ DpAll K H xs (bs.map enc)
  | _, _, .nil => ⟨[], .nil, .nil⟩
  | _, _, .cons ⟨x, r, d⟩ t => by
    obtain ⟨xs, h1, h2⟩ := vals_each t
    exact ⟨x :: xs, .cons r h1, .cons d h2⟩
theorem cr_sortD {β : Type} (enc : β → PyData) (hu : X.A.units + 65 < cLine) : CallR X (.builtin "sorted") (rSortD X.K enc) := by
  intro pins s σ H vs us Q I r h
  obtain ⟨a, xs, bs, rfl, hs, hd, hal, hk, hdep, q⟩ := h
  obtain ⟨its, rv, hl, hz⟩ := I.list hs
  rw [Vals.ref1 r]
  have hlen : its.length = bs.length := by rw [← rv.length, dpAll_len hd, List.length_map]
  have e := each_vals rv hd
  obtain ⟨as, ra⟩ := Dp.readsAll I _ _ _ hd rv
  refine PySem.W.sorted_data (enc := enc) (bs := bs) (vs := its) hl.isList e (PySem.W.readsAll_each enc ra) hal hk (by rw [← hlen, ← rv.length]; exact hz) (fun b hb => ?_) fun out ho eo => ?_
  · have := hdep b hb
    omega
  · obtain ⟨ys, h1, h2⟩ := vals_each eo
    obtain ⟨ep, he'⟩ := PyProof.Rows.sortedAll_at s.heap its (List.toArray out)
    have hn : H (s.heap.objs.size + 1) = none := I.hok.fresh (Nat.le_succ _)
    have hyl : ys.length ≤ sizeLine := by
      rw [h1.length, ho, ← hlen, ← rv.length]; exact hz
    refine ⟨.ref _, upd H (s.heap.objs.size + 1) (.lst ys), I.laid (t' := s.toks) (fun _ _ => PyProof.Rows.sortedAll_old) (Nat.le_succ _) ⟨hyl, out, ep, h1, he'⟩, rfl, q _ ys _ hn (same_upd hn) upd_same ?_⟩
    exact dpAll_mono (same_upd hn) _ _ h2

/-- max(xs), min(xs): xs a list of alike data -/
def rBestD (K : PySem.W.Frag) (best : PyData → List PyData → PyData) : List V → Hp → VK → Prop := fun vs H Q => ∃ (a : Addr) (xs : List V) (d : PyData) (ds : List PyData), vs = [V.ref a] ∧ SqL K H a xs ∧ DpAll K H xs (d :: ds) ∧
  PySem.W.AlikeAll (d :: ds) ∧ PyData.canLayAll0 (d :: ds) = true ∧ PyData.depthAll (d :: ds) ≤ 60 ∧
  ∀ (x : V), Dp K H x (best d ds) → Q x H
theorem best_end {pins : List (Addr × Obj)} {s : Shared} {σ : L2.St} {H : Hp} {Q : VK} (I : Inv X pins σ H s) {xs : List V} {its : List Value} {as : List Addr} {ds : List PyData} (rv : Vals xs its) (hd : DpAll X.K H xs ds) (ra : ReadsAll s.heap its ds as) (hc : PyData.canLayAll0 ds = true) {i : Nat} {v : Value} {h' : Heap} {tk : Nat} {bs : List Addr} {e : PyData} (hi : its.toArray[i]? = some v)
    (hr : Reads h' v e bs) (he : e.canLay0 = true) (hk : ∀ b o, s.heap.get? b = some o → h'.get? b = some o) (q : ∀ x, Dp X.K H x e → Q x H) : EP X pins σ Q v { heap := h', gens := s.gens, drawn := s.drawn, toks := tk, os := s.os } := by
  have hi' : its[i]? = some v := by simpa using hi
  have hlt : i < its.length := by
    rcases Nat.lt_or_ge i its.length with h | h
    · exact h
    · rw [List.getElem?_eq_none h] at hi'; cases hi'
  obtain ⟨x, hx⟩ : ∃ x, xs[i]? = some x := ⟨xs[i]'(by rw [rv.length]; exact hlt), List.getElem?_eq_getElem _⟩
  obtain ⟨u, hu, ru⟩ := rv.get hx
  have euv : u = v := Option.some.inj (hu.symm.trans hi')
  subst euv
  obtain ⟨d, hdi, hdx⟩ := dpAll_get hd hx
  obtain ⟨as', rx⟩ := Dp.reads I d x u hdx ru
  have rx' : Reads h' u d as' := PyProof.Rows.Reads.keeps hk rx
  have hcd : d.canLay0 = true := by
    have : ∀ (ds : List PyData) (i : Nat), PyData.canLayAll0 ds = true → ds[i]? = some d → d.canLay0 = true := by
      intro ds
      induction ds with
      | nil => intro i _ h; simp at h
      | cons a r ih =>
        intro i h1 h2
        rw [PyData.canLayAll0, Bool.and_eq_true] at h1
        cases i with
        | zero => simp at h2; rw [← h2]; exact h1.1
        | succ i => exact ih i h1.2 (by simpa using h2)
    exact this ds i hc hdi
  have e1 := SeqAt.readOf_eq hcd rx'
  have e2 := SeqAt.readOf_eq he hr
  have ed : d = e := e1.symm.trans e2
  subst ed
  exact ⟨x, H, I.kept hk, ru, q x hdx⟩
theorem canLay_fold (f : PyData → PyData → Bool) : ∀ (ds : List PyData) (d : PyData), PyData.canLayAll0 (d :: ds) = true → (ds.foldl (fun a y => if f a y then y else a) d).canLay0 = true
  | [], d, h => by
    rw [PyData.canLayAll0, Bool.and_eq_true] at h
    exact h.1
  | e :: ds, d, h => by
    rw [PyData.canLayAll0, PyData.canLayAll0, Bool.and_eq_true, Bool.and_eq_true] at h
    rw [List.foldl_cons]
    refine canLay_fold f ds _ ?_
    rw [PyData.canLayAll0, Bool.and_eq_true]
    refine ⟨?_, h.2.2⟩
    split
    · exact h.2.1
    · exact h.1
theorem cr_maxD (hc : X.calm = true) (hu : X.A.units + 65 < cLine) : CallR X (.builtin "max") (rBestD X.K PySem.W.maxD) := by
  intro pins s σ H vs us Q I r h
  obtain ⟨a, xs, d, ds, rfl, hs, hd, hal, hl0, hdep, q⟩ := h
  obtain ⟨its, rv, hl, hz⟩ := I.list hs
  rw [Vals.ref1 r]
  obtain ⟨as, ra⟩ := Dp.readsAll I _ _ _ hd rv
  exact PySem.W.max_list_data (I.ok.hd hc) hl.isList (by simpa using ra) hal (by omega) fun i v h' tk bs hi hr hk => best_end I rv hd ra hl0 hi hr (canLay_fold _ ds d hl0) hk q
theorem cr_minD (hc : X.calm = true) (hu : X.A.units + 65 < cLine) : CallR X (.builtin "min") (rBestD X.K PySem.W.minD) := by
  intro pins s σ H vs us Q I r h
  obtain ⟨a, xs, d, ds, rfl, hs, hd, hal, hl0, hdep, q⟩ := h
  obtain ⟨its, rv, hl, hz⟩ := I.list hs
  rw [Vals.ref1 r]
  obtain ⟨as, ra⟩ := Dp.readsAll I _ _ _ hd rv
  exact PySem.W.min_list_data (I.ok.hd hc) hl.isList (by simpa using ra) hal (by omega) fun i v h' tk bs hi hr hk => best_end I rv hd ra hl0 hi hr (canLay_fold (fun a y => PySem.W.dataLt y a) ds d hl0) hk q
end
end DP
/-! set(xs) of a list of whole numbers, sorted then. -/
namespace DP
open PySem PySem.Spec PyProof.Rows L2
/-- a fresh set -/
abbrev newSet (w : World) : Obj := { cls := .type "set", dict := none, data := .set #[] 0 (.fresh 0 0 (!w.params.followText "set-order")) }
theorem set_of_ints {P : Program} {w : World} {A : Around} {E : Value → Shared → Prop} {s : Shared} {l : Addr} {items : Array Value} (ns : List Int) {Q : Value → Shared → Prop} (hh : A.handled = none) (hl : s.heap.IsList l items) (hit : IntsAre items.toList ns) (hb : ns.length + 1 < scanBound)
    (h : ∀ (h' : Heap) (tk c : Nat), SetR w h' s.heap.objs.size (fun j => decide (j ∈ ns)) c → c ≤ ns.length → (∀ b o, s.heap.get? b = some o → h'.get? b = some o) → Q (.ref s.heap.objs.size) { s with heap := h', toks := tk }) :
    wpAny (model P w) A (call (.type "set") [.ref l]) Q E s := by
  have hisz : items.size = ns.length := (Array.length_toList (xs := items)).symm.trans (IntsAre.length hit)
  have C := F.called_set
  obtain ⟨c, tl, hmro⟩ := C.mro
  have hmade := C.made; have hsub := C.sub
  refine wpAny_call (codeAny_of_tree ?_)
  show wpAny _ _ (callAny (.type "set") _) _ _ _
  refine wpAny_pure ⟨Code.quiet_builtin _ (by decide +kernel), codeAny_builtin F.entry_type_call ?_⟩
  rw [Around.under_plain (weight_type_call_type "set" [.ref l] []) rfl]
  have h1 := C.notType; have h2 := C.canCreate
  have hct := F.typeCall_set_1 (.ref l)
  repeat (any_goals (first | assumption | wp_step))
  refine codeAny_mono (code_set_led1 (.ref l) (E := E) (Q₁ := fun obj s₁ => obj = .ref s.heap.objs.size ∧ s₁ = { s with heap := s.heap.push (newSet w) }) ⟨rfl, rfl⟩) fun r s₁ hr => ?_
  cases r with
  | error e => exact hr
  | ok fl =>
  cases fl with
  | ret obj =>
    obtain ⟨rfl, rfl⟩ := hr
    have hS : (s.heap.push (newSet w)).get? s.heap.objs.size = some (newSet w) := Heap.get?_push_size _ rfl
    have hT : Shared.TypeIs { s with heap := s.heap.push (newSet w) } (.ref s.heap.objs.size) "set" := ⟨_, hS, rfl⟩
    have hli := C.init.lookup; have hbi := C.init.bind (.ref s.heap.objs.size)
    repeat (any_goals (first | assumption | wp_step))
    refine codeAny_mono (codeAny_call_builtin (R := wants (fun r s₂ => r = .none ∧ ∃ h' tk c, s₂ = { s with heap := h', toks := tk } ∧ SetR w h' s.heap.objs.size (fun j => decide (j ∈ ns)) c ∧ c ≤ ns.length ∧ ∀ b o, s.heap.get? b = some o → h'.get? b = some o) E) C.init.plain F.entry_set_init (check_set_init_1 hT ?_)) fun r₂ s₂ hr₂ => ?_
    · obtain ⟨⟨ocls, odict, odata, oslots⟩, hol, hcl, nl, hdl⟩ := hl
      simp only at hcl hdl
      subst hcl hdl
      have hol' : (s.heap.push (newSet w)).get? l = some { cls := .type "list", dict := odict, data := .seq items nl, slots := oslots } := Heap.get?_push_of_some _ hol
      have hsls := F.sub_list_set; have hslf := F.sub_list_frozenset
      have hne : (Value.type "list" == Value.type "dict") = false := by decide
      have hl1 : (s.heap.push (newSet w)).IsList l items := ⟨_, hol', rfl, nl, rfl⟩
      unfold Builtin.«set.__init__» noKeywords Builtin.Frozenset.updateFrom
      generalize hPI : pyIter = PI
      wp_walk
      subst hPI
      refine wpAny_pyIter_list hl1 (wpAny_bind (wpAny_runValue ?_))
      have hlS : l < s.heap.objs.size := Heap.lt_size hol
      have hh3 : A.in1.in1.in1.handled = none := by simp [hh]
      have hz : (s.heap.push (newSet w)).objs.size = s.heap.objs.size + 1 := Heap.size_push ..
      have hneI : l ≠ (s.heap.push (newSet w)).objs.size := by rw [hz]; exact Nat.ne_of_lt (Nat.lt_succ_of_lt hlS)
      have hSf : s.heap.objs.size ∉ [(s.heap.push (newSet w)).objs.size, l] := by
        rw [hz]; simp only [List.mem_cons, List.not_mem_nil, or_false, not_or]; exact ⟨Nat.ne_of_lt (Nat.lt_succ_self _), Nat.ne_of_gt hlS⟩
      have hval : ∀ (i : Nat) (v : Value), items[i]? = some v → ∃ k t, ns[i]? = some k ∧ v = .int k t := fun i v hv => by
        have hi : i < ns.length := hisz ▸ (Array.getElem?_eq_some_iff.mp hv).1
        obtain ⟨t, e⟩ := PyProof.Rows.IntsAre.int_at hit i v (by rw [Array.getElem?_toList]; exact hv)
        exact ⟨ns[i], t, List.getElem?_eq_getElem hi, by rw [e, List.getD_eq_getElem?_getD, List.getElem?_eq_getElem hi]; rfl⟩
      refine set_update_ints ((Walks.list hh3 _ l hneI items).toS) s.heap.objs.size hSf ns hisz hb hval (items.size - 0) 0 _ (by omega) (Nat.zero_le _) ⟨⟨_, Heap.get?_push_size _ rfl, rfl, rfl⟩, (hl1.push _)⟩ ?z0 ?zR
      case z0 => exact ⟨0, Nat.le_refl 0, setR_new_at (Heap.get?_push_of_some _ hS)⟩
      case zR =>
        intro s' c' hm hc' hS'
        obtain ⟨h', g2, d', tk', os'⟩ := s'
        have eg : g2 = s.gens := hm.gens
        have ed : d' = s.drawn := hm.drawn
        have eo : os' = s.os := hm.os
        subst eg ed eo
        rw [hisz] at hc'
        refine wpAny_pure (?_ : wpAny _ _ (ret Value.none) _ _ _)
        refine wpAny_pure ⟨rfl, h', tk', c', rfl, hS', hc', fun b o e => ?_⟩
        have hb0 : b < s.heap.objs.size := Heap.lt_size e
        refine hm.heap b o ?_ (Heap.get?_push_of_some _ (Heap.get?_push_of_some _ e))
        simp only [List.mem_cons, List.not_mem_nil, or_false, not_or]
        exact ⟨Nat.ne_of_lt hb0, by rw [hz]; exact Nat.ne_of_lt (Nat.lt_succ_of_lt hb0)⟩
    · cases r₂ with
      | error e => exact hr₂
      | ok fl₂ =>
      cases fl₂ with
      | ret r =>
        obtain ⟨rfl, h', tk, c', rfl, hS', hc', hk'⟩ := hr₂
        repeat (any_goals (first | assumption | wp_step))
        exact h _ _ _ hS' hc' hk'
      | _ => exact hr₂.elim
  | _ => exact hr.elim
section
variable {X : Cx}
/-- set(xs), xs a list of whole numbers -/
def rSetI (K : PySem.W.Frag) (w : World) : List V → Hp → VK → Prop := fun vs H Q => ∃ (l : Addr) (ns : List Int), vs = [V.ref l] ∧ SqL K H l (ns.map V.int) ∧ ns.length ≤ 60 ∧
  ∀ (a : Addr) (c : Nat), c ≤ ns.length → H a = none → Q (.ref a) (upd H a (SetO w a (fun j => decide (j ∈ ns)) c))
theorem cr_setI (hc : X.calm = true) : CallR X (.type "set") (rSetI X.K X.w) := by
  intro pins s σ H vs us Q I r h
  obtain ⟨l, ns, rfl, hs, hlen, q⟩ := h
  obtain ⟨its, rv, pl, hz⟩ := I.list hs
  rw [Vals.ref1 r]
  have hi : IntsAre its.toArray.toList ns := by simpa using rv.ints
  refine set_of_ints ns (I.ok.hd hc) pl.isList hi (by unfold scanBound; omega) fun h' tk c R hcl hk => ?_
  exact ⟨.ref _, upd H s.heap.objs.size (SetO X.w s.heap.objs.size (fun j => decide (j ∈ ns)) c), I.laid (t' := tk) hk (Nat.le_refl _) (setO_new R), rfl, q _ c hcl (I.hok.fresh (Nat.le_refl _))⟩
/-- d[k], d a written dict -/
theorem ix_kd {d : Addr} {es : Array DictEntry} {n : Nat} (D : KDict X.K X.w d es n) : IxR X (fun x y H Q => ∃ (z : Str) (u0 : Value) (v0 : V), x = .ref d ∧ y = .str z ∧ PySem.W.nsIn X.K d z = some (some u0) ∧ RelV v0 u0 ∧ Q v0 H) := by
  intro value slice pins s σ H x y v u Q I rx ry h hs
  obtain ⟨z, u0, v0, ex, ey, e, r, q⟩ := h
  subst ex ey
  cases rx
  obtain ⟨t, rfl⟩ := ry
  have fin : EP X pins σ Q u0 s := ⟨v0, H, I, r, q⟩
  exact subscriptTail_builtinR (x := u0) (kd_type D I) PySem.F.slot_dict_getitem.lookup
    (wpAny_getItem_of (PySem.strKind_is X.prog X.w z t) (PySem.W.mapOf_K (prog := X.prog) I.kIn D.at_ D.lit) (PySem.W.find_K D.at_ e) ⟨rfl, ⟨v0, H, I.tok _, r, q⟩⟩) hs
end
end DP
/-! The rules with the written part named, for comprehensions; a method called with keywords. -/
namespace DP
open PySem PySem.Spec PyProof.Rows L2
section
variable {X : Cx} {K : PySem.W.Frag}
theorem ixT (h : X.K = K := by rfl) : IxR X (rIxT K) := by subst h; exact ix_tup
theorem ixL (h : X.K = K := by rfl) : IxR X (rIxL K) := by subst h; exact ix_list
theorem inS (h : X.K = K := by rfl) : OpR X (compareOp .In) (rIn K false) := by subst h; exact op_in_seq
theorem notInS (h : X.K = K := by rfl) : OpR X (compareOp .NotIn) (rIn K true) := by subst h; exact op_notIn_seq
theorem eqDK (hu : X.A.units + 64 < cLine) (h : X.K = K := by rfl) : OpR X (compareOp .Eq) (rEqD K) := by subst h; exact op_eqD hu
theorem neDK (hu : X.A.units + 64 < cLine) (h : X.K = K := by rfl) : OpR X (compareOp .NotEq) (rNeD K) := by subst h; exact op_neD hu
theorem inDK (hu : X.A.units + 65 < cLine) (h : X.K = K := by rfl) : OpR X (compareOp .In) (rInD K) := by subst h; exact op_inD hu
theorem notInDK (hu : X.A.units + 65 < cLine) (h : X.K = K := by rfl) : OpR X (compareOp .NotIn) (rNotInD K) := by subst h; exact op_notInD hu
def rLenK (K : PySem.W.Frag) : List V → Hp → VK → Prop := fun xs H Q => ∃ p ys, xs = [V.ref p] ∧ (SqL K H p ys ∨ SqT K H p ys) ∧ Q (.int ys.length) H
theorem lenK (h : X.K = K := by rfl) : CallR X (.builtin "len") (rLenK K) := by subst h; exact call_len_seq
def rListK (K : PySem.W.Frag) : List V → Hp → VK → Prop := fun xs H Q => ∃ p ys, xs = [V.ref p] ∧ (SqL K H p ys ∨ SqT K H p ys) ∧ ∀ l, H l = none → Q (.ref l) (upd H l (.lst ys))
theorem listK (h : X.K = K := by rfl) : CallR X (.type "list") (rListK K) := by subst h; exact call_list_of
theorem maxK (hc : X.calm = true) (h : X.K = K := by rfl) : CallR X (.builtin "max") (rMax K) := by subst h; exact cr_max hc
theorem minK (hc : X.calm = true) (h : X.K = K := by rfl) : CallR X (.builtin "min") (rMin K) := by subst h; exact cr_min hc
theorem maxDK (hc : X.calm = true) (hu : X.A.units + 65 < cLine) (h : X.K = K := by rfl) : CallR X (.builtin "max") (rBestD K PySem.W.maxD) := by subst h; exact cr_maxD hc hu
theorem minDK (hc : X.calm = true) (hu : X.A.units + 65 < cLine) (h : X.K = K := by rfl) : CallR X (.builtin "min") (rBestD K PySem.W.minD) := by subst h; exact cr_minD hc hu
theorem sortK (h : X.K = K := by rfl) : CallR X (.builtin "sorted") (rSorted K) := by subst h; exact cr_sorted
theorem sortDK {β : Type} (enc : β → PyData) (hu : X.A.units + 65 < cLine) (h : X.K = K := by rfl) : CallR X (.builtin "sorted") (rSortD K enc) := by subst h; exact cr_sortD enc hu
theorem setIK {w : World} (hc : X.calm = true) (h : X.K = K := by rfl) (hw : X.w = w := by rfl) : CallR X (.type "set") (rSetI K w) := by subst h hw; exact cr_setI hc
theorem sortedSetK {w : World} (hc : X.calm = true) (hw : X.w = w := by rfl) : CallR X (.builtin "sorted") (rSortedSet w) := by subst hw; exact cr_sortedSet hc
theorem slL (h : X.K = K := by rfl) : SlR X (rSlL K) := by subst h; exact sl_list
theorem isiK (h : X.K = K := by rfl) : CallR X (.builtin "isinstance") (rIsi K) := by subst h; exact call_isi
theorem fldK {o : Expr} {ta : TE} {f : Str} {pos : Pos} (he : PE X o ta) (hb : attributeBase o f X.env (eval o X.env) = eval o X.env := by rfl) (h : X.K = K := by rfl) : PE X (.Attribute o f pos) (tFld K ta f) := by subst h; exact pe_fld he hb
theorem tupK {es : List Expr} {k : Nat} {t : TGs} {n : Nat} {pos : Pos} (hc : X.calm = true) (h1 : PGs X es t) (hn : (assignEach es X.env).length = n := by rfl) (hst : (assignEach es X.env).findIdx? (·.1) = none := by rfl) (h : X.K = K := by rfl) :
    PG X (.Tuple es k pos) (gTup K n t) := by subst h; exact pg_tup hc h1 hn hst
end
section
variable {X : Cx} {CX : CXT} {k : Nat} {f C : Addr} {fd : FuncData} {ps ks : List Str} {sp : Sp} {E : XK} {m : Str} {pos apos : Pos} {o : Expr} {kws : List Keyword} {ta : TE} {tk : TA} {g : List Value → List Value → List Value} {gV : List V → List V → List V}
/-- o.m(k = v, ..) -/
def tMethK (C : Addr) (m : Str) (sp : Sp) (gV : List V → List V → List V) (E : XK) (ta : TE) (tk : TA) : TE := fun σ H Q => ta σ H fun x H1 => ∃ a dx fs, x = .ref a ∧ H1 a = some (.ins C dx fs) ∧ fs.lookup m = none ∧ tk σ H1 fun zs H2 => sp (gV [.ref a] zs) H2 Q E
theorem pe_methK0 {pl : Sem Bool} (he : PE X o ta) (c : Cls X.K C) (hm : Meth X.K C m f) (F : FnOk X.prog X.w X.K X.mg X.base CX k f fd ps sp) (hr : Room k X.A) (hb : KBinds X.K fd ps ks g gV) (hx : Passes CX X E) (hkw : PK X kws tk)
    (hall : (backToKw pos (keywordEach kws X.env)).all (·.1.isSome) = true := by rfl) (hks : (backToKw pos (keywordEach kws X.env)).filterMap (·.1) = ks := by rfl)
    (hpl : ((backTo pos (starEach [] X.env)).any (·.1) || (backToKw pos (keywordEach kws X.env)).any (·.1.isNone)) = false := by rfl)
    (ht : eval (.Call (.Attribute o m apos) [] kws pos) X.env = (do
      let ov ← eval o X.env
      standAt apos.atName
      let (f, first) ← holding [ov] (getMethod ov m pl)
      callWith pos f first (backTo pos (starEach [] X.env)) (backToKw pos (keywordEach kws X.env))) := by rfl) :
    PE X (.Call (.Attribute o m apos) [] kws pos) (tMethK C m sp gV E ta tk) := by
  refine ⟨fun pins s σ H Q I h => ?_⟩
  refine PySem.W.methodCall_KW (pl := pl) (thn (he.run pins s σ H _ I h) fun u s1 ⟨x, H1, I1, rx, a, dx, fs, ex, ea, l, q⟩ => ?_) ht
  subst ex
  obtain rfl : u = Value.ref a := rx
  refine getmeth_ok I1 ea c hm l ?_
  refine PySem.W.callWith_KW0 (first := [.ref a]) (h₀ := X.base) I.ok.mod.kin hm.kp hall ?_ hpl
  refine thn (hkw.run pos pins s1 σ H1 _ I1 q) fun ws s2 ⟨zs, H2, I2, rz, q2⟩ => ⟨I2.kIn, ?_⟩
  rw [hks]
  exact run_fnk (us := [.ref a]) (vs := [.ref a]) F hr hb hx I2 (.cons rfl .nil) rz q2
end
/-- one positional value, one keyword -/
def g11 {α : Type} : List α → List α → List α
  | [a], [b] => [a, b]
  | _, _ => []
theorem g11_rel {vs : List V} {us : List Value} {zs : List V} {ws : List Value} (r : Vals vs us) (q : Vals zs ws) : Vals (g11 vs zs) (g11 us ws) := by
  cases r with
  | nil => exact .nil
  | cons a t =>
    cases t with
    | cons _ _ => exact .nil
    | nil =>
      cases q with
      | nil => exact .nil
      | cons b t =>
        cases t with
        | cons _ _ => exact .nil
        | nil => exact .cons a (.cons b .nil)
end DP
/-! A set of tuples whose parts are plain (whole numbers, texts), made of a list and sorted: over any kind of plain parts. -/
namespace SD
open PySem PySem.Spec PyProof.Rows L2
section
variable {P : Program} {w : World} {κ : Type} [DecidableEq κ] {kn : KeyKind P w κ} {A : Around} {E : Value → Shared → Prop} {s : Shared}
/-- parts are no objects -/
def Plain (kn : KeyKind P w κ) : Prop := ∀ k v, kn.is k v = true → v.scannable = true
abbrev TupAt (kn : KeyKind P w κ) (h : Heap) (p : Addr × List κ) : Prop := IsTupleKey kn h p.2 p.1
abbrev hsh (kn : KeyKind P w κ) (k : List κ) : Int := tupleKeyHash kn k
theorem parts (pl : Plain kn) : ∀ {k : List κ} {vs : List Value}, ItemsAre kn k vs → ∀ v ∈ vs, v.scannable = true
  | _, _, .nil, v, h => by cases h
  | _, _, .cons a t, v, h => by
    rcases List.mem_cons.mp h with e | h
    · rw [e]; exact pl _ _ a
    · exact parts pl t v h
theorem no_class1 (n : Nat) {v : Value} (h : v.scannable = true) : ofAClassStatement n v = pure false := by
  cases n <;> cases v <;> simp_all [Value.scannable, ofAClassStatement]
theorem no_class (pl : Plain kn) {b : Addr} {k : List κ} {Q : Bool → Shared → Prop} (hk : TupAt kn s.heap (b, k)) (q : Q false s) : wpAny (model P w) A (ofAClassStatement 8 (.ref b)) Q E s := by
  have ty := IsTupleKey.typeIs hk
  obtain ⟨o, items, n, ho, _, hd, hi⟩ := hk
  have hp := parts pl hi
  unfold ofAClassStatement
  refine wpAny_bind (wpAny_typeOf ty ?_)
  dsimp only
  simp only [show (("tuple" : String) == "tuple") = true by decide, if_true, Bool.not_true, Bool.false_eq_true, if_false]
  try refine wpAny_bind (wpAny_pure ?_)
  try simp only [Bool.not_true, Bool.false_eq_true, if_false]
  refine wpAny_bind (wpAny_seqItems ho hd ?_)
  dsimp only
  refine wpAny_bind ?_
  rw [← Array.forIn_toList]
  refine wpAny_forIn_list _ (fun rest r s2 => (r.1 = none ∧ s2 = s) ∧ ∀ v ∈ rest, v.scannable = true) _ (fun v rest r s2 hh => ?_) (fun r s2 hh => ?_) _ _ ⟨⟨rfl, rfl⟩, hp⟩
  · obtain ⟨⟨h1, rfl⟩, h2⟩ := hh
    rw [no_class1 _ (h2 v List.mem_cons_self)]
    refine wpAny_bind (wpAny_pure ?_)
    simp only [Bool.false_eq_true, if_false]
    exact wpAny_pure ⟨⟨rfl, rfl⟩, fun u hu => h2 u (List.mem_cons_of_mem _ hu)⟩
  · obtain ⟨⟨h1, rfl⟩, _⟩ := hh
    obtain ⟨r1, r2⟩ := r
    have h1' : r1 = none := h1
    subst h1'
    exact wpAny_pure q
theorem by_value (pl : Plain kn) {b : Addr} {k : List κ} {Q : Bool → Shared → Prop} (hk : TupAt kn s.heap (b, k)) (q : ∀ r, Q r s) : wpAny (model P w) A (hashByValue 8 (.ref b)) Q E s := by
  have ty := IsTupleKey.typeIs hk
  obtain ⟨o, items, n, ho, _, hd, hi⟩ := hk
  have hp := parts pl hi
  unfold hashByValue
  refine wpAny_bind (wpAny_specialOf ty F.slot_tuple_hash.lookup ?_)
  show wpAny _ _ (seqItems? (.ref b) >>= _) _ _ s
  refine wpAny_bind (wpAny_seqItems ho hd ?_)
  refine wpAny_bind ?_
  show wpAny _ _ (forIn items _ _) _ _ s
  rw [← Array.forIn_toList]
  refine wpAny_forIn_list _ (fun rest r s2 => s2 = s ∧ ∀ v ∈ rest, v.scannable = true) _ (fun v rest r s2 hh => ?_) (fun r s2 hh => ?_) _ _ ⟨rfl, hp⟩
  · obtain ⟨rfl, h2⟩ := hh
    rw [hashByValue_scannable _ (h2 v List.mem_cons_self)]
    refine wpAny_bind (wpAny_pure ?_)
    cases plainKind v
    · simp only [Bool.not_false, if_true]
      exact wpAny_pure (show wpAny _ _ (pure false) _ _ _ from wpAny_pure (q false))
    · simp only [Bool.not_true, Bool.false_eq_true, if_false]
      exact wpAny_pure ⟨rfl, fun u hu => h2 u (List.mem_cons_of_mem _ hu)⟩
  · obtain ⟨rfl, _⟩ := hh
    obtain ⟨r1, r2⟩ := r
    cases r1 with
    | none => exact wpAny_pure (q true)
    | some r => exact wpAny_pure (q r)
end
section
variable {P : Program} {w : World} {κ : Type} [DecidableEq κ] {kn : KeyKind P w κ} {A : Around} {E : Value → Shared → Prop} {s : Shared}
/-- looking for a tuple among tuples shows nothing -/
theorem unseen (pl : Plain kn) {b : Addr} {k : List κ} {Q : Bool → Shared → Prop} (hk : TupAt kn s.heap (b, k)) {ys : List Value} (hy : ∀ y ∈ ys, ∃ p : Addr × List κ, y = Value.ref p.1 ∧ TupAt kn s.heap p) (q : Q false s) :
    wpAny (model P w) A (searchCouldBeSeen (.ref b) ys) Q E s := by
  unfold searchCouldBeSeen
  refine wpAny_bind ?_
  refine wpAny_forIn_list _ (fun rest r s2 => (r.1 = none ∧ s2 = s) ∧ ∀ y ∈ rest, ∃ p : Addr × List κ, y = Value.ref p.1 ∧ TupAt kn s.heap p) _ (fun v rest r s2 hh => ?_) (fun r s2 hh => ?_) _ _ ⟨⟨rfl, rfl⟩, hy⟩
  · obtain ⟨⟨h1, rfl⟩, h2⟩ := hh
    obtain ⟨p, rfl, hp⟩ := h2 v List.mem_cons_self
    have more : ∀ y ∈ rest, ∃ p : Addr × List κ, y = Value.ref p.1 ∧ TupAt kn s2.heap p := fun u hu => h2 u (List.mem_cons_of_mem _ hu)
    dsimp only
    cases c : (b == p.1 || (carriedByValue (.ref b) && carriedByValue (.ref p.1))) with
    | true =>
      refine wp_if_pos rfl ?_
      exact wpAny_pure ⟨⟨rfl, rfl⟩, more⟩
    | false =>
      refine wp_if_neg Bool.false_ne_true ?_
      refine wpAny_bind (wpAny_eqIsQuiet_tuple hk ?_)
      simp only [Bool.not_true, Bool.false_eq_true, if_false]
      refine wpAny_bind (wpAny_eqIsQuiet_tuple hp ?_)
      simp only [Bool.not_true, Bool.false_eq_true, if_false]
      refine wpAny_bind (no_class pl hk ?_)
      simp only [Bool.false_eq_true, if_false]
      refine wpAny_bind (no_class pl hp ?_)
      simp only [Bool.false_eq_true, if_false]
      exact wpAny_pure ⟨⟨rfl, rfl⟩, more⟩
  · obtain ⟨⟨h1, rfl⟩, _⟩ := hh
    obtain ⟨r1, r2⟩ := r
    have h1' : r1 = none := h1
    subst h1'
    exact wpAny_pure q
/-- an entry's row -/
def row (kn : KeyKind P w κ) (p : Addr × List κ) : Int × Value := (hsh kn p.2, .ref p.1)
/-- the set at a has the tuples L -/
structure Tb (kn : KeyKind P w κ) (h : Heap) (a : Addr) (L : List (Addr × List κ)) (es : Array (Int × Value)) (ep : Nat) (t : SetTable) : Prop where
  obj : ∃ o, h.get? a = some o ∧ o.ExactSet ∧ o.data = .set es ep t
  rows : es.toList = L.map (row kn)
  tab : TabOk t (L.map fun p => hsh kn p.2)
  one : (L.map Prod.snd).Nodup
  led : w.params.followText "set-order" = true ∨ t.led = true
  room : L.length * 5 < t.mask * 3
  few : L.length < 64
def All (kn : KeyKind P w κ) (h : Heap) (L : List (Addr × List κ)) : Prop := ∀ p ∈ L, TupAt kn h p
variable {a : Addr} {L : List (Addr × List κ)} {es : Array (Int × Value)} {ep : Nat} {t : SetTable}
theorem rows_len {L : List (Addr × List κ)} {es : Array (Int × Value)} (h : es.toList = L.map (row kn)) : es.size = L.length := by
  have e := congrArg List.length h
  rwa [Array.length_toList, List.length_map] at e
theorem tab_len {t : SetTable} {L : List (Addr × List κ)} (T : TabOk t (L.map fun p => hsh kn p.2)) : t.place.size = L.length := by
  have e := T.sz
  rwa [List.length_map] at e
theorem fits_of {t : SetTable} {n : Nat} (h1 : t.place.size = n) (h2 : t.dummies = #[]) (h3 : n ≤ t.mask) : t.fits n = true := by
  unfold SetTable.fits SetTable.fill
  rw [h2, h1, Bool.and_eq_true, beq_iff_eq, decide_eq_true_eq]
  exact ⟨rfl, h3⟩
theorem Tb.fit (R : Tb kn s.heap a L es ep t) : t.fits es.size = true := by
  rw [rows_len R.rows]
  have h := R.room
  exact fits_of (tab_len R.tab) R.tab.dm (by omega)
theorem row_at {L : List (Addr × List κ)} {es : Array (Int × Value)} (h : es.toList = L.map (row kn)) {i : Nat} {p : Addr × List κ} (hp : L[i]? = some p) : es[i]? = some (hsh kn p.2, Value.ref p.1) := by
  rw [← Array.getElem?_toList, h, List.getElem?_map, hp]; rfl
theorem undumb (m : Nat) : ∀ (n : Nat) (p : SetTable.Probe), p.dummy = none → (nth m p n).dummy = none
  | 0, _, h => h
  | n + 1, p, h => undumb m n (adv m p) (by unfold adv; split <;> exact h)
abbrev from0 (m : Nat) (h : Int) : SetTable.Probe := runAt m (SetTable.bits h % (m + 1)) (SetTable.bits h)
/-- the search for x, from step c of its way on -/
theorem seek (pl : Plain kn) (R : Tb kn s.heap a L es ep t) (R2 : All kn s.heap L) {x : Addr} {k : List κ} (hx : TupAt kn s.heap (x, k)) (hu : A.units < cLine) {n : Nat} (hn : n < 10 * SetTable.turns t.mask)
    (free : way t.mask (hsh kn k) n ∉ t.place.toList) (full : ∀ c, c < n → way t.mask (hsh kn k) c ∈ t.place.toList) {Q : SetFound → Shared → Prop} (yes : k ∈ L.map Prod.snd → Q (.there none) s)
    (no : k ∉ L.map Prod.snd → Q (.free (way t.mask (hsh kn k) n) false) s) :
    ∀ (f c : Nat) (stand : Option SetTable.Probe), stand.getD (t.probeStart (hsh kn k)) = nth t.mask (from0 t.mask (hsh kn k)) c → c ≤ n → n - c < f →
      (∀ (i : Nat) p, L[i]? = some p → p.2 = k → ∃ d, (c ≤ d ∧ d < n) ∧ t.place.toList[i]? = some (way t.mask (hsh kn k) d)) →
      wpAny (model P w) A (setSearchFrom a (.ref x) (hsh kn k) true f stand) Q E s := by
  intro f
  induction f with
  | zero => intro c stand _ _ z _; exact absurd z (Nat.not_lt_zero _)
  | succ f ih =>
    intro c stand hs hc hf left
    obtain ⟨o, ho, _, hd⟩ := R.obj
    have gw : ¬ t.gaveWay = true := by
      unfold SetTable.gaveWay
      rw [mask_odd R.tab.mok]; decide
    have shift : ∀ q, nth t.mask (nth t.mask (from0 t.mask (hsh kn k)) c) q = nth t.mask (from0 t.mask (hsh kn k)) (c + q) := fun q => (nth_add t.mask c _ q).symm
    have wj : ∀ q, (nth t.mask (nth t.mask (from0 t.mask (hsh kn k)) c) q).j = way t.mask (hsh kn k) (c + q) := fun q => congrArg SetTable.Probe.j (shift q)
    have hcn : c + (n - c) = n := by omega
    have at_ : ∀ (i : Nat) p, L[i]? = some p → ((es[i]?.map (·.1)).getD 0 : Int) = hsh kn p.2 := fun i p hp => by rw [row_at R.rows hp]; rfl
    rw [setSearchFrom_succ]
    refine wpAny_bind (wpAny_setState_of ho hd R.fit ?_)
    dsimp only
    refine wp_if_neg gw ?_
    try refine wpAny_bind (wpAny_pure ?_)
    rcases go_spec t R.tab.ris R.tab.dm (fun i => (es[i]?.map (·.1)).getD 0) (hsh kn k) (10 * SetTable.turns t.mask) (n - c) _ (undumb t.mask c _ rfl) (by omega) (fun q hq => by rw [wj]; exact full _ (by omega)) (by rw [wj, hcn]; exact free) with ⟨q, i, hq, hi, hh, nb, pr⟩ | ⟨nb, pr⟩
    · have pr2 : t.probe (fun i => (es[i]?.map (·.1)).getD 0) (hsh kn k) (stand.getD (t.probeStart (hsh kn k))) = some (.candidate (way t.mask (hsh kn k) (c + q)) i (nth t.mask (from0 t.mask (hsh kn k)) (c + (q + 1)))) := by
        rw [hs, ← wj, ← shift]; exact pr
      rw [pr2]
      dsimp only
      rw [wj] at hi
      have hil : i < L.length := by
        have h1 := (List.getElem?_eq_some_iff.mp hi).1
        rw [Array.length_toList, tab_len R.tab] at h1
        exact h1
      obtain ⟨p, hp⟩ : ∃ p, L[i]? = some p := ⟨_, List.getElem?_eq_getElem hil⟩
      have hpL := List.mem_of_getElem? hp
      have live : t.slot (way t.mask (hsh kn k) (c + q)) = .live i := slot_live R.tab.ris hi
      have cand : wpAny (model P w) A (searchRest a (.ref x) (hsh kn k) true f es t (way t.mask (hsh kn k) (c + q)) i (nth t.mask (from0 t.mask (hsh kn k)) (c + (q + 1)))) Q E s := by
        unfold searchRest
        rw [row_at R.rows hp]
        dsimp only
        refine wpAny_bind (wpAny_holding (wpAny_eqBool_tuple hu (R2 p hpL) hx ?_))
        refine wpAny_bind (wpAny_setState_of ho hd R.fit ?_)
        dsimp only
        by_cases same : p.2 = k
        · refine wp_if_pos (by simp [same]) (wpAny_pure (yes ?_))
          exact List.mem_map.mpr ⟨p, hpL, same⟩
        · refine wp_if_neg (by simp [same]) ?_
          try refine wpAny_bind (wpAny_pure ?_)
          rw [L2.sameMem]
          dsimp only
          simp only [if_true, live, row_at R.rows hp]
          refine wpAny_bind (wpAny_isSame_ref_self (wpAny_bind (wpAny_pure ?_)))
          simp only [if_true]
          refine wp_if_neg (by simp [same]) ?_
          refine ih (c + (q + 1)) _ rfl (by omega) (by omega) fun i2 p2 h2 hk2 => ?_
          obtain ⟨d, ⟨d1, d2⟩, d3⟩ := left i2 p2 h2 hk2
          refine ⟨d, ⟨?_, d2⟩, d3⟩
          rcases Nat.lt_trichotomy d (c + q) with z | z | z
          · refine absurd ((at_ i2 p2 h2).trans (congrArg (hsh kn) hk2)) (nb (d - c) i2 (by omega) ?_)
            rw [wj, show c + (d - c) = d by omega]; exact d3
          · rw [z] at d3
            have e := (slot_live R.tab.ris d3).symm.trans live
            injection e with e
            rw [e, hp] at h2
            exact absurd ((congrArg Prod.snd (Option.some.inj h2)).trans hk2) same
          · omega
      cases hl : t.led with
      | true =>
        refine wp_if_neg (by simp) ?_
        try refine wpAny_bind (wpAny_pure ?_)
        exact cand
      | false =>
        refine wp_if_pos (by simp) ?_
        refine wpAny_bind (unseen pl hx (fun y hy => ?_) ?_)
        · obtain ⟨e, he, rfl⟩ := List.mem_map.mp hy
          have he2 : e ∈ es.toList := by
            have h3 : e ∈ es ∧ e.1 = hsh kn k := by simpa using he
            simpa using h3.1
          rw [R.rows] at he2
          obtain ⟨p2, hp2, rfl⟩ := List.mem_map.mp he2
          exact ⟨p2, rfl, R2 p2 hp2⟩
        · refine wp_if_neg (by decide) ?_
          try refine wpAny_bind (wpAny_pure ?_)
          exact cand
    · have pr2 : t.probe (fun i => (es[i]?.map (·.1)).getD 0) (hsh kn k) (stand.getD (t.probeStart (hsh kn k))) = some (.empty (way t.mask (hsh kn k) n) none) := by
        have e : way t.mask (hsh kn k) n = (nth t.mask (nth t.mask (from0 t.mask (hsh kn k)) c) (n - c)).j := by rw [wj, hcn]
        rw [hs, e]; exact pr
      rw [pr2]
      dsimp only
      refine wpAny_pure (no fun hm => ?_)
      obtain ⟨p2, h2, hk2⟩ := List.mem_map.mp hm
      obtain ⟨i2, hi2⟩ := List.mem_iff_getElem?.mp h2
      obtain ⟨d, ⟨d1, d2⟩, d3⟩ := left i2 p2 hi2 hk2
      refine absurd ((at_ i2 p2 hi2).trans (congrArg (hsh kn) hk2)) (nb (d - c) i2 (by omega) ?_)
      rw [wj, show c + (d - c) = d by omega]; exact d3
theorem seek0 (pl : Plain kn) (R : Tb kn s.heap a L es ep t) (R2 : All kn s.heap L) {x : Addr} {k : List κ} (hx : TupAt kn s.heap (x, k)) (hu : A.units < cLine) {Q : SetFound → Shared → Prop} (yes : k ∈ L.map Prod.snd → Q (.there none) s)
    (no : ∀ n, k ∉ L.map Prod.snd → way t.mask (hsh kn k) n ∉ t.place.toList → (∀ c, c < n → way t.mask (hsh kn k) c ∈ t.place.toList) → Q (.free (way t.mask (hsh kn k) n) false) s) :
    wpAny (model P w) A (setSearch a (.ref x) (hsh kn k) true) Q E s := by
  have hr := R.room
  obtain ⟨n, hn, h1, h2⟩ := R.tab.first (by rw [List.length_map]; omega) (hsh kn k)
  have small : n < 100000 := by
    have : SetTable.turns t.mask ≤ 142 := by
      unfold SetTable.turns
      rcases R.tab.mok with e | e | e <;> omega
    omega
  unfold setSearch
  refine seek pl R R2 hx hu hn h1 h2 yes (fun c => no n c h1 h2) 100000 0 none rfl (Nat.zero_le _) (by omega) fun i p hp hk => ?_
  have hi : (L.map fun p => hsh kn p.2)[i]? = some (hsh kn k) := by rw [List.getElem?_map, hp, ← hk]; rfl
  have hil : i < t.place.toList.length := by
    rw [Array.length_toList, tab_len R.tab]
    exact (List.getElem?_eq_some_iff.mp hp).1
  have hj := List.getElem?_eq_getElem hil
  obtain ⟨d, hd, e⟩ := R.tab.before h1 hi hj
  exact ⟨d, ⟨Nat.zero_le _, hd⟩, by rw [hj, e]⟩
end
section
variable {P : Program} {w : World} {κ : Type} [DecidableEq κ] {kn : KeyKind P w κ} {A : Around} {E : Value → Shared → Prop} {s : Shared}
theorem tup_but {h h' : Heap} {p : Addr × List κ} {a : Addr} {o : Obj} {es : Array (Int × Value)} {ep : Nat} {t : SetTable} (hp : TupAt kn h p) (ho : h.get? a = some o) (hd : o.data = .set es ep t) (hs : Heap.SameBut a h h') : TupAt kn h' p := by
  obtain ⟨o2, its, n, ho2, hc, hd2, hi⟩ := hp
  have ne : p.1 ≠ a := fun e => by
    rw [e, ho] at ho2
    rw [← Option.some.inj ho2, hd] at hd2
    exact nomatch hd2
  exact ⟨o2, its, n, (hs.2 p.1 ne).trans ho2, hc, hd2, hi⟩
theorem tup_keep {h h' : Heap} {p : Addr × List κ} (hp : TupAt kn h p) (hk : ∀ c o, h.get? c = some o → h'.get? c = some o) : TupAt kn h' p := by
  obtain ⟨o2, its, n, ho2, r⟩ := hp
  exact ⟨o2, its, n, hk _ _ ho2, r⟩
theorem mid_perm {α : Type} (L : List α) (p : Nat) (x : α) : (L.take p ++ x :: L.drop p).Perm (x :: L) := by
  have h := List.perm_middle (a := x) (l₁ := L.take p) (l₂ := L.drop p)
  rwa [List.take_append_drop] at h
theorem map_mid {α β : Type} (f : α → β) (L : List α) (p : Nat) (x : α) : (L.take p ++ x :: L.drop p).map f = (L.map f).take p ++ f x :: (L.map f).drop p := by
  rw [List.map_append, List.map_cons, List.map_take, List.map_drop]
/-- the rows in another order -/
theorem reorder {L : List (Addr × List κ)} {es : Array (Int × Value)} {order : Array Nat} (hr : es.toList = L.map (row kn)) (hp : order.toList.Perm (List.range L.length)) :
    ∃ M : List (Addr × List κ), (order.filterMap (es[·]?)).toList = M.map (row kn) ∧ M.Perm L ∧ (M.map fun p => hsh kn p.2) = order.toList.map fun i => (es.map (·.1)).getD i 0 := by
  have each : ∀ l : List Nat, (∀ i ∈ l, i < L.length) → l.filterMap (fun i => es[i]?) = (l.filterMap fun i => L[i]?).map (row kn) ∧ ((l.filterMap fun i => L[i]?).map fun p => hsh kn p.2) = l.map fun i => (es.map (·.1)).getD i 0 := by
    intro l
    induction l with
    | nil => intro _; exact ⟨rfl, rfl⟩
    | cons i l ih =>
      intro hl
      obtain ⟨e1, e2⟩ := ih fun j hj => hl j (List.mem_cons_of_mem _ hj)
      have hi := hl i List.mem_cons_self
      obtain ⟨p, hp⟩ : ∃ p, L[i]? = some p := ⟨_, List.getElem?_eq_getElem hi⟩
      have hrow := row_at hr hp
      rw [List.filterMap_cons_some hrow, List.filterMap_cons_some hp, List.map_cons, List.map_cons, List.map_cons, e1, e2]
      refine ⟨rfl, ?_⟩
      have e3 : (es.map (·.1))[i]? = some (hsh kn p.2) := by rw [Array.getElem?_map, hrow]; rfl
      have e4 : (es.map (·.1)).getD i 0 = hsh kn p.2 := by simp [Array.getD_eq_getD_getElem?, e3]
      rw [e4]
  obtain ⟨e1, e2⟩ := each order.toList fun i hi => List.mem_range.mp (hp.mem_iff.mp hi)
  refine ⟨_, by first | (rw [Array.toList_filterMap]; exact e1) | simpa using e1, ?_, e2⟩
  have all : (List.range L.length).filterMap (fun i => L[i]?) = L := by
    have z : ∀ n, n ≤ L.length → (List.range n).filterMap (fun i => L[i]?) = L.take n := by
      intro n
      induction n with
      | zero => intro _; rfl
      | succ n ih =>
        intro hn
        rw [List.range_succ, List.filterMap_append, ih (Nat.le_of_lt hn), List.take_succ, List.getElem?_eq_getElem hn, List.filterMap_cons_some (List.getElem?_eq_getElem hn)]; rfl
    rw [z _ (Nat.le_refl _), List.take_length]
  have h := hp.filterMap fun i => L[i]?
  rwa [all] at h
variable {a : Addr} {L : List (Addr × List κ)} {es : Array (Int × Value)} {ep : Nat} {t : SetTable}
/-- a larger table -/
theorem larger {o : Obj} (ho : s.heap.get? a = some o) (hx : o.ExactSet) (hd : o.data = .set es ep t) (rows : es.toList = L.map (row kn)) (sz : t.place.size = es.size) (dm : t.dummies = #[]) (fl : es.size ≤ t.mask)
    (one : (L.map Prod.snd).Nodup) (led : w.params.followText "set-order" = true ∨ t.led = true) (few : L.length < 64) {wanted M : Nat}
    (hw : SetTable.sizeAbove wanted - 1 = M) (hM : MaskOk M) (hw2 : SetTable.sizeAbove wanted ≤ 128) (room : L.length * 5 < M * 3) {Q : Unit → Shared → Prop}
    (q : ∀ h' L' es' ep' t', Heap.SameBut a s.heap h' → Tb kn h' a L' es' ep' t' → L'.Perm L → Q () { s with heap := h' }) : wpAny (model P w) A (setRelay a wanted) Q E s := by
  have hn := rows_len rows
  obtain ⟨t2, order, e, hp, T, em, el, _, _⟩ := relaid_ok t (hs := es.map (·.1)) (wanted := wanted) hw hM (by rw [Array.size_map, hn]; omega)
  rw [Array.size_map, hn] at hp
  obtain ⟨N, r1, r2, r3⟩ := reorder rows hp
  rw [← r3] at T
  have hz : (order.filterMap (es[·]?)).size = es.size := by rw [rows_len r1, r2.length_eq, hn]
  rw [setRelay_eq]
  refine wpAny_bind (wpAny_setState_of ho hd (fits_of sz dm fl) ?_)
  dsimp only
  refine wp_if_neg (by rw [sizeLine_eq]; omega) ?_
  try refine wpAny_bind (wpAny_pure ?_)
  rw [e]
  dsimp only
  refine wpAny_bind ?_
  refine wp_if_neg (by rw [hz]; simp) ?_
  try refine wpAny_bind (wpAny_pure ?_)
  refine wpAny_pure ?_
  dsimp only
  refine wpAny_storeSet_of ho hd ?_ (by rw [hz, hn, sizeLine_eq]; omega)
  have but : Heap.SameBut a s.heap (s.heap.update a (Obj.putSet (order.filterMap (es[·]?)) t2)) := Heap.SameBut.update ..
  refine q _ N _ (ep + 1) t2 but ⟨⟨_, store_at ho hd, ⟨hx.1, hx.2.1, hx.2.2⟩, rfl⟩, r1, T, (r2.map Prod.snd).nodup_iff.mpr one, by rw [el]; exact led, by rw [r2.length_eq, em]; exact room, by rw [r2.length_eq]; exact few⟩ r2
theorem plain_off {t : SetTable} {hs : List Int} (T : TabOk t hs) : TabOk { t with plain := false } hs := ⟨T.ris, T.dm, T.sz, T.mok, T.bd, T.reach⟩
/-- one tuple put in -/
theorem adding (pl : Plain kn) (R : Tb kn s.heap a L es ep t) (R2 : All kn s.heap L) {x : Addr} {k : List κ} (hx : TupAt kn s.heap (x, k)) (hu : A.units < cLine) (few : L.length + 1 < 64) {Q : Bool → Shared → Prop}
    (q : ∀ b h' L' es' ep' t', Heap.SameBut a s.heap h' → Tb kn h' a L' es' ep' t' → (L' = L ∧ k ∈ L.map Prod.snd ∨ L'.Perm ((x, k) :: L)) → Q b { s with heap := h' }) :
    wpAny (model P w) A (setAddHashed a (.ref x) (hsh kn k)) Q E s := by
  obtain ⟨o, ho, hex, hd⟩ := R.obj
  have hn := rows_len R.rows
  have hroom := R.room
  unfold setAddHashed
  refine wpAny_holding ?_
  rw [show (100000 : Nat) = 99999 + 1 from rfl, setAddHashedIn_succ]
  refine wpAny_bind (wpAny_setState_of ho hd R.fit ?_)
  dsimp only
  refine wp_if_neg (by simp [byScan, Value.scannable]) ?_
  try refine wpAny_bind (wpAny_pure ?_)
  refine wpAny_bind (seek0 pl R R2 hx hu (fun hm => ?_) fun n hm free full => ?_)
  · dsimp only
    exact wpAny_pure (q false s.heap L es ep t (Heap.SameBut.refl a s.heap) R (.inl ⟨rfl, hm⟩))
  dsimp only
  refine wpAny_bind (wpAny_setState_of ho hd R.fit ?_)
  dsimp only
  obtain ⟨q1, q2, q3, q4, q5, _, _, _, q9⟩ := R.tab.put free full
  generalize t.put (way t.mask (hsh kn k) n) = pt at q1 q3 q4 q5 q9 ⊢
  obtain ⟨t0, p0⟩ := pt
  dsimp only at q1 q3 q4 q5 q9 ⊢
  subst q1
  generalize SetTable.below t.place (way t.mask (hsh kn k) n) = p at q2 q3 ⊢
  -- whatever the table is called now
  have fin : ∀ t1 : SetTable, TabOk t1 ((L.map fun p => hsh kn p.2).take p ++ hsh kn k :: (L.map fun p => hsh kn p.2).drop p) → t1.mask = t.mask → t1.led = t.led → t1.fill = (L.map fun p => hsh kn p.2).length + 1 →
      wpAny (model P w) A (do
        storeSet a (SetTable.insertAt es p (hsh kn k, .ref x)) t1
        if !false && t1.tooFull then setRelay a (SetTable.grown (es.size + 1))
        return true) Q E s := by
    intro t1 T1 em el ef
    have hins : (SetTable.insertAt es p (hsh kn k, Value.ref x)).toList = (L.take p ++ (x, k) :: L.drop p).map (row kn) := by
      rw [SetTable.toList_insertAt, map_mid, R.rows]; rfl
    have pm := mid_perm L p (x, k)
    have hlen : (L.take p ++ (x, k) :: L.drop p).length = L.length + 1 := pm.length_eq
    have T2 : TabOk t1 ((L.take p ++ (x, k) :: L.drop p).map fun p => hsh kn p.2) := by rw [map_mid]; exact T1
    have one1 : ((L.take p ++ (x, k) :: L.drop p).map Prod.snd).Nodup := by
      refine (pm.map Prod.snd).nodup_iff.mpr ?_
      rw [List.map_cons]
      exact List.nodup_cons.mpr ⟨hm, R.one⟩
    have hsz := rows_len hins
    rw [hlen] at hsz
    generalize SetTable.insertAt es p (hsh kn k, Value.ref x) = es1 at hins hsz ⊢
    generalize L.take p ++ (x, k) :: L.drop p = L1 at pm hlen T2 one1 hins
    refine wpAny_bind (wpAny_storeSet_of ho hd ?_ (by rw [hsz, sizeLine_eq]; omega))
    have but : Heap.SameBut a s.heap (s.heap.update a (Obj.putSet es1 t1)) := Heap.SameBut.update ..
    have ho1 := store_at (es' := es1) (t' := t1) ho hd
    generalize s.heap.update a (Obj.putSet es1 t1) = h1 at but ho1 ⊢
    have led1 : w.params.followText "set-order" = true ∨ t1.led = true := by rw [el]; exact R.led
    cases full1 : t1.tooFull with
    | true =>
      have hb : (L.length + 1) * 5 ≥ t.mask * 3 := by
        have h := full1
        unfold SetTable.tooFull at h
        rw [decide_eq_true_eq, ef, em, List.length_map] at h
        exact h
      have two : (t.mask = 7 ∧ L.length = 4) ∨ (t.mask = 31 ∧ L.length = 18) := by
        rcases R.tab.mok with e | e | e <;> rw [e] at hb hroom
        · exact .inl ⟨e, by omega⟩
        · exact .inr ⟨e, by omega⟩
        · exfalso; omega
      have go : ∀ M, SetTable.sizeAbove (SetTable.grown (es.size + 1)) - 1 = M → MaskOk M → SetTable.sizeAbove (SetTable.grown (es.size + 1)) ≤ 128 → (L.length + 1) * 5 < M * 3 →
          wpAny (model P w) A (setRelay a (SetTable.grown (es.size + 1))) (fun _ s' => wpAny (model P w) A (pure true) Q E s') E { s with heap := h1 } := fun M g1 g2 g3 g4 => by
        refine larger (s := { s with heap := h1 }) ho1 ⟨hex.1, hex.2.1, hex.2.2⟩ rfl hins (by rw [tab_len T2, hsz, hlen]) T2.dm (by rw [hsz, em]; omega) one1 led1 (by rw [hlen]; exact few) g1 g2 g3 (by rw [hlen]; exact g4) ?_
        intro h2 L2 es2 ep2 t2 but2 R3 pm2
        exact wpAny_pure (q true h2 L2 es2 ep2 t2 (but.trans but2) R3 (.inr (pm2.trans pm)))
      first
        | (refine wpAny_bind ?_; refine wp_if_pos (by simp) ?_)
        | (refine wp_if_pos (by simp) ?_; refine wpAny_bind ?_)
      rcases two with ⟨_, e2⟩ | ⟨_, e2⟩
      · exact go 31 (by rw [hn, e2, size_20]) (.inr (.inl rfl)) (by rw [hn, e2, size_20]; decide) (by omega)
      · exact go 127 (by rw [hn, e2, size_76]) (.inr (.inr rfl)) (by rw [hn, e2, size_76]; decide) (by omega)
    | false =>
      first
        | refine wp_if_neg (by simp) ?_
        | (refine wpAny_bind ?_; refine wp_if_neg (by simp) ?_; refine wpAny_pure ?_)
      refine wpAny_pure (q true h1 L1 es1 (ep + 1) t1 but ⟨⟨_, ho1, ⟨hex.1, hex.2.1, hex.2.2⟩, rfl⟩, hins, T2, one1, led1, ?_, by rw [hlen]; exact few⟩ (.inr pm))
      have h := full1
      unfold SetTable.tooFull at h
      rw [decide_eq_false_iff_not, ef, em, List.length_map] at h
      rw [hlen, em]
      omega
  by_cases hpl : t0.plain = true
  · first
      | (refine wpAny_bind ?_; refine wp_if_pos hpl ?_; refine by_value pl hx fun r => ?_)
      | (refine wp_if_pos hpl ?_; refine wpAny_bind (by_value pl hx fun r => ?_))
    cases r with
    | true => simp only [if_true]; exact fin t0 q3 q4 q5 q9
    | false => simp only [Bool.false_eq_true, if_false]; exact fin _ (plain_off q3) q4 q5 q9
  · first
      | (refine wpAny_bind ?_; refine wp_if_neg hpl ?_; refine wpAny_pure ?_)
      | (refine wp_if_neg hpl ?_; refine wpAny_bind (wpAny_pure ?_))
    simp only [if_true]; exact fin t0 q3 q4 q5 q9
end
section
variable {P : Program} {w : World} {κ : Type} [DecidableEq κ] {kn : KeyKind P w κ} {A : Around} {E : Value → Shared → Prop} {s : Shared}
/-- L has what the first i of ks are, each once -/
structure Has (ks : List (Addr × List κ)) (i : Nat) (L : List (Addr × List κ)) : Prop where
  from_ : ∀ p ∈ L, p ∈ ks
  all : ∀ p ∈ ks.take i, p.2 ∈ L.map Prod.snd
  len : L.length ≤ i
theorem has_next {ks L L' : List (Addr × List κ)} {i : Nat} {x : Addr × List κ} (g : Has ks i L) (h : ks[i]? = some x) (c : (L' = L ∧ x.2 ∈ L.map Prod.snd) ∨ L'.Perm (x :: L)) : Has ks (i + 1) L' := by
  have tk : ks.take (i + 1) = ks.take i ++ [x] := by rw [List.take_succ, h]; rfl
  rcases c with ⟨rfl, hm⟩ | pm
  · refine ⟨g.from_, fun p hp => ?_, Nat.le_succ_of_le g.len⟩
    rw [tk] at hp
    rcases List.mem_append.mp hp with z | z
    · exact g.all p z
    · rw [List.mem_singleton.mp z]; exact hm
  · refine ⟨fun p hp => ?_, fun p hp => ?_, by rw [pm.length_eq]; exact Nat.succ_le_succ g.len⟩
    · rcases List.mem_cons.mp (pm.mem_iff.mp hp) with e | z
      · rw [e]; exact List.mem_of_getElem? h
      · exact g.from_ p z
    · rw [(pm.map Prod.snd).mem_iff, List.map_cons, List.mem_cons]
      rw [tk] at hp
      rcases List.mem_append.mp hp with z | z
      · exact .inr (g.all p z)
      · exact .inl (congrArg Prod.snd (List.mem_singleton.mp z))
theorem tb_keep {h h' : Heap} {a : Addr} {L : List (Addr × List κ)} {es : Array (Int × Value)} {ep : Nat} {t : SetTable} (R : Tb kn h a L es ep t) (k : ∀ o, h.get? a = some o → h'.get? a = some o) : Tb kn h' a L es ep t := by
  obtain ⟨o, ho, r⟩ := R.obj
  exact ⟨⟨o, k o ho, r⟩, R.rows, R.tab, R.one, R.led, R.room, R.few⟩
theorem tb_new {h : Heap} {a : Addr} (ho : h.get? a = some (DP.newSet w)) : Tb kn h a [] #[] 0 (.fresh 0 0 (!w.params.followText "set-order")) where
  obj := ⟨_, ho, ⟨rfl, rfl, rfl⟩, rfl⟩
  rows := rfl
  tab := ⟨.nil, rfl, rfl, .inl rfl, fun x h => (by cases h), fun i h j e => (by simp at e)⟩
  one := .nil
  led := by
    cases e : w.params.followText "set-order" with
    | true => exact .inl rfl
    | false => exact .inr rfl
  room := (by decide : 0 * 5 < 7 * 3)
  few := (by decide : 0 < 64)
/-- the loop of set.update over a list of tuples -/
theorem filling (pl : Plain kn) {I : Addr} {fp wr : List Addr} {G : Array GenState → Array GenState → Prop} {n : Nat} {Pv : Nat → Value → Prop} {St : Nat → Shared → Prop} {R : Result → Shared → Prop}
    (W : WalksS P w A.in1 I fp wr G n Pv St) {S : Addr} (hSf : S ∉ fp) {ks : List (Addr × List κ)} (few : ks.length < 64) (val : ∀ i v, Pv i v → ∃ p, ks[i]? = some p ∧ v = .ref p.1)
    {h0 : Heap} (hk : All kn h0 ks) (hS0 : h0.get? S = none) (hw0 : ∀ b ∈ wr, h0.get? b = none) (hu : A.in1.units < cLine)
    (q : ∀ s1 s' L es ep t, Moved (S :: wr) G s1 s' → Tb kn s'.heap S L es ep t → Has ks n L → (∀ b o, h0.get? b = some o → s'.heap.get? b = some o) → s1 = s → R (.ok (.ret .none)) s') :
    ∀ (j i : Nat) (s2 : Shared), n - i = j → i ≤ n → St i s2 → (∀ b o, h0.get? b = some o → s2.heap.get? b = some o) → (∃ L es ep t, Tb kn s2.heap S L es ep t ∧ Has ks i L) → (i = 0 → s2 = s) → (i ≠ 0 → Moved (S :: wr) G s s2) →
      codeAny (model P w) A (.builtin "set.update.loop" ⟨[.ref S, .ref I], []⟩) R s2 := by
  have hSw : S ∉ wr := fun h => hSf (W.sub _ h)
  have inS : ∀ b ∈ wr, b ∈ S :: wr := fun b hb => List.mem_cons_of_mem _ hb
  have still : ∀ {x y : Shared}, Moved wr G x y → (∀ b o, h0.get? b = some o → x.heap.get? b = some o) → ∀ b o, h0.get? b = some o → y.heap.get? b = some o := fun m k b o e => m.heap b o (fun hb => by rw [hw0 b hb] at e; cases e) (k b o e)
  have join : ∀ {i : Nat} {x y : Shared}, (i = 0 → x = s) → (i ≠ 0 → Moved (S :: wr) G s x) → Moved (S :: wr) G x y → Moved (S :: wr) G s y := fun {i x y} e0 e1 m => by
    by_cases c : i = 0
    · rw [← e0 c]; exact m
    · exact Moved.trans W.gtrans (e1 c) m
  intro j
  induction j with
  | zero =>
    intro i s2 hj hi hst kp ⟨L, es, ep, t, T, g⟩ e0 e1
    have hin : i = n := by omega
    subst hin
    refine codeAny_builtin F.entry_set_update_loop ?_
    rw [Around.under_plainId F.plain_set_update_loop _]
    show wpAny _ A.in1 (pyNext (.ref I) >>= _) _ _ s2
    refine wpAny_bind (W.done s2 _ _ hst fun s3 m => ?_)
    exact wpAny_pure (q s s3 L es ep t (join e0 e1 (m.mono inS)) (tb_keep T fun o e => m.heap S o hSw e) g (still m kp) rfl)
  | succ j ih =>
    intro i s2 hj hi hst kp ⟨L, es, ep, t, T, g⟩ e0 e1
    have hlt : i < n := by omega
    refine codeAny_builtin F.entry_set_update_loop ?_
    rw [Around.under_plainId F.plain_set_update_loop _]
    show wpAny _ A.in1 (pyNext (.ref I) >>= _) _ _ s2
    refine wpAny_bind (W.item i s2 _ _ hlt hst fun v s3 hP hst3 m => ?_)
    obtain ⟨p, hp, rfl⟩ := val i v hP
    have kp3 := still m kp
    have T3 : Tb kn s3.heap S L es ep t := tb_keep T fun o e => m.heap S o hSw e
    have hx : TupAt kn s3.heap p := tup_keep (hk p (List.mem_of_getElem? hp)) kp3
    have hL : All kn s3.heap L := fun r hr => tup_keep (hk r (g.from_ r hr)) kp3
    show wpAny _ A.in1 (holding [Value.ref p.1] (setAdd S (.ref p.1)) >>= _) _ _ s3
    refine wpAny_bind (wpAny_holding ?_)
    unfold setAdd
    refine wpAny_holding (wpAny_bind (wpAny_pyHash_tuple hu hx ?_))
    have hlen := (List.getElem?_eq_some_iff.mp hp).1
    refine adding (s := { s3 with toks := s3.toks + (p.2.length + 1) }) pl T3 hL hx hu (by have := g.len; omega) fun b h4 L4 es4 ep4 t4 but T4 c => ?_
    have keepB : ∀ b o, b ≠ S → s3.heap.get? b = some o → h4.get? b = some o := fun b o hb e => (but.2 b hb).trans e
    refine wpAny_pure ⟨plainId_quiet F.plain_set_update_loop _, ih (i + 1) _ (by omega) hlt (W.frame _ s3 _ _ hst3 (Nat.le_add_right _ _) fun b hb o e => keepB b o (fun e2 => hSf (e2 ▸ hb)) e) (fun b o e => keepB b o (fun z => by rw [z, hS0] at e; cases e) (kp3 b o e)) ⟨L4, es4, ep4, t4, T4, has_next g hp c⟩ (fun z => absurd z (Nat.succ_ne_zero _)) fun _ => ?_⟩
    exact join e0 e1 ((m.mono inS).then_heap (Nat.le_add_right _ _) fun b o hb e => keepB b o (fun z => hb (z ▸ List.mem_cons_self)) e)
/-- set(xs) -/
theorem set_made (pl : Plain kn) {l : Addr} {its : Array Value} (ks : List (Addr × List κ)) {Q : Value → Shared → Prop} (hh : A.handled = none) (hl : s.heap.IsList l its) (hit : its.toList = ks.map fun p => Value.ref p.1)
    (hk : All kn s.heap ks) (few : ks.length < 64) (hu : A.units + 3 < cLine)
    (q : ∀ (h' : Heap) (tk : Nat) L es ep t, Tb kn h' s.heap.objs.size L es ep t → Has ks ks.length L → (∀ b o, s.heap.get? b = some o → h'.get? b = some o) → Q (.ref s.heap.objs.size) { s with heap := h', toks := tk }) :
    wpAny (model P w) A (call (.type "set") [.ref l]) Q E s := by
  have hz : its.size = ks.length := by
    have e := congrArg List.length hit
    rwa [Array.length_toList, List.length_map] at e
  have C := F.called_set
  obtain ⟨c, tl, hmro⟩ := C.mro
  have hmade := C.made; have hsub := C.sub
  refine wpAny_call (codeAny_of_tree ?_)
  show wpAny _ _ (callAny (.type "set") _) _ _ _
  refine wpAny_pure ⟨Code.quiet_builtin _ (by decide +kernel), codeAny_builtin F.entry_type_call ?_⟩
  rw [Around.under_plain (weight_type_call_type "set" [.ref l] []) rfl]
  have h1 := C.notType; have h2 := C.canCreate
  have hct := F.typeCall_set_1 (.ref l)
  repeat (any_goals (first | assumption | wp_step))
  refine codeAny_mono (code_set_led1 (.ref l) (E := E) (Q₁ := fun obj s₁ => obj = .ref s.heap.objs.size ∧ s₁ = { s with heap := s.heap.push (DP.newSet w) }) ⟨rfl, rfl⟩) fun r s₁ hr => ?_
  cases r with
  | error e => exact hr
  | ok fl =>
  cases fl with
  | ret obj =>
    obtain ⟨rfl, rfl⟩ := hr
    have hS : (s.heap.push (DP.newSet w)).get? s.heap.objs.size = some (DP.newSet w) := Heap.get?_push_size _ rfl
    have hT : Shared.TypeIs { s with heap := s.heap.push (DP.newSet w) } (.ref s.heap.objs.size) "set" := ⟨_, hS, rfl⟩
    have hli := C.init.lookup; have hbi := C.init.bind (.ref s.heap.objs.size)
    repeat (any_goals (first | assumption | wp_step))
    refine codeAny_mono (codeAny_call_builtin (R := wants (fun r s₂ => r = .none ∧ ∃ h' tk L es ep t, s₂ = { s with heap := h', toks := tk } ∧ Tb kn h' s.heap.objs.size L es ep t ∧ Has ks ks.length L ∧ ∀ b o, s.heap.get? b = some o → h'.get? b = some o) E) C.init.plain F.entry_set_init (check_set_init_1 hT ?_)) fun r₂ s₂ hr₂ => ?_
    · obtain ⟨⟨ocls, odict, odata, oslots⟩, hol, hcl, nl, hdl⟩ := hl
      simp only at hcl hdl
      subst hcl hdl
      have hol' : (s.heap.push (DP.newSet w)).get? l = some { cls := .type "list", dict := odict, data := .seq its nl, slots := oslots } := Heap.get?_push_of_some _ hol
      have hsls := F.sub_list_set; have hslf := F.sub_list_frozenset
      have hne : (Value.type "list" == Value.type "dict") = false := by decide
      have hl1 : (s.heap.push (DP.newSet w)).IsList l its := ⟨_, hol', rfl, nl, rfl⟩
      unfold Builtin.«set.__init__» noKeywords Builtin.Frozenset.updateFrom
      generalize hPI : pyIter = PI
      wp_walk
      subst hPI
      refine wpAny_pyIter_list hl1 (wpAny_bind (wpAny_runValue ?_))
      have hlS : l < s.heap.objs.size := Heap.lt_size hol
      have hh3 : A.in1.in1.in1.handled = none := by simp [hh]
      have sz : (s.heap.push (DP.newSet w)).objs.size = s.heap.objs.size + 1 := Heap.size_push ..
      have neI : l ≠ (s.heap.push (DP.newSet w)).objs.size := by rw [sz]; exact Nat.ne_of_lt (Nat.lt_succ_of_lt hlS)
      have hSf : s.heap.objs.size ∉ [(s.heap.push (DP.newSet w)).objs.size, l] := by
        rw [sz]; simp only [List.mem_cons, List.not_mem_nil, or_false, not_or]; exact ⟨Nat.ne_of_lt (Nat.lt_succ_self _), Nat.ne_of_gt hlS⟩
      have val : ∀ (i : Nat) (v : Value), its[i]? = some v → ∃ p, ks[i]? = some p ∧ v = .ref p.1 := fun i v hv => by
        have e : its.toList[i]? = some v := by rw [Array.getElem?_toList]; exact hv
        rw [hit, List.getElem?_map, Option.map_eq_some_iff] at e
        obtain ⟨p, e1, e2⟩ := e
        exact ⟨p, e1, e2.symm⟩
      have gone : ∀ b, s.heap.objs.size ≤ b → s.heap.get? b = none := fun b hb => by
        cases e : s.heap.get? b with
        | none => rfl
        | some o => exact absurd (Heap.lt_size e) (Nat.not_lt.mpr hb)
      refine filling pl ((Walks.list hh3 _ l neI its).toS) hSf few val hk (gone _ (Nat.le_refl _)) (fun b hb => gone b (by rw [List.mem_singleton.mp hb, sz]; exact Nat.le_succ _)) hu ?fin (its.size - 0) 0 _ (by omega) (Nat.zero_le _) ⟨⟨_, Heap.get?_push_size _ rfl, rfl, rfl⟩, (hl1.push _)⟩ (fun b o e => Heap.get?_push_of_some _ (Heap.get?_push_of_some _ e)) ⟨[], _, _, _, tb_new (Heap.get?_push_of_some _ hS), ⟨fun p h => (by cases h), fun p h => (by simp at h), Nat.le_refl _⟩⟩ (fun _ => rfl) fun z => absurd rfl z
      case fin =>
        intro s1 s' L es ep t m T g k es1
        subst es1
        obtain ⟨h', g2, d', tk', os'⟩ := s'
        have eg : g2 = s.gens := m.gens
        have ed : d' = s.drawn := m.drawn
        have eo : os' = s.os := m.os
        subst eg ed eo
        refine wpAny_pure (?_ : wpAny _ _ (ret Value.none) _ _ _)
        rw [hz] at g
        exact wpAny_pure ⟨rfl, h', tk', L, es, ep, t, rfl, T, g, k⟩
    · cases r₂ with
      | error e => exact hr₂
      | ok fl₂ =>
      cases fl₂ with
      | ret r =>
        obtain ⟨rfl, h', tk, L, es, ep, t, rfl, T, g, k⟩ := hr₂
        repeat (any_goals (first | assumption | wp_step))
        exact q _ _ _ _ _ _ T g k
      | _ => exact hr₂.elim
  | _ => exact hr.elim
end
end SD
/-! The rules: set(xs) of a list of tuples of whole numbers and texts; sorted of such a set. -/
namespace SD
open PySem PySem.Spec PyProof.Rows L2 DP
theorem mix_plain (P : Program) (w : World) : Plain (mixKind P w) := fun k v h => by
  rcases keyIs_shape h with ⟨i, t, _, rfl⟩ | ⟨x, t, _, rfl⟩ <;> rfl
/-- a set with the tuples L -/
def SetDO (P : Program) (w : World) (a : Addr) (L : List (Addr × List Key)) : HO := .ext fun h => ∃ es ep t, Tb (mixKind P w) h a L es ep t
theorem set_new {P : Program} {w : World} {H : Hp} {h : Heap} {a : Addr} {L : List (Addr × List Key)} {es : Array (Int × Value)} {ep : Nat} {t : SetTable} (R : Tb (mixKind P w) h a L es ep t) : ObjOk P w H h a (SetDO P w a L) := by
  have ⟨o, ho, r⟩ := R.obj
  exact ⟨⟨es, ep, t, R⟩, ⟨o, ho⟩, fun h1 h2 ⟨es', ep', t', R'⟩ k => ⟨es', ep', t', tb_keep R' k⟩⟩
theorem keys_of {P : Program} {w : World} : ∀ {k : List Key} {us : List Value}, Vals (k.map kV) us → ItemsAre (mixKind P w) k us
  | [], _, .nil => .nil
  | n :: k, _, .cons r t => .cons (by
      cases n with
      | inl i =>
        obtain ⟨tk, rfl⟩ := r
        simp [mixKind, keyIs, Value.isInt]
      | inr z =>
        obtain ⟨tk, rfl⟩ := r
        simp [mixKind, keyIs, Value.isStrOf]) (keys_of t)
theorem refs_eq : ∀ {ks : List (Addr × List Key)} {us : List Value}, Vals (ks.map fun p => V.ref p.1) us → us = ks.map fun p => Value.ref p.1
  | [], _, .nil => rfl
  | p :: ks, _, .cons r t => by
    cases r
    rw [refs_eq t]; rfl
theorem refs_vals : ∀ (ks : List (Addr × List Key)), Vals (ks.map fun p => V.ref p.1) (ks.map fun p => Value.ref p.1)
  | [] => .nil
  | p :: ks => .cons rfl (refs_vals ks)
def kD : Key → PyData
  | .inl i => .int i
  | .inr z => .str z
section
variable {X : Cx}
theorem tup_inv {pins : List (Addr × Obj)} {σ : L2.St} {H : Hp} {s : Shared} {p : Addr × List Key} (I : Inv X pins σ H s) (h : SqT X.K H p.1 (p.2.map kV)) : TupAt (mixKind X.prog X.w) s.heap p := by
  obtain ⟨its, r, ⟨o, ho, hc, n, hd⟩, _⟩ := I.tuple h
  exact ⟨o, its.toArray, n, ho, hc, hd, by simpa using keys_of r⟩
/-- the tuples of the list stand there -/
def Stand (K : PySem.W.Frag) (H : Hp) (ks : List (Addr × List Key)) : Prop := ∀ p ∈ ks, SqT K H p.1 (p.2.map kV)
theorem Stand.same {K : PySem.W.Frag} {H H' : Hp} {ks : List (Addr × List Key)} (h : Stand K H ks) (S : Same H H') : Stand K H' ks := fun p hp => Same.sqT S (h p hp)
def rSetD (K : PySem.W.Frag) (P : Program) (w : World) : List V → Hp → VK → Prop := fun xs H Q => ∃ (l : Addr) (ks : List (Addr × List Key)), xs = [V.ref l] ∧ SqL K H l (ks.map fun p => V.ref p.1) ∧ Stand K H ks ∧ ks.length < 64 ∧
  ∀ a L, H a = none → (∀ p ∈ L, p ∈ ks) → (∀ p ∈ ks, p.2 ∈ L.map Prod.snd) → (L.map Prod.snd).Nodup → Q (.ref a) (upd H a (SetDO P w a L))
theorem cr_setD (hc : X.calm = true) (hu : X.A.units + 64 < cLine) : CallR X (.type "set") (rSetD X.K X.prog X.w) := by
  intro pins s σ H xs us Q I r h
  obtain ⟨l, ks, rfl, hl, hk, few, q⟩ := h
  rw [Vals.ref1 r]
  obtain ⟨its, rv, pl, hz⟩ := I.list hl
  refine set_made (P := X.prog) (w := X.w) (mix_plain _ _) ks (I.ok.hd hc) pl.isList (by simpa using refs_eq rv) (fun p hp => tup_inv I (hk p hp)) few (by omega) fun h' tk L es ep t T g k => ?_
  refine ⟨.ref s.heap.objs.size, upd H s.heap.objs.size (SetDO X.prog X.w s.heap.objs.size L), I.laid (t' := tk) k (Nat.le_refl _) (set_new T), rfl, q _ L (I.hok.fresh (Nat.le_refl _)) g.from_ (fun p hp => ?_) T.one⟩
  exact g.all p (by rw [List.take_length]; exact hp)
end
section
variable {P : Program} {w : World} {A : Around} {E : Value → Shared → Prop} {s : Shared}
def encK (p : Addr × List Key) : PyData := .tuple (p.2.map kD)
theorem reads_parts : ∀ {k : List Key} {us : List Value} {h : Heap}, ItemsAre (mixKind P w) k us → ReadsAll h us (k.map kD) []
  | _, _, _, .nil => .nil
  | _, _, h, .cons (k := n) a t => by
    rcases keyIs_shape a with ⟨i, tk, rfl, rfl⟩ | ⟨x, tk, rfl, rfl⟩
    · exact .cons (as := []) (.int _ _) (reads_parts t)
    · exact .cons (as := []) (.str _ _) (reads_parts t)
theorem reads_tup {h : Heap} {p : Addr × List Key} (x : TupAt (mixKind P w) h p) : Reads h (.ref p.1) (encK p) [] := by
  obtain ⟨o, its, n, ho, hc, hd, hi⟩ := x
  exact .tuple ho hc hd (reads_parts hi)
theorem each_refs : ∀ L : List (Addr × List Key), PySem.W.EachIs (fun (u : Value) (p : Addr × List Key) => u = .ref p.1) (L.map fun q => Value.ref q.1) L
  | [] => .nil
  | p :: L => .cons rfl (each_refs L)
theorem of_each : ∀ {us : List Value} {L : List (Addr × List Key)}, PySem.W.EachIs (fun (u : Value) (p : Addr × List Key) => u = .ref p.1) us L → us = L.map fun q => Value.ref q.1
  | _, _, .nil => rfl
  | _, _, .cons a t => by rw [a, of_each t]; rfl
theorem each_reads {h : Heap} : ∀ {L : List (Addr × List Key)} {a : Addr}, All (mixKind P w) h L → PySem.W.EachIs (fun (u : Value) (p : Addr × List Key) => ∃ as, Reads h u (encK p) as ∧ a ∉ as) (L.map fun q => Value.ref q.1) L
  | [], _, _ => .nil
  | p :: L, _, k => .cons ⟨[], reads_tup (k p List.mem_cons_self), by simp⟩ (each_reads fun q hq => k q (List.mem_cons_of_mem _ hq))
/-- what is known of the parts so that tuples can be put in order -/
structure Even (L : List (Addr × List Key)) : Prop where
  alike : ∀ p ∈ L, ∀ q ∈ L, PySem.W.alike (encK p) (encK q) = true
  some_ : ∀ p ∈ L, p.2 ≠ []
theorem Even.sub {L M : List (Addr × List Key)} (e : Even L) (h : ∀ p ∈ M, p ∈ L) : Even M := ⟨fun p hp q hq => e.alike p (h p hp) q (h q hq), fun p hp => e.some_ p (h p hp)⟩
theorem depth_parts : ∀ k : List Key, PyData.depthAll (k.map kD) = 0
  | [] => rfl
  | .inl i :: k => by
    show PyData.depthAll (PyData.int i :: k.map kD) = 0
    rw [PyData.depthAll, depth_parts k]; rfl
  | .inr z :: k => by
    show PyData.depthAll (PyData.str z :: k.map kD) = 0
    rw [PyData.depthAll, depth_parts k]; rfl
theorem depth_tup (p : Addr × List Key) : (encK p).depth = 1 := by
  unfold encK
  rw [PyData.depth, depth_parts]
theorem sorted_set {a : Addr} {L : List (Addr × List Key)} {es : Array (Int × Value)} {ep : Nat} {t : SetTable} {Q : Value → Shared → Prop} (R : Tb (mixKind P w) s.heap a L es ep t) (R2 : All (mixKind P w) s.heap L) (hh : A.handled = none) (hu : A.units + 64 < cLine) (ev : Even L)
    (q : ∀ s' p (out : Array Value) (c : Nat) (M : List (Addr × List Key)), (∀ b o, s.heap.get? b = some o → s'.heap.get? b = some o) → s'.gens = s.gens → s'.os = s.os → s.heap.objs.size ≤ p → M.Perm L →
      s'.heap.get? p = some (seqObj "list" out c) → out.toList = (M.mergeSort (PySem.W.dataLe false encK)).map (fun q => Value.ref q.1) → Q (.ref p) s') :
    wpAny (model P w) A (call (.builtin "sorted") [.ref a]) Q E s := by
  obtain ⟨o, ho, hex, hd⟩ := R.obj
  have hn := rows_len R.rows
  have few := R.few
  refine Calls.call_function_entry kind_sorted plain_sorted entry_sorted (args_sorted1 _) ?_
  unfold Builtin.«sorted»
  refine wpAny_bind (m := checkCount "sorted" 1 1 _) (wpAny_pure ?_)
  refine wpAny_bind (collect_set (A := A.in1) hh ⟨o, ho, hex.1, hd⟩ R.fit (by unfold scanBound; omega) R.tab.ris R.led fun s1 vs k1 hz g1 o1 pm => ?_)
  have hv : es.toList.map (·.2) = L.map fun q => Value.ref q.1 := by
    rw [R.rows, List.map_map]; rfl
  rw [hv] at pm
  -- the values' own list of rows
  obtain ⟨M, eM, pL⟩ : ∃ M : List (Addr × List Key), vs = M.map (fun q => Value.ref q.1) ∧ M.Perm L := by
    have z : ∀ {xs ys : List Value}, xs.Perm ys → ∀ L : List (Addr × List Key), ys = L.map (fun q => Value.ref q.1) → ∃ M : List (Addr × List Key), xs = M.map (fun q => Value.ref q.1) ∧ M.Perm L := by
      intro xs ys pm
      induction pm with
      | nil => intro L e; exact ⟨L, e, .refl _⟩
      | @cons x l1 l2 _ ih =>
        intro L e
        cases L with
        | nil => cases e
        | cons p L =>
          injection e with e1 e2
          obtain ⟨M, e3, p3⟩ := ih L e2
          exact ⟨p :: M, by rw [e1, e3]; rfl, p3.cons p⟩
      | swap x y l =>
        intro L e
        cases L with
        | nil => cases e
        | cons p L =>
          cases L with
          | nil => injection e with _ e2; cases e2
          | cons q L =>
            injection e with e1 e2
            injection e2 with e2 e3
            exact ⟨q :: p :: L, by rw [e1, e2, e3]; rfl, .swap _ _ _⟩
      | trans _ _ ih1 ih2 =>
        intro L e
        obtain ⟨M, e3, p3⟩ := ih2 L e
        obtain ⟨N, e4, p4⟩ := ih1 M e3
        exact ⟨N, e4, p4.trans p3⟩
    exact z pm L rfl
  subst eM
  have hml : M.length < 64 := by rw [pL.length_eq]; exact few
  have evM : Even M := ev.sub fun p hp => pL.mem_iff.mp hp
  refine wpAny_bind (wpAny_newList ?_ (by rw [List.length_map, sizeLine_eq]; omega))
  have hoL : (s1.heap.push (seqObj "list" (M.map fun q => Value.ref q.1).toArray 0)).get? s1.heap.objs.size = some (seqObj "list" (M.map fun q => Value.ref q.1).toArray 0) := Heap.get?_push_size _ rfl
  have stand : All (mixKind P w) (s1.heap.push (seqObj "list" (M.map fun q => Value.ref q.1).toArray 0)) M := fun p hp => tup_keep (R2 p (pL.mem_iff.mp hp)) fun b u e => Heap.get?_push_of_some _ (k1 b u e)
  refine wpAny_bind (wpAny_holding (PySem.W.list_sort_data (enc := encK) (s := { s1 with heap := s1.heap.push (seqObj "list" (M.map fun q => Value.ref q.1).toArray 0) }) hoL (each_refs M) (each_reads stand) (fun d hd' d' hd2 => ?_) (.inl fun d hd' => ?_) (by rw [sizeLine_eq]; omega) (fun p _ => ?_) fun out ho2 eo => ?_))
  · obtain ⟨p, hp, rfl⟩ := List.mem_map.mp hd'
    obtain ⟨p2, hp2, rfl⟩ := List.mem_map.mp hd2
    exact evM.alike p hp p2 hp2
  · obtain ⟨p, hp, rfl⟩ := List.mem_map.mp hd'
    have h2 := evM.some_ p hp
    unfold encK
    cases e : p.2 with
    | nil => exact absurd e h2
    | cons k r => exact ⟨_, _, rfl⟩
  · rw [depth_tup]
    have e : A.in1.units ≤ A.units + 1 := by first | exact Nat.le_refl _ | (show _ ≤ _; simp [Around.in1, Around.units])
    omega
  · obtain ⟨c, hc⟩ := sortedHeap_at (vs := M.map fun q => Value.ref q.1) (out := List.toArray out) hoL
    refine wpAny_pure ⟨_, rfl, q _ s1.heap.objs.size (List.toArray out) c M (fun b u e => ?_) g1 o1 hz pL hc (by simpa using of_each eo)⟩
    have e2 := k1 b u e
    have hlt := Heap.lt_size e2
    show (sortedHeap (s1.heap.push (seqObj "list" (M.map fun q => Value.ref q.1).toArray 0)) s1.heap.objs.size (M.map fun q => Value.ref q.1) (List.toArray out)).get? b = some u
    rw [sortedHeap_old (Nat.ne_of_lt hlt) (by rw [size_push']; exact Nat.lt_succ_of_lt hlt)]
    exact Heap.get?_push_of_some _ e2
end
section
variable {X : Cx}
/-- sorted(a set of tuples) -/
def rSortSetD (K : PySem.W.Frag) (P : Program) (w : World) : List V → Hp → VK → Prop := fun vs H Q => ∃ (a : Addr) (L : List (Addr × List Key)), vs = [V.ref a] ∧ H a = some (SetDO P w a L) ∧ Stand K H L ∧ Even L ∧
  ∀ (M : List (Addr × List Key)) (p : Addr), M.Perm L → H p = none → Q (.ref p) (upd H p (.lst ((M.mergeSort (PySem.W.dataLe false encK)).map fun q => V.ref q.1)))
theorem cr_sortSetD (hc : X.calm = true) (hu : X.A.units + 64 < cLine) : CallR X (.builtin "sorted") (rSortSetD X.K X.prog X.w) := by
  intro pins s σ H vs us Q I r h
  obtain ⟨a, L, rfl, ha, st, ev, q⟩ := h
  obtain ⟨es, ep, t, R⟩ : ∃ es ep t, Tb (mixKind X.prog X.w) s.heap a L es ep t := (I.hok a _ ha).1
  rw [Vals.ref1 r]
  refine sorted_set R (fun p hp => tup_inv I (st p hp)) (I.ok.hd hc) hu ev fun s' p out c M k g o hp pm hg hout => ?_
  have few := R.few
  have hlen : ((M.mergeSort (PySem.W.dataLe false encK)).map fun q => V.ref q.1).length ≤ sizeLine := by rw [List.length_map, List.length_mergeSort, pm.length_eq, sizeLine_eq]; omega
  have hn : H p = none := I.hok.fresh hp
  have hv : Vals ((M.mergeSort (PySem.W.dataLe false encK)).map fun q => V.ref q.1) out.toList := by rw [hout]; exact refs_vals _
  have J : Inv X pins σ (upd H p (.lst ((M.mergeSort (PySem.W.dataLe false encK)).map fun q => V.ref q.1))) { s with heap := s'.heap, gens := s'.gens, drawn := s'.drawn, toks := s'.toks } :=
    I.call (ch := []) (Un.laid k hp hn) (I.hok.laid k hp ⟨hlen, out.toList, c, hv, hg⟩) (by rw [g]; exact I.bare) (fun _ z => nomatch z)
  have e : s' = { s with heap := s'.heap, gens := s'.gens, drawn := s'.drawn, toks := s'.toks } := by
    cases s'; cases s; cases o; rfl
  rw [e]
  exact ⟨.ref p, _, J, rfl, q M p pm hn⟩
theorem setDK {K : PySem.W.Frag} {P : Program} {w : World} (hc : X.calm = true) (hu : X.A.units + 64 < cLine) (h : X.K = K := by rfl) (hp : X.prog = P := by rfl) (hw : X.w = w := by rfl) : CallR X (.type "set") (rSetD K P w) := by subst h hp hw; exact cr_setD hc hu
theorem sortSetDK {K : PySem.W.Frag} {P : Program} {w : World} (hc : X.calm = true) (hu : X.A.units + 64 < cLine) (h : X.K = K := by rfl) (hp : X.prog = P := by rfl) (hw : X.w = w := by rfl) : CallR X (.builtin "sorted") (rSortSetD K P w) := by subst h hp hw; exact cr_sortSetD hc hu
end
end SD
/-! == and != by an own class's __eq__ and __ne__, whatever they answer. -/
namespace DP
open PySem PySem.Spec PyProof.Rows L2
theorem rooms64 {A : Around} {k : Nat} (hr : Room k A) : A.units + 64 < cLine := by have := hr.un; omega
/-- what isinstance asks of an own class's instances -/
structure IsiC (K : PySem.W.Frag) (C : Addr) : Prop where
  ha : PySem.W.findIn K (.ref C) "__class__" = some (some (.builtin "object.__class__"))
  hn : PySem.W.specialIn K (.builtin "object.__class__") "__get__" = some (some (.builtin "getset_descriptor.__get__"))
  htk : PySem.W.takesIn K (.builtin "object.__class__") = some true
  hm : PySem.W.mroIn K C (.type "object") = some true
theorem kit_self (K : PySem.W.Frag) (C : Addr) : PySem.W.kitOne K (.ref C) (.ref C) = some true := if_pos (beq_self_eq_true _)
theorem kit_no {K : PySem.W.Frag} {S : Addr} {t : Value} (h0 : (t == .ref S) = false) (h2 : PySem.W.isClsIn K S = true) (h3 : PySem.W.typeIn K (.ref S) = some (.type "type")) {b : Option Bool} (h4 : PySem.W.subIn K t (.ref S) = b) : PySem.W.kitOne K t (.ref S) = b := by
  have e2 : ((PySem.W.clsIn K S).isSome && PySem.W.typeIn K (.ref S) == some (.type "type")) = true := by
    have h2' : (PySem.W.clsIn K S).isSome = true := h2
    rw [h2', h3] <;> rfl
  show (if (t == .ref S) = true then some true else if ((PySem.W.clsIn K S).isSome && PySem.W.typeIn K (.ref S) == some (.type "type")) = true then PySem.W.subIn K t (.ref S) else none) = b
  rw [h0, if_neg Bool.false_ne_true, if_pos e2]
  exact h4
section
variable {X : Cx} {CX : CXT} {C f : Addr} {fd : FuncData} {ps : List Str} {sp : Sp} {E : XK} {k : Nat} {op : CmpOp}
/-- the right side: of the same class, a list, a whole number -/
inductive Right (K : PySem.W.Frag) (C : Addr) (H : Hp) : V → Prop
  | ins {b dy gs} : H b = some (.ins C dy gs) → Right K C H (.ref b)
  | lst {b xs} : SqL K H b xs → PySem.W.notFirst K C (.type "list") = true → Right K C H (.ref b)
  | int {i} : PySem.W.notFirst K C (.type "int") = true → Right K C H (.int i)
def rOwn (K : PySem.W.Frag) (C : Addr) (sp : Sp) (E : XK) : V → V → Hp → VK → Prop := fun x y H Q => ∃ a dx fs, x = .ref a ∧ H a = some (.ins C dx fs) ∧ Right K C H y ∧ sp [x, y] H (fun v H' => ∃ b, v = .bl b ∧ Q (.bl b) H') E
theorem own_run (F : FnOk X.prog X.w X.K X.mg X.base CX k f fd ps sp) (hs : PySem.W.findIn X.K (.ref C) (cmpInfo op).2.1 = some (some (.ref f))) (hf : PySem.W.isFn X.K (.ref f) = true) (hb : Binds X.K fd ps []) (hx : Passes CX X E) (hr : Room k X.A) : ∀ (pins : List (Addr × Obj)) (s : Shared) (σ : L2.St) (H : Hp) (x y : V) (v u : Value) (Q : VK), Inv X pins σ H s → RelV x v → RelV y u → rOwn X.K C sp E x y H Q → wpAny (model X.prog X.w) X.A (richCompare op v u) (EP X pins σ Q) X.xe s := by
  intro pins s σ H x y v u Q I rx ry hq
  obtain ⟨a, dx, fs, rfl, ha, hy, q⟩ := hq
  cases rx
  obtain ⟨mA, J, _⟩ := ins_get I.hok ha
  obtain ⟨od, J, _⟩ := J.look
  obtain ⟨m, hF⟩ := I.fr
  obtain ⟨tb, hl, hn⟩ : ∃ tb, PySem.W.Looks (model X.prog X.w) s.heap (typeOf u) tb ∧ PySem.W.notFirst X.K C tb = true := by
    cases hy with
    | ins h =>
      cases ry
      obtain ⟨mB, J', _⟩ := ins_get I.hok h
      obtain ⟨od', J', _⟩ := J'.look
      exact ⟨.ref C, J'.type, by simp [PySem.W.notFirst]⟩
    | lst h hn =>
      cases ry
      obtain ⟨its, rv, pl, hz⟩ := I.list h
      exact ⟨_, fun A Q E s1 k q => (by
        obtain ⟨o, ho, hc, r⟩ := pl.isList
        exact wpAny_typeOf_ref (k _ _ ho) (by rw [hc]; exact q)), hn⟩
    | int hn =>
      obtain ⟨t, rfl⟩ := ry
      exact ⟨_, fun A Q E s1 k q => wpAny_pure q, hn⟩
  refine PySem.W.cmp_K (op := op) (tb := tb) hr.units0 hF I.ok.mod.kin J hl hn hs hf ?_
  have r2 : Vals [V.ref a, y] [Value.ref a, u] := .cons rfl (.cons ry .nil)
  have hlen := F.len _ _ _ _ q
  refine wpAny_call (codeAny_mono (F.run X.A X.stack s H ⟨[.ref a, u], []⟩ [.ref a, u] [.ref a, y] _ E hr I.env0 (by
    have := hb s [.ref a, u] I.kIn (by simpa using hlen)
    simpa using this) r2 q) fun r s' hq => ?_)
  cases r with
  | error e => exact hx pins σ H s e s' I hq
  | ok fl =>
    cases fl with
    | ret w =>
      obtain ⟨z, H', I', rz, b, ez, q2⟩ := I.after hq
      subst ez
      cases rz
      exact ⟨.bl b, H', I', rfl, q2⟩
    | next => exact hq.elim
    | brk => exact hq.elim
    | cont => exact hq.elim
theorem op_ownEq (F : FnOk X.prog X.w X.K X.mg X.base CX k f fd ps sp) (hs : PySem.W.findIn X.K (.ref C) "__eq__" = some (some (.ref f))) (hf : PySem.W.isFn X.K (.ref f) = true) (hb : Binds X.K fd ps []) (hx : Passes CX X E) (hr : Room k X.A) : OpR X (compareOp .Eq) (rOwn X.K C sp E) := fun pins s σ H x y v u Q I rx ry hq =>
  own_run (op := .Eq) F hs hf hb hx hr pins s σ H x y v u Q I rx ry hq
theorem op_ownNe (F : FnOk X.prog X.w X.K X.mg X.base CX k f fd ps sp) (hs : PySem.W.findIn X.K (.ref C) "__ne__" = some (some (.ref f))) (hf : PySem.W.isFn X.K (.ref f) = true) (hb : Binds X.K fd ps []) (hx : Passes CX X E) (hr : Room k X.A) : OpR X (compareOp .NotEq) (rOwn X.K C sp E) := fun pins s σ H x y v u Q I rx ry hq =>
  own_run (op := .NotEq) F hs hf hb hx hr pins s σ H x y v u Q I rx ry hq
end
end DP
/-! Calls by keywords, in any order, with defaults: functions, methods, classes. -/
namespace KW
open PySem PySem.Spec PyProof.Rows L2 DP
/-- those of a list that stand at these places -/
def pick {α : Type} (is : List Nat) (l : List α) : List α := is.filterMap fun i => l[i]?
theorem vals_at : ∀ {vs : List V} {us : List Value} (r : Vals vs us) (i : Nat), (vs[i]? = none ∧ us[i]? = none) ∨ ∃ v u, vs[i]? = some v ∧ us[i]? = some u ∧ RelV v u
  | _, _, .nil, i => .inl ⟨by simp, by simp⟩
  | _, _, .cons h t, 0 => .inr ⟨_, _, rfl, rfl, h⟩
  | _, _, .cons h t, i + 1 => by simpa using vals_at t i
theorem pick_rel {vs : List V} {us : List Value} (r : Vals vs us) : ∀ is : List Nat, Vals (pick is vs) (pick is us)
  | [] => .nil
  | i :: is => by
    unfold pick
    rw [List.filterMap_cons, List.filterMap_cons]
    rcases vals_at r i with ⟨e1, e2⟩ | ⟨v, u, e1, e2, h⟩
    · rw [e1, e2]; exact pick_rel r is
    · rw [e1, e2]; exact .cons h (pick_rel r is)
/-- positional values, then the rest out of the keywords' values and the defaults -/
def gk {α : Type} (is : List Nat) (ds us ws : List α) : List α := us ++ pick is (ws ++ ds)
theorem gk_rel {is : List Nat} {dv vs zs : List V} {ds us ws : List Value} (rd : Vals dv ds) (r : Vals vs us) (rz : Vals zs ws) : Vals (gk is dv vs zs) (gk is ds us ws) := r.append (pick_rel (rz.append rd) is)
/-- all parameters are given -/
theorem kbn0 {K : PySem.W.Frag} {fd : FuncData} {ps ks : List Str} {n : Nat} (is : List Nat) (h : ∀ us ws : List Value, us.length = n → ws.length = ks.length → bindArgs fd ⟨us, ks.zip ws⟩ = pure (ps.zip (gk is [] us ws))) : KBn K fd ps n ks (gk is []) (gk is []) :=
  ⟨fun s us ws _ h1 h2 => .of_eq (h us ws h1 h2), fun r rz => gk_rel .nil r rz⟩
section
variable {K : PySem.W.Frag} {x qual : Str} {params : Arguments} {body : List Stmt} {scope : Scope} {dvs : List V} {f : Addr} {fd : FuncData} {ps : List Str}
/-- the lacking ones stand among the defaults -/
theorem kbnD (F : FunD K x qual params body scope dvs [] f fd) (n : Nat) (ks : List Str) (is : List Nat) (hd : dvs ≠ [])
    (h : ∀ (T : Addr) (kV doc pm : Value) (an : Option Addr) (cdv ct : Value) (us its ws : List Value), us.length = n → its.length = dvs.length → ws.length = ks.length →
      ∃ k, bindArgs (PySem.W.fnOf x qual params body scope (.ref T) kV doc pm an cdv ct) ⟨us, ks.zip ws⟩ = seqItems? (.ref T) >>= k ∧ k (some its.toArray) = pure (ps.zip (gk is its us ws))) : ∃ its : List Value, KBn K fd ps n ks (gk is its) (gk is dvs) := by
  obtain ⟨oc, od, dV, kV, doc, pm, an, cdv, ct, osl, rfl, lk, hcd, hD, hK⟩ := F.ex
  rcases hD with ⟨e, _⟩ | ⟨_, T, o, its, m, rfl, lT, oT, rT⟩
  · exact absurd e hd
  · refine ⟨its, fun s us ws X l1 l2 => ?_, fun r rz => gk_rel rT r rz⟩
    obtain ⟨k, e1, e2⟩ := h T kV doc pm an cdv ct us its ws l1 rT.length.symm l2
    refine BindsTo.of_looks fun M => ?_
    rw [e1]
    exact looks_items X lT oT (.of_pure e2)
end
section
variable {X : Cx} {CX : CXT} {k : Nat} {f C : Addr} {fd : FuncData} {ps ks : List Str} {sp : Sp} {E : XK} {x m : Str} {p pos apos : Pos} {o : Expr} {kws : List Keyword} {ta : TE} {tk : TA} {g : List Value → List Value → List Value} {gV : List V → List V → List V}
def tCallN0 (c : Nat) (sp : Sp) (gV : List V → List V → List V) (E : XK) (tk : TA) : TE := fun σ H Q => tk σ H fun zs H2 => zs.length = c ∧ sp (gV [] zs) H2 Q E
/-- f(k = v, ..) -/
theorem pe_callN0 (F : FnOk X.prog X.w X.K X.mg X.base CX k f fd ps sp) (hr : Room k X.A) (hg : Gl X x) (hm : X.mg x = some (.ref f)) (hk : PySem.W.keepIn X.K (.ref f) = true) (hb : KBn X.K fd ps 0 ks g gV) (hx : Passes CX X E) (hkw : PK X kws tk)
    (hall : (backToKw pos (keywordEach kws X.env)).all (·.1.isSome) = true := by rfl) (hks : (backToKw pos (keywordEach kws X.env)).filterMap (·.1) = ks := by rfl) (hdb : (x == ("__debug__" : Str)) = false := by decide)
    (hpl : ((backTo pos (starEach [] X.env)).any (·.1) || (backToKw pos (keywordEach kws X.env)).any (·.1.isNone)) = false := by rfl) :
    PE X (.Call (.Name x p) [] kws pos) (tCallN0 ks.length sp gV E tk) := by
  refine ⟨fun pins s σ H Q I h => ?_⟩
  refine wpAny_Call_Name_kw (ld_glob I hg hm ?_ hdb)
  refine PySem.W.callWith_KW0 (h₀ := X.base) I.ok.mod.kin hk hall ?_ hpl
  refine thn (hkw.run pos pins s σ H _ I h) fun ws s2 ⟨zs, H2, I2, rz, l2, q2⟩ => ⟨I2.kIn, ?_⟩
  rw [hks]
  exact run_fnN (us := []) (vs := []) F hr hb hx I2 .nil rz rfl l2 q2
def tMethN (C : Addr) (m : Str) (c : Nat) (sp : Sp) (gV : List V → List V → List V) (E : XK) (ta : TE) (tk : TA) : TE := fun σ H Q => ta σ H fun x H1 => ∃ a dx fs, x = .ref a ∧ H1 a = some (.ins C dx fs) ∧ fs.lookup m = none ∧ tk σ H1 fun zs H2 => zs.length = c ∧ sp (gV [.ref a] zs) H2 Q E
/-- o.m(k = v, ..) -/
theorem pe_methN {pl : Sem Bool} (he : PE X o ta) (c : Cls X.K C) (hm : Meth X.K C m f) (F : FnOk X.prog X.w X.K X.mg X.base CX k f fd ps sp) (hr : Room k X.A) (hb : KBn X.K fd ps 1 ks g gV) (hx : Passes CX X E) (hkw : PK X kws tk)
    (hall : (backToKw pos (keywordEach kws X.env)).all (·.1.isSome) = true := by rfl) (hks : (backToKw pos (keywordEach kws X.env)).filterMap (·.1) = ks := by rfl)
    (hpl : ((backTo pos (starEach [] X.env)).any (·.1) || (backToKw pos (keywordEach kws X.env)).any (·.1.isNone)) = false := by rfl)
    (ht : eval (.Call (.Attribute o m apos) [] kws pos) X.env = (do
      let ov ← eval o X.env
      standAt apos.atName
      let (f, first) ← holding [ov] (getMethod ov m pl)
      callWith pos f first (backTo pos (starEach [] X.env)) (backToKw pos (keywordEach kws X.env))) := by rfl) :
    PE X (.Call (.Attribute o m apos) [] kws pos) (tMethN C m ks.length sp gV E ta tk) := by
  refine ⟨fun pins s σ H Q I h => ?_⟩
  refine PySem.W.methodCall_KW (pl := pl) (thn (he.run pins s σ H _ I h) fun u s1 ⟨x, H1, I1, rx, a, dx, fs, ex, ea, l, q⟩ => ?_) ht
  subst ex
  obtain rfl : u = Value.ref a := rx
  refine getmeth_ok I1 ea c hm l ?_
  refine PySem.W.callWith_KW0 (first := [.ref a]) (h₀ := X.base) I.ok.mod.kin hm.kp hall ?_ hpl
  refine thn (hkw.run pos pins s1 σ H1 _ I1 q) fun ws s2 ⟨zs, H2, I2, rz, l2, q2⟩ => ⟨I2.kIn, ?_⟩
  rw [hks]
  exact run_fnN (us := [.ref a]) (vs := [.ref a]) F hr hb hx I2 (.cons rfl .nil) rz rfl l2 q2
end
section
variable {P : Program} {w : World} {K : PySem.W.Frag} {mg : Str → Option Value} {base : Heap} {x qual : Str} {st : Stmt} {dvs : List V} {f : Addr} {fd : FuncData}
/-- a def with defaults, by its body -/
theorem FunD.okN {N ps : List Str} {k : Nat} {sp : Sp} (F : FunD K x qual (defArgs st) (defBody st) (defScope st) dvs [] f fd) (S : FnScope N ps (defScope st)) (len : ∀ vs H Q E, sp vs H Q E → vs.length = ps.length)
    (hbody : ∀ (cdv : Value) (A : Around) (outer : List Env) (s : Shared) (H : Hp) (vs : List V) (Q : VK) (E : XK), Room k (A.deeper (envOfC qual (defScope st) s.heap.objs.size f cdv)) → sp vs H Q E →
      ∃ t, PSs (cxOf CX0 P w K mg base N qual (defScope st) f cdv A outer s H E).nox (defBody st) t ∧ t { nx := fun _ H' => Q .non H', rt := Q } (start N vs) H) : FnOk P w K mg base CX0 (k + 1) f fd ps sp :=
  F.ok S len fun cdv A outer s H vs Q E hr hsp => by
    obtain ⟨t, h, q⟩ := hbody cdv A outer s H vs Q E hr hsp
    exact ⟨t, h.nox, q⟩
end
end KW
/-! != of lists of tuples that hold objects: the same object stands at the same place, or the same data. -/
namespace DP
open PySem PySem.Spec PyProof.Rows L2
section
variable {X : Cx} {pins : List (Addr × Obj)} {σ : L2.St} {H : Hp} {s : Shared}
/-- one object, or the same data -/
def EqI (K : PySem.W.Frag) (H : Hp) (x y : V) : Prop := (∃ a, x = .ref a ∧ y = .ref a) ∨ ∃ d, Dp K H x d ∧ Dp K H y d ∧ d.canLay0 = true ∧ d.depth ≤ 8
/-- tuples of such -/
def EqT (K : PySem.W.Frag) (H : Hp) (x y : V) : Prop := ∃ a b xs ys, x = .ref a ∧ y = .ref b ∧ SqT K H a xs ∧ SqT K H b ys ∧ Paired (EqI K H) xs ys
theorem eqI_at (I : Inv X pins σ H s) {A : Around} (hu : A.units + 8 < cLine) {x y : V} {v u : Value} (h : EqI X.K H x y) (rx : RelV x v) (ry : RelV y u) : SeqAt.EqAt A s v u true := by
  rcases h with ⟨a, rfl, rfl⟩ | ⟨d, hx, hy, hc, hd⟩
  · have e1 : v = .ref a := rx
    have e2 : u = .ref a := ry
    rw [e1, e2]
    exact .same _
  · obtain ⟨_, r1⟩ := Dp.reads I d x v hx rx
    obtain ⟨_, r2⟩ := Dp.reads I d y u hy ry
    have h := SeqAt.eqAt_reads d d A s v u _ _ r1 r2 hc hc (by rw [Nat.min_self]; omega)
    rwa [SeqAt.eqv_refl d hc] at h
theorem pairs_at {A : Around} {F : V → V → Prop} (ih : ∀ x y v u, F x y → RelV x v → RelV y u → SeqAt.EqAt A s v u true) : ∀ {xs ys : List V} {us ws : List Value}, Paired F xs ys → Vals xs us → Vals ys ws → us.length = ws.length ∧ ∀ (j : Nat) (a b : Value), us[j]? = some a → ws[j]? = some b → SeqAt.EqAt A s a b true
  | _, _, _, _, .nil, .nil, .nil => ⟨rfl, fun j a b h => by simp at h⟩
  | _, _, _, _, .cons h t, .cons r1 q1, .cons r2 q2 => by
    obtain ⟨hl, hi⟩ := pairs_at ih t q1 q2
    refine ⟨by simp [hl], fun j a b h1 h2 => ?_⟩
    cases j with
    | zero =>
      obtain rfl := Option.some.inj h1
      obtain rfl := Option.some.inj h2
      exact ih _ _ _ _ h r1 r2
    | succ j => exact hi j a b h1 h2
theorem all_yes (n : Nat) : ((List.range n).all fun _ => true) = true := List.all_eq_true.mpr fun _ _ => rfl
theorem eqT_at (I : Inv X pins σ H s) {A : Around} (hu : A.units + 9 < cLine) {x y : V} {v u : Value} (h : EqT X.K H x y) (rx : RelV x v) (ry : RelV y u) : SeqAt.EqAt A s v u true := by
  obtain ⟨a, b, xs, ys, rfl, rfl, ha, hb, hp⟩ := h
  have e1 : v = .ref a := rx
  have e2 : u = .ref b := ry
  rw [e1, e2]
  by_cases e : a = b
  · rw [e]; exact .same _
  obtain ⟨us, q1, p1, _⟩ := I.tuple ha
  obtain ⟨ws, q2, p2, _⟩ := I.tuple hb
  obtain ⟨hl, hi⟩ := pairs_at (A := A.in1) (fun x y v u h r1 r2 => eqI_at I (A := A.in1) (by show A.units + 1 + 8 < cLine; omega) h r1 r2) hp q1 q2
  have hr := SeqAt.RcAt.tuples (e := fun _ => true) p1 p2 (by omega : A.units < cLine) fun j h1 h2 => hi j _ _ (by simp) (by simp)
  have ee : ((List.range (min us.toArray.size ws.toArray.size)).all (fun _ => true) && us.toArray.size == ws.toArray.size) = true := by
    rw [all_yes, List.size_toArray, List.size_toArray, hl]; simp
  rw [ee] at hr
  exact .of_refs e hr
/-- x != y: two lists that are alike -/
def rNeO (K : PySem.W.Frag) : R2 := fun x y H Q => ∃ a b xs ys, x = .ref a ∧ y = .ref b ∧ SqL K H a xs ∧ SqL K H b ys ∧ Paired (fun p q => EqI K H p q ∨ EqT K H p q) xs ys ∧ Q (.bl false) H
theorem op_neO (hu : X.A.units + 64 < cLine) : OpR X (compareOp .NotEq) (rNeO X.K) := by
  intro pins s σ H x y v u Q I rx ry h
  obtain ⟨a, b, xs, ys, rfl, rfl, ha, hb, hp, q⟩ := h
  have e1 : v = .ref a := rx
  have e2 : u = .ref b := ry
  rw [e1, e2]
  obtain ⟨us, q1, p1, _⟩ := I.list ha
  obtain ⟨ws, q2, p2, _⟩ := I.list hb
  obtain ⟨hl, hi⟩ := pairs_at (A := X.A.in1) (fun x y v u h r1 r2 => h.elim (fun h => eqI_at I (A := X.A.in1) (by show X.A.units + 1 + 8 < cLine; omega) h r1 r2) fun h => eqT_at I (A := X.A.in1) (by show X.A.units + 1 + 9 < cLine; omega) h r1 r2) hp q1 q2
  have hr := SeqAt.RcNeAt.lists (e := fun _ => true) p1.isList p2.isList (by rw [List.size_toArray, List.size_toArray, hl]) (by omega : X.A.units < cLine) fun j h1 h2 => hi j _ _ (by simp) (by simp)
  rw [all_yes] at hr
  exact hr X.prog X.w _ _ ⟨.bl false, H, I, rfl, q⟩
theorem neOK {K : PySem.W.Frag} (hu : X.A.units + 64 < cLine) (h : X.K = K := by rfl) : OpR X (compareOp .NotEq) (rNeO K) := by subst h; exact op_neO hu
/-- x == []: a list of anything -/
def rEqE (K : PySem.W.Frag) : R2 := fun x y H Q => ∃ a b xs, x = .ref a ∧ y = .ref b ∧ SqL K H a xs ∧ SqL K H b [] ∧ Q (.bl xs.isEmpty) H
theorem op_eqE (hu : X.A.units + 64 < cLine) : OpR X (compareOp .Eq) (rEqE X.K) := by
  intro pins s σ H x y v u Q I rx ry h
  obtain ⟨a, b, xs, rfl, rfl, ha, hb, q⟩ := h
  have e1 : v = .ref a := rx
  have e2 : u = .ref b := ry
  rw [e1, e2]
  obtain ⟨us, q1, p1, _⟩ := I.list ha
  obtain ⟨ws, q2, p2, _⟩ := I.list hb
  cases q2
  cases q1 with
  | nil =>
    have hr := SeqAt.RcAt.lists (A := X.A) (s := s) (e := fun _ => true) p1.isList p2.isList rfl (by omega : X.A.units < cLine) fun j h1 h2 => absurd h1 (by simp)
    exact hr X.prog X.w _ _ ⟨.bl true, H, I, rfl, q⟩
  | cons r rr =>
    have hr := SeqAt.RcAt.lists_lengths (A := X.A) (s := s) p1.isList p2.isList (by simp) (by omega : X.A.units < cLine)
    exact hr X.prog X.w _ _ ⟨.bl false, H, I, rfl, q⟩
theorem eqEK {K : PySem.W.Frag} (hu : X.A.units + 64 < cLine) (h : X.K = K := by rfl) : OpR X (compareOp .Eq) (rEqE K) := by subst h; exact op_eqE hu
end
end DP
namespace KA
open PySem PySem.Spec PyProof.Rows L2 DP
def top (i : Nat) : Stmt := PySem.Challenge.pw_darkpace_k38_uses_by_all_hands.main.body.getD i (.Pass ⟨0, 0, 0, 0⟩)
abbrev slaw_deck : Stmt := top 26
abbrev N_law_deck : List Str := ["script", "great", "fold", "cell"]
abbrev P_law_deck : List Str := ["script"]
theorem sclaw_deck : FnScope N_law_deck P_law_deck (defScope slaw_deck) := ⟨rfl, rfl, rfl, by decide +kernel, rfl, by decide +kernel, by decide +kernel⟩
abbrev slaw_take : Stmt := top 27
abbrev N_law_take : List Str := ["deck", "many", "drawn", "k", "mixed"]
abbrev P_law_take : List Str := ["deck", "many"]
theorem sclaw_take : FnScope N_law_take P_law_take (defScope slaw_take) := ⟨rfl, rfl, rfl, by decide +kernel, rfl, by decide +kernel, by decide +kernel⟩
abbrev slaw_below : Stmt := top 28
abbrev N_law_below : List Str := ["deck", "many", "found", "left"]
abbrev P_law_below : List Str := ["deck", "many"]
theorem sclaw_below : FnScope N_law_below P_law_below (defScope slaw_below) := ⟨rfl, rfl, rfl, by decide +kernel, rfl, by decide +kernel, by decide +kernel⟩
abbrev slaw_hidden : Stmt := top 30
abbrev N_law_hidden : List Str := ["deck", "wide", "many", "spots", "k", "begun", "ends", "spot"]
abbrev P_law_hidden : List Str := ["deck", "wide", "many"]
theorem sclaw_hidden : FnScope N_law_hidden P_law_hidden (defScope slaw_hidden) := ⟨rfl, rfl, rfl, by decide +kernel, rfl, by decide +kernel, by decide +kernel⟩
abbrev slaw_looks : Stmt := top 31
abbrev N_law_looks : List Str := ["deck", "wide", "pairs", "found", "spot", "there", "way", "short", "more", "turn"]
abbrev P_law_looks : List Str := ["deck", "wide", "pairs"]
theorem sclaw_looks : FnScope N_law_looks P_law_looks (defScope slaw_looks) := ⟨rfl, rfl, rfl, by decide +kernel, rfl, by decide +kernel, by decide +kernel⟩
abbrev slaw_dark : Stmt := top 32
abbrev N_law_dark : List Str := ["deck", "wide", "some", "dark", "word", "spot", "there", "turns"]
abbrev P_law_dark : List Str := ["deck", "wide", "some"]
theorem sclaw_dark : FnScope N_law_dark P_law_dark (defScope slaw_dark) := ⟨rfl, rfl, rfl, by decide +kernel, rfl, by decide +kernel, by decide +kernel⟩
abbrev slaw_tables : Stmt := top 33
abbrev N_law_tables : List Str := ["wide", "first", "last", "found", "worth", "k", "longer", "row"]
abbrev P_law_tables : List Str := ["wide", "first", "last"]
theorem sclaw_tables : FnScope N_law_tables P_law_tables (defScope slaw_tables) := ⟨rfl, rfl, rfl, by decide +kernel, rfl, by decide +kernel, by decide +kernel⟩
abbrev slaw_led : Stmt := top 34
abbrev N_law_led : List Str := ["row", "spot"]
abbrev P_law_led : List Str := ["row", "spot"]
theorem sclaw_led : FnScope N_law_led P_law_led (defScope slaw_led) := ⟨rfl, rfl, rfl, by decide +kernel, rfl, by decide +kernel, by decide +kernel⟩
abbrev slaw_is_so : Stmt := top 35
abbrev N_law_is_so : List Str := ["row", "look", "word", "spot", "there"]
abbrev P_law_is_so : List Str := ["row", "look"]
theorem sclaw_is_so : FnScope N_law_is_so P_law_is_so (defScope slaw_is_so) := ⟨rfl, rfl, rfl, by decide +kernel, rfl, by decide +kernel, by decide +kernel⟩
abbrev slaw_gone : Stmt := top 36
abbrev N_law_gone : List Str := ["rows", "line", "spot", "many", "k"]
abbrev P_law_gone : List Str := ["rows", "line", "spot", "many"]
theorem sclaw_gone : FnScope N_law_gone P_law_gone (defScope slaw_gone) := ⟨rfl, rfl, rfl, by decide +kernel, rfl, by decide +kernel, by decide +kernel⟩
abbrev slaw_pairs : Stmt := top 37
abbrev N_law_pairs : List Str := ["every", "line", "row", "found", "other"]
abbrev P_law_pairs : List Str := ["every", "line"]
theorem sclaw_pairs : FnScope N_law_pairs P_law_pairs (defScope slaw_pairs) := ⟨rfl, rfl, rfl, by decide +kernel, rfl, by decide +kernel, by decide +kernel⟩
abbrev slaw_reached : Stmt := top 38
abbrev N_law_reached : List Str := ["chosen", "lots", "line", "spot", "goal", "many", "is_all", "barred", "k", "look", "ends", "rows"]
abbrev P_law_reached : List Str := ["chosen", "lots", "line", "spot", "goal", "many", "is_all"]
theorem sclaw_reached : FnScope N_law_reached P_law_reached (defScope slaw_reached) := ⟨rfl, rfl, rfl, by decide +kernel, rfl, by decide +kernel, by decide +kernel⟩
abbrev slaw_right : Stmt := top 39
abbrev N_law_right : List Str := ["told", "due"]
abbrev P_law_right : List Str := ["told", "due"]
theorem sclaw_right : FnScope N_law_right P_law_right (defScope slaw_right) := ⟨rfl, rfl, rfl, by decide +kernel, rfl, by decide +kernel, by decide +kernel⟩
abbrev sside_looks : Stmt := top 11
abbrev N_side_looks : List Str := ["looks", "side", "words", "look"]
abbrev P_side_looks : List Str := ["looks", "side"]
theorem scside_looks : FnScope N_side_looks P_side_looks (defScope sside_looks) := ⟨rfl, rfl, rfl, by decide +kernel, rfl, by decide +kernel, by decide +kernel⟩
abbrev sround_looks : Stmt := top 12
abbrev N_round_looks : List Str := ["hands", "side", "hand"]
abbrev P_round_looks : List Str := ["hands", "side"]
theorem scround_looks : FnScope N_round_looks P_round_looks (defScope sround_looks) := ⟨rfl, rfl, rfl, by decide +kernel, rfl, by decide +kernel, by decide +kernel⟩
abbrev splace_by : Stmt := top 13
abbrev N_place_by : List Str := ["look", "side", "x", "length", "_", "start", "end"]
abbrev P_place_by : List Str := ["look", "side", "x", "length"]
theorem scplace_by : FnScope N_place_by P_place_by (defScope splace_by) := ⟨rfl, rfl, rfl, by decide +kernel, rfl, by decide +kernel, by decide +kernel⟩
abbrev sbest_step : Stmt := top 14
abbrev N_best_step : List Str := ["looks", "side", "x", "length", "steps", "look"]
abbrev P_best_step : List Str := ["looks", "side", "x", "length"]
theorem scbest_step : FnScope N_best_step P_best_step (defScope sbest_step) := ⟨rfl, rfl, rfl, by decide +kernel, rfl, by decide +kernel, by decide +kernel⟩
abbrev sWalk_init : Stmt := inClass (top 15) 0
abbrev N_Walk_init : List Str := ["self", "hands", "side", "x"]
abbrev P_Walk_init : List Str := ["self", "hands", "side", "x"]
theorem scWalk_init : FnScope N_Walk_init P_Walk_init (defScope sWalk_init) := ⟨rfl, rfl, rfl, by decide +kernel, rfl, by decide +kernel, by decide +kernel⟩
abbrev sWalkfollow : Stmt := inClass (top 15) 1
abbrev N_Walkfollow : List Str := ["self", "length", "known", "side", "seen", "uses", "number", "mark", "place", "look"]
abbrev P_Walkfollow : List Str := ["self", "length", "known", "side"]
theorem scWalkfollow : FnScope N_Walkfollow P_Walkfollow (defScope sWalkfollow) := ⟨rfl, rfl, rfl, by decide +kernel, rfl, by decide +kernel, by decide +kernel⟩
abbrev sWalk_period : Stmt := inClass (top 15) 2
abbrev N_Walk_period : List Str := ["self"]
abbrev P_Walk_period : List Str := ["self"]
theorem scWalk_period : FnScope N_Walk_period P_Walk_period (defScope sWalk_period) := ⟨rfl, rfl, rfl, by decide +kernel, rfl, by decide +kernel, by decide +kernel⟩
abbrev sWalk_climb : Stmt := inClass (top 15) 3
abbrev N_Walk_climb : List Str := ["self"]
abbrev P_Walk_climb : List Str := ["self"]
theorem scWalk_climb : FnScope N_Walk_climb P_Walk_climb (defScope sWalk_climb) := ⟨rfl, rfl, rfl, by decide +kernel, rfl, by decide +kernel, by decide +kernel⟩
abbrev sWalk_behind : Stmt := inClass (top 15) 4
abbrev N_Walk_behind : List Str := ["self", "uses", "times", "rest"]
abbrev P_Walk_behind : List Str := ["self", "uses"]
theorem scWalk_behind : FnScope N_Walk_behind P_Walk_behind (defScope sWalk_behind) := ⟨rfl, rfl, rfl, by decide +kernel, rfl, by decide +kernel, by decide +kernel⟩
abbrev sWalk_reach : Stmt := inClass (top 15) 5
abbrev N_Walk_reach : List Str := ["self", "y", "uses", "place", "lap", "times", "goal", "far_enough", "at"]
abbrev P_Walk_reach : List Str := ["self", "y"]
theorem scWalk_reach : FnScope N_Walk_reach P_Walk_reach (defScope sWalk_reach) := ⟨rfl, rfl, rfl, by decide +kernel, rfl, by decide +kernel, by decide +kernel⟩
abbrev scheck_round : Stmt := top 17
abbrev N_check_round : List Str := ["hands", "length", "number", "hand"]
abbrev P_check_round : List Str := ["hands"]
theorem sccheck_round : FnScope N_check_round P_check_round (defScope scheck_round) := ⟨rfl, rfl, rfl, by decide +kernel, rfl, by decide +kernel, by decide +kernel⟩
abbrev sfewest_uses : Stmt := top 18
abbrev N_fewest_uses : List Str := ["hands", "x", "y", "walk", "uses"]
abbrev P_fewest_uses : List Str := ["hands", "x", "y"]
theorem scfewest_uses : FnScope N_fewest_uses P_fewest_uses (defScope sfewest_uses) := ⟨rfl, rfl, rfl, by decide +kernel, rfl, by decide +kernel, by decide +kernel⟩
abbrev smost_uses : Stmt := top 19
abbrev N_most_uses : List Str := ["hands", "x", "y"]
abbrev P_most_uses : List Str := ["hands", "x", "y"]
theorem scmost_uses : FnScope N_most_uses P_most_uses (defScope smost_uses) := ⟨rfl, rfl, rfl, by decide +kernel, rfl, by decide +kernel, by decide +kernel⟩
abbrev stoo_far : Stmt := top 22
abbrev N_too_far : List Str := ["low", "high", "length"]
abbrev P_too_far : List Str := ["low", "high", "length"]
theorem sctoo_far : FnScope N_too_far P_too_far (defScope stoo_far) := ⟨rfl, rfl, rfl, by decide +kernel, rfl, by decide +kernel, by decide +kernel⟩
abbrev sclash : Stmt := top 23
abbrev N_clash : List Str := ["look", "other", "length"]
abbrev P_clash : List Str := ["look", "other", "length"]
theorem scclash : FnScope N_clash P_clash (defScope sclash) := ⟨rfl, rfl, rfl, by decide +kernel, rfl, by decide +kernel, by decide +kernel⟩
abbrev sDark_init : Stmt := inClass (top 24) 0
abbrev N_Dark_init : List Str := ["self", "length"]
abbrev P_Dark_init : List Str := ["self", "length"]
theorem scDark_init : FnScope N_Dark_init P_Dark_init (defScope sDark_init) := ⟨rfl, rfl, rfl, by decide +kernel, rfl, by decide +kernel, by decide +kernel⟩
abbrev sDark_length : Stmt := inClass (top 24) 3
abbrev N_Dark_length : List Str := ["self"]
abbrev P_Dark_length : List Str := ["self"]
theorem scDark_length : FnScope N_Dark_length P_Dark_length (defScope sDark_length) := ⟨rfl, rfl, rfl, by decide +kernel, rfl, by decide +kernel, by decide +kernel⟩
abbrev sDark_hear : Stmt := inClass (top 24) 4
abbrev N_Dark_hear : List Str := ["self", "word", "x", "y", "look", "other"]
abbrev P_Dark_hear : List Str := ["self", "word", "x", "y"]
theorem scDark_hear : FnScope N_Dark_hear P_Dark_hear (defScope sDark_hear) := ⟨rfl, rfl, rfl, by decide +kernel, rfl, by decide +kernel, by decide +kernel⟩
abbrev sDark_looks : Stmt := inClass (top 24) 6
abbrev N_Dark_looks : List Str := ["self"]
abbrev P_Dark_looks : List Str := ["self"]
theorem scDark_looks : FnScope N_Dark_looks P_Dark_looks (defScope sDark_looks) := ⟨rfl, rfl, rfl, by decide +kernel, rfl, by decide +kernel, by decide +kernel⟩
abbrev sDarkcheck_word : Stmt := inClass (top 24) 12
abbrev N_Darkcheck_word : List Str := ["self", "word"]
abbrev P_Darkcheck_word : List Str := ["self", "word"]
theorem scDarkcheck_word : FnScope N_Darkcheck_word P_Darkcheck_word (defScope sDarkcheck_word) := ⟨rfl, rfl, rfl, by decide +kernel, rfl, by decide +kernel, by decide +kernel⟩
abbrev sDarkhome : Stmt := inClass (top 24) 13
abbrev N_Darkhome : List Str := ["self", "word", "x", "y", "turns"]
abbrev P_Darkhome : List Str := ["self", "word", "x", "y"]
theorem scDarkhome : FnScope N_Darkhome P_Darkhome (defScope sDarkhome) := ⟨rfl, rfl, rfl, by decide +kernel, rfl, by decide +kernel, by decide +kernel⟩
abbrev sDarkclashing : Stmt := inClass (top 24) 14
abbrev N_Darkclashing : List Str := ["self", "look", "other"]
abbrev P_Darkclashing : List Str := ["self", "look"]
theorem scDarkclashing : FnScope N_Darkclashing P_Darkclashing (defScope sDarkclashing) := ⟨rfl, rfl, rfl, by decide +kernel, rfl, by decide +kernel, by decide +kernel⟩
abbrev slaw : Stmt := top 40
abbrev N_law : List Str := ["script", "deck", "lap", "line", "wide", "lots", "every", "k", "kept", "some", "rows", "row", "look", "darks", "chosen", "handed", "turn", "spot", "goal", "is_all", "due", "n", "told", "again", "dark"]
abbrev P_law : List Str := ["script"]
theorem sclaw : FnScope N_law P_law (defScope slaw) := ⟨rfl, rfl, rfl, by decide +kernel, rfl, by decide +kernel, by decide +kernel⟩
structure Ad where
  C : Addr
  C_Walk : Addr
  a_law_deck : Addr
  d_law_deck : FuncData
  a_law_take : Addr
  d_law_take : FuncData
  a_law_below : Addr
  d_law_below : FuncData
  a_law_hidden : Addr
  d_law_hidden : FuncData
  a_law_looks : Addr
  d_law_looks : FuncData
  a_law_dark : Addr
  d_law_dark : FuncData
  a_law_tables : Addr
  d_law_tables : FuncData
  a_law_led : Addr
  d_law_led : FuncData
  a_law_is_so : Addr
  d_law_is_so : FuncData
  a_law_gone : Addr
  d_law_gone : FuncData
  a_law_pairs : Addr
  d_law_pairs : FuncData
  a_law_reached : Addr
  d_law_reached : FuncData
  a_law_right : Addr
  d_law_right : FuncData
  a_side_looks : Addr
  d_side_looks : FuncData
  a_round_looks : Addr
  d_round_looks : FuncData
  a_place_by : Addr
  d_place_by : FuncData
  a_best_step : Addr
  d_best_step : FuncData
  a_Walk_init : Addr
  d_Walk_init : FuncData
  a_Walkfollow : Addr
  d_Walkfollow : FuncData
  a_Walk_period : Addr
  d_Walk_period : FuncData
  a_Walk_climb : Addr
  d_Walk_climb : FuncData
  a_Walk_behind : Addr
  d_Walk_behind : FuncData
  a_Walk_reach : Addr
  d_Walk_reach : FuncData
  a_check_round : Addr
  d_check_round : FuncData
  a_fewest_uses : Addr
  d_fewest_uses : FuncData
  a_most_uses : Addr
  d_most_uses : FuncData
  a_too_far : Addr
  d_too_far : FuncData
  a_clash : Addr
  d_clash : FuncData
  a_Dark_init : Addr
  d_Dark_init : FuncData
  a_Dark_length : Addr
  d_Dark_length : FuncData
  a_Dark_hear : Addr
  d_Dark_hear : FuncData
  a_Dark_looks : Addr
  d_Dark_looks : FuncData
  a_Darkcheck_word : Addr
  d_Darkcheck_word : FuncData
  a_Darkhome : Addr
  d_Darkhome : FuncData
  a_Darkclashing : Addr
  d_Darkclashing : FuncData
  a_law : Addr
  d_law : FuncData
  v_SLOW : Value
  v_FAST : Value
  a_WORDS : Addr
  a_LW : Addr
  t_slow : Addr
  t_fast : Addr
structure Tx (K : PySem.W.Frag) (w : World) (mg : Str → Option Value) (Z : Ad) : Prop where
  F_law_deck : Fun K "_law_deck" "_law_deck" slaw_deck Z.a_law_deck Z.d_law_deck
  bb_law_deck : Binds K Z.d_law_deck P_law_deck []
  g_law_deck : mg "_law_deck" = some (.ref Z.a_law_deck)
  F_law_take : Fun K "_law_take" "_law_take" slaw_take Z.a_law_take Z.d_law_take
  bb_law_take : Binds K Z.d_law_take P_law_take []
  g_law_take : mg "_law_take" = some (.ref Z.a_law_take)
  F_law_below : Fun K "_law_below" "_law_below" slaw_below Z.a_law_below Z.d_law_below
  bb_law_below : Binds K Z.d_law_below P_law_below []
  g_law_below : mg "_law_below" = some (.ref Z.a_law_below)
  F_law_hidden : Fun K "_law_hidden" "_law_hidden" slaw_hidden Z.a_law_hidden Z.d_law_hidden
  bb_law_hidden : Binds K Z.d_law_hidden P_law_hidden []
  g_law_hidden : mg "_law_hidden" = some (.ref Z.a_law_hidden)
  F_law_looks : Fun K "_law_looks" "_law_looks" slaw_looks Z.a_law_looks Z.d_law_looks
  bb_law_looks : Binds K Z.d_law_looks P_law_looks []
  g_law_looks : mg "_law_looks" = some (.ref Z.a_law_looks)
  F_law_dark : Fun K "_law_dark" "_law_dark" slaw_dark Z.a_law_dark Z.d_law_dark
  bb_law_dark : Binds K Z.d_law_dark P_law_dark []
  g_law_dark : mg "_law_dark" = some (.ref Z.a_law_dark)
  F_law_tables : Fun K "_law_tables" "_law_tables" slaw_tables Z.a_law_tables Z.d_law_tables
  bb_law_tables : Binds K Z.d_law_tables P_law_tables []
  g_law_tables : mg "_law_tables" = some (.ref Z.a_law_tables)
  F_law_led : Fun K "_law_led" "_law_led" slaw_led Z.a_law_led Z.d_law_led
  bb_law_led : Binds K Z.d_law_led P_law_led []
  g_law_led : mg "_law_led" = some (.ref Z.a_law_led)
  F_law_is_so : Fun K "_law_is_so" "_law_is_so" slaw_is_so Z.a_law_is_so Z.d_law_is_so
  bb_law_is_so : Binds K Z.d_law_is_so P_law_is_so []
  g_law_is_so : mg "_law_is_so" = some (.ref Z.a_law_is_so)
  F_law_gone : Fun K "_law_gone" "_law_gone" slaw_gone Z.a_law_gone Z.d_law_gone
  bb_law_gone : Binds K Z.d_law_gone P_law_gone []
  g_law_gone : mg "_law_gone" = some (.ref Z.a_law_gone)
  F_law_pairs : Fun K "_law_pairs" "_law_pairs" slaw_pairs Z.a_law_pairs Z.d_law_pairs
  bb_law_pairs : Binds K Z.d_law_pairs P_law_pairs []
  g_law_pairs : mg "_law_pairs" = some (.ref Z.a_law_pairs)
  F_law_reached : Fun K "_law_reached" "_law_reached" slaw_reached Z.a_law_reached Z.d_law_reached
  bb_law_reached : Binds K Z.d_law_reached P_law_reached []
  g_law_reached : mg "_law_reached" = some (.ref Z.a_law_reached)
  F_law_right : Fun K "_law_right" "_law_right" slaw_right Z.a_law_right Z.d_law_right
  bb_law_right : Binds K Z.d_law_right P_law_right []
  g_law_right : mg "_law_right" = some (.ref Z.a_law_right)
  F_side_looks : Fun K "side_looks" "side_looks" sside_looks Z.a_side_looks Z.d_side_looks
  bb_side_looks : Binds K Z.d_side_looks P_side_looks []
  g_side_looks : mg "side_looks" = some (.ref Z.a_side_looks)
  F_round_looks : Fun K "round_looks" "round_looks" sround_looks Z.a_round_looks Z.d_round_looks
  bb_round_looks : Binds K Z.d_round_looks P_round_looks []
  g_round_looks : mg "round_looks" = some (.ref Z.a_round_looks)
  F_place_by : Fun K "place_by" "place_by" splace_by Z.a_place_by Z.d_place_by
  bb_place_by : Binds K Z.d_place_by P_place_by []
  g_place_by : mg "place_by" = some (.ref Z.a_place_by)
  F_best_step : Fun K "best_step" "best_step" sbest_step Z.a_best_step Z.d_best_step
  bb_best_step : Binds K Z.d_best_step P_best_step []
  g_best_step : mg "best_step" = some (.ref Z.a_best_step)
  F_Walk_init : Fun K "__init__" "Walk.__init__" sWalk_init Z.a_Walk_init Z.d_Walk_init
  bb_Walk_init : Binds K Z.d_Walk_init P_Walk_init []
  F_Walkfollow : Fun K "_follow" "Walk._follow" sWalkfollow Z.a_Walkfollow Z.d_Walkfollow
  bb_Walkfollow : Binds K Z.d_Walkfollow P_Walkfollow []
  m_Walkfollow : Meth K Z.C_Walk "_follow" Z.a_Walkfollow
  F_Walk_period : Fun K "period" "Walk.period" sWalk_period Z.a_Walk_period Z.d_Walk_period
  bb_Walk_period : Binds K Z.d_Walk_period P_Walk_period []
  m_Walk_period : Meth K Z.C_Walk "period" Z.a_Walk_period
  F_Walk_climb : Fun K "climb" "Walk.climb" sWalk_climb Z.a_Walk_climb Z.d_Walk_climb
  bb_Walk_climb : Binds K Z.d_Walk_climb P_Walk_climb []
  m_Walk_climb : Meth K Z.C_Walk "climb" Z.a_Walk_climb
  F_Walk_behind : Fun K "behind" "Walk.behind" sWalk_behind Z.a_Walk_behind Z.d_Walk_behind
  bb_Walk_behind : Binds K Z.d_Walk_behind P_Walk_behind []
  m_Walk_behind : Meth K Z.C_Walk "behind" Z.a_Walk_behind
  F_Walk_reach : Fun K "reach" "Walk.reach" sWalk_reach Z.a_Walk_reach Z.d_Walk_reach
  bb_Walk_reach : Binds K Z.d_Walk_reach P_Walk_reach []
  m_Walk_reach : Meth K Z.C_Walk "reach" Z.a_Walk_reach
  F_check_round : Fun K "check_round" "check_round" scheck_round Z.a_check_round Z.d_check_round
  bb_check_round : Binds K Z.d_check_round P_check_round []
  g_check_round : mg "check_round" = some (.ref Z.a_check_round)
  F_fewest_uses : Fun K "fewest_uses" "fewest_uses" sfewest_uses Z.a_fewest_uses Z.d_fewest_uses
  bb_fewest_uses : Binds K Z.d_fewest_uses P_fewest_uses []
  g_fewest_uses : mg "fewest_uses" = some (.ref Z.a_fewest_uses)
  F_most_uses : Fun K "most_uses" "most_uses" smost_uses Z.a_most_uses Z.d_most_uses
  bb_most_uses : Binds K Z.d_most_uses P_most_uses []
  g_most_uses : mg "most_uses" = some (.ref Z.a_most_uses)
  F_too_far : Fun K "too_far" "too_far" stoo_far Z.a_too_far Z.d_too_far
  bb_too_far : Binds K Z.d_too_far P_too_far []
  g_too_far : mg "too_far" = some (.ref Z.a_too_far)
  F_clash : Fun K "clash" "clash" sclash Z.a_clash Z.d_clash
  bb_clash : Binds K Z.d_clash P_clash []
  g_clash : mg "clash" = some (.ref Z.a_clash)
  F_Dark_init : Fun K "__init__" "Dark.__init__" sDark_init Z.a_Dark_init Z.d_Dark_init
  bb_Dark_init : Binds K Z.d_Dark_init P_Dark_init []
  F_Dark_length : Fun K "length" "Dark.length" sDark_length Z.a_Dark_length Z.d_Dark_length
  bb_Dark_length : Binds K Z.d_Dark_length P_Dark_length []
  m_Dark_length : Meth K Z.C "length" Z.a_Dark_length
  F_Dark_hear : Fun K "hear" "Dark.hear" sDark_hear Z.a_Dark_hear Z.d_Dark_hear
  bb_Dark_hear : Binds K Z.d_Dark_hear P_Dark_hear []
  m_Dark_hear : Meth K Z.C "hear" Z.a_Dark_hear
  F_Dark_looks : Fun K "looks" "Dark.looks" sDark_looks Z.a_Dark_looks Z.d_Dark_looks
  bb_Dark_looks : Binds K Z.d_Dark_looks P_Dark_looks []
  m_Dark_looks : Meth K Z.C "looks" Z.a_Dark_looks
  F_Darkcheck_word : Fun K "_check_word" "Dark._check_word" sDarkcheck_word Z.a_Darkcheck_word Z.d_Darkcheck_word
  bb_Darkcheck_word : Binds K Z.d_Darkcheck_word P_Darkcheck_word []
  m_Darkcheck_word : Meth K Z.C "_check_word" Z.a_Darkcheck_word
  F_Darkhome : Fun K "_home" "Dark._home" sDarkhome Z.a_Darkhome Z.d_Darkhome
  bb_Darkhome : Binds K Z.d_Darkhome P_Darkhome []
  m_Darkhome : Meth K Z.C "_home" Z.a_Darkhome
  F_Darkclashing : Fun K "_clashing" "Dark._clashing" sDarkclashing Z.a_Darkclashing Z.d_Darkclashing
  bb_Darkclashing : Binds K Z.d_Darkclashing P_Darkclashing []
  m_Darkclashing : Meth K Z.C "_clashing" Z.a_Darkclashing
  F_law : Fun K "law" "law" slaw Z.a_law Z.d_law
  bb_law : Binds K Z.d_law P_law []
  g_law : mg "law" = some (.ref Z.a_law)
  kn_most_uses_y_hands_x : KBn K Z.d_most_uses P_most_uses 0 ["y", "hands", "x"] (KW.gk [1, 2, 0] []) (KW.gk [1, 2, 0] [])
  kn_fewest_uses_y_x : KBn K Z.d_fewest_uses P_fewest_uses 1 ["y", "x"] (KW.gk [1, 0] []) (KW.gk [1, 0] [])
  cl : Cls K Z.C
  g_Dark : mg "Dark" = some (.ref Z.C)
  cl_Walk : Cls K Z.C_Walk
  g_Walk : mg "Walk" = some (.ref Z.C_Walk)
  mk_Walk : Mk K Z.C_Walk Z.a_Walk_init
  nWalk_places : NoAttr K Z.C_Walk "places"
  nWalk_told_by : NoAttr K Z.C_Walk "told_by"
  nWalk_start : NoAttr K Z.C_Walk "start"
  mk_Dark : Mk K Z.C Z.a_Dark_init
  n_length : NoAttr K Z.C "_length"
  n_looks : NoAttr K Z.C "_looks"
  b_max : mg "max" = none
  b_min : mg "min" = none
  b_len : mg "len" = none
  b_range : mg "range" = none
  b_sorted : mg "sorted" = none
  b_set : mg "set" = none
  b_abs : mg "abs" = none
  b_int : mg "int" = none
  b_enumerate : mg "enumerate" = none
  b_divmod : mg "divmod" = none
  b_list : mg "list" = none
  b_all : mg "all" = none
  b_any : mg "any" = none
  b_isinstance : mg "isinstance" = none
  b_bool : mg "bool" = none
  g_SLOW : mg "SLOW" = some Z.v_SLOW
  r_SLOW : RelV (.str "slow") Z.v_SLOW
  g_FAST : mg "FAST" = some Z.v_FAST
  r_FAST : RelV (.str "fast") Z.v_FAST
  g_WORDS : mg "WORDS" = some (.ref Z.a_WORDS)
  kd_WORDS : ∃ es n, KDict K w Z.a_WORDS es n
  w_slow : PySem.W.nsIn K Z.a_WORDS "slow" = some (some (.ref Z.t_slow))
  w_fast : PySem.W.nsIn K Z.a_WORDS "fast" = some (some (.ref Z.t_fast))
  q_slow : ∀ H, SqT K H Z.t_slow [.str "at", .str "from"]
  q_fast : ∀ H, SqT K H Z.t_fast [.str "at", .str "upto"]
  g_LOOK_WORDS : mg "LOOK_WORDS" = some (.ref Z.a_LW)
  q_LW : ∀ H, SqT K H Z.a_LW [.str "at", .str "from", .str "upto"]
end KA
/-! Looks in plain Lean. -/
namespace KA
open PySem PySem.Spec PyProof.Rows L2 DP
/-- a look: word, x, y -/
abbrev Lk := Str × Int × Int
def encL (l : Lk) : PyData := .tuple [.str l.1, .int l.2.1, .int l.2.2]
def WordOk (x : Str) : Prop := x = "at" ∨ x = "from" ∨ x = "upto"
def SideOk (x : Str) : Prop := x = "slow" ∨ x = "fast"
/-- the words of a side, by truth -/
def onSide (sd x : Str) : Bool := if sd = "slow" then (decide (x = "at") || decide (x = "from")) else (decide (x = "at") || decide (x = "upto"))
/-- where a look alone tells that x is led -/
def plc (sd : Str) (l : Lk) (x L : Int) : Int := if sd = "slow" then l.2.2 + (x - l.2.1) / L * L else l.2.2 - (l.2.1 - x) / L * L
def Sized (n : Nat) (l : Lk) : Prop := l.2.1.natAbs < 2 ^ n ∧ l.2.2.natAbs < 2 ^ n
theorem slow_ne : ¬ (("fast" : Str) = "slow") := by decide +kernel
theorem plc_slow (l : Lk) (x L : Int) : plc "slow" l x L = l.2.2 + (x - l.2.1) / L * L := if_pos rfl
theorem plc_fast (l : Lk) (x L : Int) : plc "fast" l x L = l.2.2 - (l.2.1 - x) / L * L := if_neg slow_ne
def tooFar (a b : Lk) (L : Int) : Bool := onSide "slow" a.1 && onSide "fast" b.1 && decide (b.2.2 < plc "slow" a b.2.1 L)
def clashB (a b : Lk) (L : Int) : Bool := tooFar a b L || tooFar b a L
/-- brought home -/
def home (L : Int) (l : Lk) : Lk := (l.1, l.2.1 - l.2.1 / L * L, l.2.2 - l.2.1 / L * L)
theorem nat_div {a L : Int} (h : 0 < L) : (a / L).natAbs ≤ a.natAbs + 1 := Nat.le_succ_of_le (Int.natAbs_ediv_le_natAbs a L)
theorem sub_lt {a b : Int} {n : Nat} (ha : a.natAbs < 2 ^ n) (hb : b.natAbs < 2 ^ n) : (a - b).natAbs < 2 ^ (n + 1) := by
  rw [Nat.pow_succ]; omega
theorem add_lt {a b : Int} {n : Nat} (ha : a.natAbs < 2 ^ n) (hb : b.natAbs < 2 ^ n) : (a + b).natAbs < 2 ^ (n + 1) := by
  rw [Nat.pow_succ]; omega
theorem div_lt {a L : Int} {n : Nat} (h : 0 < L) (ha : a.natAbs < 2 ^ n) : (a / L).natAbs < 2 ^ (n + 1) := by
  have := nat_div (a := a) h
  have h1 : 1 ≤ 2 ^ n := Nat.one_le_two_pow
  rw [Nat.pow_succ]; omega
theorem lt_up {a : Int} {m n : Nat} (ha : a.natAbs < 2 ^ m) (h : m ≤ n) : a.natAbs < 2 ^ n := Nat.lt_of_lt_of_le ha (Nat.pow_le_pow_right (by decide) h)
section
variable {K : PySem.W.Frag} {H : Hp}
theorem dp_look {v : V} {l : Lk} (h : Dp K H v (encL l)) : ∃ a, v = .ref a ∧ SqT K H a [.str l.1, .int l.2.1, .int l.2.2] := by
  have h' : Dp K H v (.tuple [.str l.1, .int l.2.1, .int l.2.2]) := h
  cases h' with
  | tup s a =>
    cases a with
    | cons a1 a =>
      cases a with
      | cons a2 a =>
        cases a with
        | cons a3 a =>
          cases a; cases a1; cases a2; cases a3
          exact ⟨_, rfl, s⟩
theorem dp_list {v : V} {ds : List PyData} (h : Dp K H v (.list ds)) : ∃ a xs, v = .ref a ∧ SqL K H a xs ∧ DpAll K H xs ds := by
  cases h with
  | lst s a => exact ⟨_, _, rfl, s, a⟩
end
theorem decl_words {x : Str} (h : WordOk x) : inV (.str x) [.str "at", .str "from"] = onSide "slow" x ∧ inV (.str x) [.str "at", .str "upto"] = onSide "fast" x ∧ inV (.str x) [.str "at", .str "from", .str "upto"] = true := by
  rcases h with e | e | e <;> subst e <;> decide +kernel
theorem yes_ite {σ : L2.St} {H : Hp} {A B : Hp → Prop} (h : A H) : tYes σ H (fun b H3 => if b = true then A H3 else B H3) := by
  show (if true = true then A H else B H)
  rw [if_pos rfl]
  exact h
/-- data without lists: tuples, numbers, texts -/
def noL : PyData → Bool
  | .list _ => false
  | .dict _ => false
  | .tuple xs => noLs xs
  | _ => true
where noLs : List PyData → Bool
  | [] => true
  | x :: xs => noL x && noLs xs
/-- tuples stand -/
def Tups (H H' : Hp) : Prop := ∀ b xs, Rd H b (.tup xs) → Rd H' b (.tup xs)
theorem Tups.of_same {H H' : Hp} (S : Same H H') : Tups H H' := fun _ _ h => DP.Same.rd S h
theorem Tups.upd_lst {H : Hp} {D : Addr} {ys : List V} {o : HO} (h : H D = some (.lst ys)) : Tups H (upd H D o) := fun b xs hb => by
  have hn : b ≠ D := by
    rintro rfl
    rcases hb with e | ⟨q, e⟩ <;> rw [h] at e <;> cases e
  rcases hb with e | ⟨q, e⟩
  · exact .inl ((upd_ne hn).trans e)
  · exact .inr ⟨q, (upd_ne hn).trans e⟩
theorem Tups.upd_ins {H : Hp} {D C dx : Addr} {fs : List (Str × V)} {o : HO} (h : H D = some (.ins C dx fs)) : Tups H (upd H D o) := fun b xs hb => by
  have hn : b ≠ D := by
    rintro rfl
    rcases hb with e | ⟨q, e⟩ <;> rw [h] at e <;> cases e
  rcases hb with e | ⟨q, e⟩
  · exact .inl ((upd_ne hn).trans e)
  · exact .inr ⟨q, (upd_ne hn).trans e⟩
theorem Tups.trans {H H1 H2 : Hp} (a : Tups H H1) (b : Tups H1 H2) : Tups H H2 := fun c xs h => b c xs (a c xs h)
section
variable {K : PySem.W.Frag} {H H' : Hp}
mutual
theorem dp_tups (S : Tups H H') : ∀ (d : PyData) (v : V), noL d = true → Dp K H v d → Dp K H' v d
  | .none, _, _, h => by cases h; exact .non
  | .bool _, _, _, h => by cases h; exact .bl _
  | .int _, _, _, h => by cases h; exact .int _
  | .str _, _, _, h => by cases h; exact .str _
  | .list _, _, n, _ => by simp [noL] at n
  | .dict _, _, n, _ => by simp [noL] at n
  | .tuple ds, _, n, h => by
    cases h with
    | tup s a =>
      refine .tup ?_ (dpAll_tups S ds _ (by simpa [noL] using n) a)
      rcases s with s | s
      · exact .inl (S _ _ s)
      · exact .inr s
theorem dpAll_tups (S : Tups H H') : ∀ (ds : List PyData) (vs : List V), noL.noLs ds = true → DpAll K H vs ds → DpAll K H' vs ds
  | [], _, _, h => by cases h; exact .nil
  | d :: ds, _, n, h => by
    rw [noL.noLs, Bool.and_eq_true] at n
    cases h with
    | cons a b => exact .cons (dp_tups S d _ n.1 a) (dpAll_tups S ds _ n.2 b)
end
theorem noLs_map {β : Type} {enc : β → PyData} (h : ∀ b, noL (enc b) = true) : ∀ bs : List β, noL.noLs (bs.map enc) = true
  | [] => rfl
  | b :: bs => by
    show noL.noLs (enc b :: bs.map enc) = true
    rw [noL.noLs, h b, noLs_map h bs]; rfl
theorem noL_encL (l : Lk) : noL (encL l) = true := rfl
/-- one more at the list that a comprehension makes -/
theorem acc_step {D : Addr} {ys : List V} {ds : List PyData} {y : V} {d : PyData} (hD : H D = some (.lst ys)) (hn : noL.noLs ds = true) (hd : noL d = true) (h : DpAll K H ys ds) (hy : Dp K H y d) :
    DpAll K (upd H D (.lst (ys ++ [y]))) (ys ++ [y]) (ds ++ [d]) :=
  dpAll_snoc (dpAll_tups (Tups.upd_lst hD) _ _ hn h) (dp_tups (Tups.upd_lst hD) _ _ hd hy)
end
theorem same_set {H : Hp} {p : Addr} {o : HO} {H1 : Hp} (S : Same H H1) (hn : H p = none) : Same H (upd H1 p o) := fun b u e => by rw [upd_ne (ne_of_none e hn)]; exact S b u e
theorem take_snoc {α : Type} : ∀ {l : List α} {i : Nat} {x : α}, l[i]? = some x → l.take (i + 1) = l.take i ++ [x]
  | [], i, x, h => by simp at h
  | a :: l, 0, x, h => by
    have e : a = x := Option.some.inj h
    subst e
    rfl
  | a :: l, i + 1, x, h => by
    have ih := take_snoc (l := l) (i := i) (x := x) h
    show a :: l.take (i + 1) = a :: l.take i ++ [x]
    rw [ih]; rfl
theorem map_at {α β : Type} {f : α → β} {l : List α} {i : Nat} {y : β} (h : (l.map f)[i]? = some y) : ∃ x, l[i]? = some x ∧ y = f x := by
  rw [List.getElem?_map] at h
  cases e : l[i]? with
  | none => rw [e] at h; cases h
  | some x => rw [e] at h; exact ⟨x, rfl, (Option.some.inj h).symm⟩
end KA
namespace KA
open PySem PySem.Spec PyProof.Rows L2 DP
/-- no list of it is long -/
def fewD : PyData → Bool
  | .list xs => decide (xs.length ≤ 1000) && fewDs xs
  | .tuple xs => decide (xs.length ≤ 1000) && fewDs xs
  | _ => true
where fewDs : List PyData → Bool
  | [] => true
  | x :: xs => fewD x && fewDs xs
def tyName : PyData → String
  | .none => "NoneType"
  | .bool _ => "bool"
  | .int _ => "int"
  | .str _ => "str"
  | .list _ => "list"
  | .tuple _ => "tuple"
  | .dict _ => "dict"
theorem ty_of {K : PySem.W.Frag} {H : Hp} {v : V} {d : PyData} (h : Dp K H v d) : TyX K H v (.type (tyName d)) := by
  cases h with
  | non => exact .base .non
  | bl b => exact .base (.bl b)
  | int i => exact .base (.int i)
  | str x => exact .base (.str x)
  | lst s a =>
    rcases s with (s | ⟨o, s⟩) | ⟨o, its, n, e, c, _⟩
    · exact .base (.lst s)
    · exact .base (.frz s)
    · exact .kList e c
  | tup s a =>
    rcases s with (s | ⟨o, s⟩) | ⟨o, its, n, e, c, _⟩
    · exact .base (.tup s)
    · exact .fTuple s
    · exact .kTuple e c
theorem isi {K : PySem.W.Frag} {H : Hp} {v : V} {d : PyData} {C : String} {b : Bool} {Q : VK} (h : Dp K H v d) (hk : kitB (tyName d) C = some b) (q : Q (.bl b) H) : rIsi K [v, .ty C] H Q :=
  ⟨v, .ty C, _, .type C, b, rfl, ClsV.ty C, ty_of h, kit_ty hk, q⟩
end KA
namespace KA
open PySem PySem.Spec PyProof.Rows L2 DP
def spPlace (K : PySem.W.Frag) : Sp := fun vs H Q _ => ∃ (v : V) (l : Lk) (sd : Str) (x L : Int), vs = [v, .str sd, .int x, .int L] ∧ Dp K H v (encL l) ∧ SideOk sd ∧ 0 < L ∧ L.natAbs < 2 ^ 200 ∧ x.natAbs < 2 ^ 400 ∧ Sized 400 l ∧ Q (.int (plc sd l x L)) H
def spFar (K : PySem.W.Frag) (f : Lk → Lk → Int → Bool) : Sp := fun vs H Q _ => ∃ (v u : V) (a b : Lk) (L : Int), vs = [v, u, .int L] ∧ Dp K H v (encL a) ∧ Dp K H u (encL b) ∧ WordOk a.1 ∧ WordOk b.1 ∧ 0 < L ∧ L.natAbs < 2 ^ 200 ∧ Sized 400 a ∧ Sized 400 b ∧ Q (.bl (f a b L)) H
section
variable {P : Program} {w : World} {K : PySem.W.Frag} {mg : Str → Option Value} {base : Heap} {Z : Ad}
theorem ok_place_by (T : Tx K w mg Z) : FnOk P w K mg base CX0 1 Z.a_place_by Z.d_place_by P_place_by (spPlace K) := by
  refine T.F_place_by.ok scplace_by (fun vs H Q E h => ?_) (fun cdv A outer s H vs Q E hr h => ?_)
  · obtain ⟨v, l, sd, x, L, rfl, _⟩ := h
    rfl
  · obtain ⟨v, l, sd, x, L, rfl, hv, hsd, hL, hLb, hx, hl, k⟩ := h
    obtain ⟨a, rfl, ha⟩ := dp_look hv
    refine ⟨_, (pss_cons (ps_asg (pv 0) (tupK (K := K) (by rfl) (pgs_cons (pg_name (i := 4) scplace_by.nd rfl (Or.inl rfl)) (pgs_cons (pg_name (i := 5) scplace_by.nd rfl (Or.inl rfl)) (pgs_cons (pg_name (i := 6) scplace_by.nd rfl (Or.inl rfl)) pgs_nil)))))
      (C8.pss_cut (ps_if (pt_cmpR op_eq (pv 1) (pe_glob rfl T.g_SLOW T.r_SLOW) (nomark _)) (pss_one (ps_ret (pe_op op_add (pv 6) (pe_op op_mulW (pe_op op_fdivW (pe_op op_sub (pv 2) (pv 5)) (pv 3)) (pv 3))))) pss_nil)
      (pss_one (ps_ret (pe_op op_sub (pv 6) (pe_op op_mulW (pe_op op_fdivW (pe_op op_sub (pv 5) (pv 2)) (pv 3)) (pv 3))))))), ?_⟩
    refine ⟨_, rfl, _, _, rfl, ha, rfl, _, _, rfl, _, _, rfl, _, _, rfl, rfl, ?_⟩
    have e1 : (x - l.2.1).natAbs < 2 ^ 401 := sub_lt hx hl.1
    have e2 : (l.2.1 - x).natAbs < 2 ^ 401 := sub_lt hl.1 hx
    rcases hsd with e | e
    · subst e
      rw [plc_slow] at k
      refine ⟨fun _ _ => False, ⟨_, rfl, rfl, _, rfl, iteT ⟨_, rfl, _, rfl, _, rfl, _, _, rfl, rfl, _, rfl, _, _, rfl, rfl, wide_div hL hLb (by decide) (by decide), _, rfl, _, _, rfl, rfl, wide_mul (div_lt hL e1) hLb (by decide) (by decide) (by decide), _, _, rfl, rfl, k⟩⟩, fun _ _ z => z.elim⟩
    · subst e
      rw [plc_fast] at k
      refine ⟨fun σ' H' => σ' = [some (.ref a), some (.str "fast"), some (.int x), some (.int L), some (.str l.1), some (.int l.2.1), some (.int l.2.2)] ∧ H' = H, ⟨_, rfl, rfl, _, rfl, ?_⟩, ?_⟩
      · have e3 : decide (V.str "fast" = V.str "slow") = false := by decide +kernel
        rw [e3]
        exact iteF ⟨rfl, rfl⟩
      · rintro σ1 H1 ⟨rfl, rfl⟩
        exact ⟨_, rfl, _, rfl, _, rfl, _, _, rfl, rfl, _, rfl, _, _, rfl, rfl, wide_div hL hLb (by decide) (by decide), _, rfl, _, _, rfl, rfl, wide_mul (div_lt hL e2) hLb (by decide) (by decide) (by decide), _, _, rfl, rfl, k⟩
theorem ok_too_far (T : Tx K w mg Z) : FnOk P w K mg base CX0 2 Z.a_too_far Z.d_too_far P_too_far (spFar K tooFar) := by
  refine T.F_too_far.ok sctoo_far (fun vs H Q E h => ?_) (fun cdv A outer s H vs Q E hr h => ?_)
  · obtain ⟨v, u, a, b, L, rfl, _⟩ := h
    rfl
  · obtain ⟨v, u, a, b, L, rfl, hv, hu, wa, wb, hL, hLb, sa, sb, k⟩ := h
    obtain ⟨p, rfl, hp⟩ := dp_look hv
    obtain ⟨q, rfl, hq⟩ := dp_look hu
    obtain ⟨es, n, DW⟩ := T.kd_WORDS
    obtain ⟨da1, da2, _⟩ := decl_words wa
    obtain ⟨db1, db2, _⟩ := decl_words wb
    refine ⟨_, (C8.pss_cut (ps_if (PW.pt (pw_or (pt_cmpR (notInS (K := K)) (pe_ix (ixT (K := K)) (pv 0) pe_int (fun _ _ => rfl)) (pe_ix (ix_kd DW) (pe_glob (v := .ref Z.a_WORDS) rfl T.g_WORDS rfl) (pe_glob rfl T.g_SLOW T.r_SLOW) (fun _ _ => rfl)) (by rfl)) (pw_or1 (pt_cmpR (notInS (K := K)) (pe_ix (ixT (K := K)) (pv 1) pe_int (fun _ _ => rfl)) (pe_ix (ix_kd DW) (pe_glob (v := .ref Z.a_WORDS) rfl T.g_WORDS rfl) (pe_glob rfl T.g_FAST T.r_FAST) (fun _ _ => rfl)) (by rfl))))) (pss_one (ps_ret pe_bl)) pss_nil)
      (pss_one (ps_ret (pe_cmpR op_gt (pe_call (ok_place_by T) (hr.mono (by decide)) (by rfl) T.g_place_by T.F_place_by.kp T.bb_place_by .nil pass0 (pa_cons (pv 0) (pa_cons (pe_glob rfl T.g_SLOW T.r_SLOW) (pa_cons (pe_ix (ixT (K := K)) (pv 1) pe_int (fun _ _ => rfl)) (pa_cons (pv 2) pa_nil))))) (pe_ix (ixT (K := K)) (pv 1) pe_int (fun _ _ => rfl)) (nomark _))))), ?_⟩
    unfold tooFar at k
    refine ⟨fun σ' H' => σ' = [some (.ref p), some (.ref q), some (.int L)] ∧ H' = H ∧ onSide "slow" a.1 = true ∧ onSide "fast" b.1 = true, ?_, ?_⟩
    · refine ⟨_, rfl, _, _, _, _, rfl, rfl, hp, rfl, _, _, .ref Z.t_slow, rfl, rfl, T.w_slow, rfl, _, _, rfl, .inr (T.q_slow _), rfl, rfl, _, rfl, ?_⟩
      cases c1 : onSide "slow" a.1 with
      | false =>
        rw [c1] at da1 k
        have : (if true = true then !inV (V.str a.1) [V.str "at", V.str "from"] else inV (V.str a.1) [V.str "at", V.str "from"]) = true := by rw [if_pos rfl, da1]; rfl
        rw [this]
        exact iteT (iteT k)
      | true =>
        rw [c1] at da1
        have : (if true = true then !inV (V.str a.1) [V.str "at", V.str "from"] else inV (V.str a.1) [V.str "at", V.str "from"]) = false := by rw [if_pos rfl, da1]; rfl
        rw [this]
        refine iteF ⟨_, rfl, _, _, _, _, rfl, rfl, hq, rfl, _, _, .ref Z.t_fast, rfl, rfl, T.w_fast, rfl, _, _, rfl, .inr (T.q_fast _), rfl, rfl, _, rfl, ?_⟩
        cases c2 : onSide "fast" b.1 with
        | false =>
          rw [c2] at db2
          rw [c1, c2] at k
          have : (if true = true then !inV (V.str b.1) [V.str "at", V.str "upto"] else inV (V.str b.1) [V.str "at", V.str "upto"]) = true := by rw [if_pos rfl, db2]; rfl
          rw [this]
          exact iteT k
        | true =>
          rw [c2] at db2
          have : (if true = true then !inV (V.str b.1) [V.str "at", V.str "upto"] else inV (V.str b.1) [V.str "at", V.str "upto"]) = false := by rw [if_pos rfl, db2]; rfl
          rw [this]
          exact iteF ⟨rfl, rfl, rfl, rfl⟩
    · rintro σ1 H1 ⟨rfl, rfl, c1, c2⟩
      rw [c1, c2] at k
      refine ⟨_, rfl, _, rfl, _, _, _, _, rfl, rfl, hq, rfl, _, rfl, ?_⟩
      exact ⟨_, a, "slow", b.2.1, L, rfl, hv, .inl rfl, hL, hLb, sb.1, sa, _, rfl, _, _, _, _, rfl, rfl, hq, rfl, _, _, rfl, rfl, k⟩
theorem ok_clash (T : Tx K w mg Z) : FnOk P w K mg base CX0 3 Z.a_clash Z.d_clash P_clash (spFar K clashB) := by
  refine T.F_clash.ok scclash (fun vs H Q E h => ?_) (fun cdv A outer s H vs Q E hr h => ?_)
  · obtain ⟨v, u, a, b, L, rfl, _⟩ := h
    rfl
  · obtain ⟨v, u, a, b, L, rfl, hv, hu, wa, wb, hL, hLb, sa, sb, k⟩ := h
    refine ⟨_, (pss_one (ps_ret (pe_or (pe_call (ok_too_far T) (hr.mono (by decide)) (by rfl) T.g_too_far T.F_too_far.kp T.bb_too_far .nil pass0 (pa_cons (pv 0) (pa_cons (pv 1) (pa_cons (pv 2) pa_nil)))) (pe_one (pe_call (ok_too_far T) (hr.mono (by decide)) (by rfl) T.g_too_far T.F_too_far.kp T.bb_too_far .nil pass0 (pa_cons (pv 1) (pa_cons (pv 0) (pa_cons (pv 2) pa_nil)))))))), ?_⟩
    unfold clashB at k
    refine ⟨_, rfl, _, rfl, _, rfl, v, u, a, b, L, rfl, hv, hu, wa, wb, hL, hLb, sa, sb, _, rfl, ?_⟩
    cases c : tooFar a b L with
    | true => rw [c] at k; exact iteT k
    | false =>
      rw [c] at k
      exact iteF ⟨_, rfl, _, rfl, _, rfl, u, v, b, a, L, rfl, hu, hv, wb, wa, hL, hLb, sb, sa, k⟩
end
end KA
namespace KA
open PySem PySem.Spec PyProof.Rows L2 DP
def sideOf (sd : Str) (ls : List Lk) : List Lk := ls.filter fun l => onSide sd l.1
def spSide (K : PySem.W.Frag) : Sp := fun vs H Q _ => ∃ (v : V) (ls : List Lk) (sd : Str), vs = [v, .str sd] ∧ Dp K H v (.list (ls.map encL)) ∧ SideOk sd ∧ (∀ l ∈ ls, WordOk l.1) ∧ ls.length ≤ 1000 ∧
  ∀ H' p, H p = none → Same H H' → (∃ vs, H' p = some (.lst vs) ∧ DpAll K H' vs ((sideOf sd ls).map encL)) → Q (.ref p) H'
/-- a step: where, by which look -/
def encS (sd : Str) (x L : Int) (l : Lk) : PyData := .tuple [.int (plc sd l x L), encL l]
/-- the best step's place -/
def IsBest (sd : Str) (ls : List Lk) (x L m : Int) : Prop := (∃ l ∈ ls, plc sd l x L = m) ∧ ∀ l ∈ ls, if sd = "slow" then plc sd l x L ≤ m else m ≤ plc sd l x L
def spBest (K : PySem.W.Frag) : Sp := fun vs H Q _ => ∃ (v : V) (ls : List Lk) (sd : Str) (x L : Int), vs = [v, .str sd, .int x, .int L] ∧ Dp K H v (.list (ls.map encL)) ∧ SideOk sd ∧ (∀ l ∈ ls, WordOk l.1 ∧ Sized 400 l) ∧ ls.length ≤ 1000 ∧ 0 < L ∧ L.natAbs < 2 ^ 200 ∧ x.natAbs < 2 ^ 400 ∧
  (ls = [] → Q .non H) ∧ ∀ H' r l, l ∈ ls → Same H H' → IsBest sd ls x L (plc sd l x L) → Dp K H' r (encS sd x L l) → Q r H'
/-! ### the best step -/
theorem alike_step (sd : Str) (x L : Int) (a b : Lk) : PySem.W.alike (encS sd x L a) (encS sd x L b) = true := by simp [encS, encL, PySem.W.alike, PySem.W.alikeAll]
theorem steps_alike (sd : Str) (x L : Int) (ls : List Lk) : PySem.W.AlikeAll (ls.map (encS sd x L)) := by
  refine ⟨fun a ha b hb => ?_, fun a ha => ?_⟩
  · obtain ⟨p, _, rfl⟩ := List.mem_map.mp ha
    obtain ⟨q, _, rfl⟩ := List.mem_map.mp hb
    exact alike_step _ _ _ _ _
  · obtain ⟨p, _, rfl⟩ := List.mem_map.mp ha
    exact fun e => by cases e
theorem lay_look {l : Lk} (h : WordOk l.1) : (encL l).canLay0 = true := by
  obtain ⟨a, b, c⟩ := l
  have h : WordOk a := h
  rcases h with e | e | e <;> subst e <;> simp [encL, PyData.canLay0, PyData.canLayAll0] <;> decide +kernel
theorem steps_lay (sd : Str) (x L : Int) : ∀ ls : List Lk, (∀ l ∈ ls, WordOk l.1) → PyData.canLayAll0 (ls.map (encS sd x L)) = true
  | [], _ => rfl
  | l :: ls, h => by
    have h1 := lay_look (h l List.mem_cons_self)
    have h2 := steps_lay sd x L ls fun q hq => h q (List.mem_cons_of_mem _ hq)
    show PyData.canLayAll0 (encS sd x L l :: ls.map (encS sd x L)) = true
    simp [PyData.canLayAll0, h2, encS, PyData.canLay0, h1]
theorem steps_depth (sd : Str) (x L : Int) : ∀ ls : List Lk, PyData.depthAll (ls.map (encS sd x L)) ≤ 60
  | [] => by simp [PyData.depthAll]
  | l :: ls => by
    have h2 := steps_depth sd x L ls
    show PyData.depthAll (encS sd x L l :: ls.map (encS sd x L)) ≤ 60
    have h3 : (encS sd x L l).depth = 2 := by simp [encS, encL, PyData.depth, PyData.depthAll]
    rw [PyData.depthAll, h3]
    omega
/-- a greater place is a greater step -/
theorem lt_step {sd : Str} {x L : Int} {a b : Lk} (h : plc sd a x L < plc sd b x L) : PySem.W.dataLt (encS sd x L a) (encS sd x L b) = true := by
  unfold encS
  rw [PySem.W.dataLt_tuple, PySem.W.dataLt_cons (by simp [PySem.W.alike])]
  have e : PyData.eqv (.int (plc sd a x L)) (.int (plc sd b x L)) = false := by simp [PyData.eqv]; omega
  rw [e, if_neg Bool.false_ne_true, PySem.W.dataLt_int]
  exact decide_eq_true h
theorem le_step {sd : Str} {x L : Int} {a b : Lk} (h : PySem.W.dataLt (encS sd x L a) (encS sd x L b) = true) : plc sd a x L ≤ plc sd b x L := by
  unfold encS at h
  rw [PySem.W.dataLt_tuple, PySem.W.dataLt_cons (by simp [PySem.W.alike])] at h
  by_cases e : plc sd a x L = plc sd b x L
  · omega
  · have e' : PyData.eqv (.int (plc sd a x L)) (.int (plc sd b x L)) = false := by simp [PyData.eqv]; omega
    rw [e', if_neg Bool.false_ne_true, PySem.W.dataLt_int] at h
    have := of_decide_eq_true h
    omega
theorem max_go (x L : Int) : ∀ (ls : List Lk) (l : Lk), ∃ q, (q = l ∨ q ∈ ls) ∧ (ls.map (encS "slow" x L)).foldl (fun a y => if PySem.W.dataLt a y then y else a) (encS "slow" x L l) = encS "slow" x L q ∧ plc "slow" l x L ≤ plc "slow" q x L ∧ ∀ p ∈ ls, plc "slow" p x L ≤ plc "slow" q x L
  | [], l => ⟨l, .inl rfl, rfl, Int.le_refl _, fun _ h => by cases h⟩
  | y :: ls, l => by
    rw [List.map_cons, List.foldl_cons]
    cases c : PySem.W.dataLt (encS "slow" x L l) (encS "slow" x L y) with
    | true =>
      rw [if_pos rfl]
      obtain ⟨q, hq, e, h1, h2⟩ := max_go x L ls y
      have := le_step c
      refine ⟨q, ?_, e, by omega, fun p hp => ?_⟩
      · rcases hq with e | e
        · subst e; exact .inr List.mem_cons_self
        · exact .inr (List.mem_cons_of_mem _ e)
      · rcases List.mem_cons.mp hp with e | e
        · subst e; exact h1
        · exact h2 p e
    | false =>
      rw [if_neg Bool.false_ne_true]
      obtain ⟨q, hq, e, h1, h2⟩ := max_go x L ls l
      refine ⟨q, ?_, e, h1, fun p hp => ?_⟩
      · rcases hq with e | e
        · exact .inl e
        · exact .inr (List.mem_cons_of_mem _ e)
      · rcases List.mem_cons.mp hp with e | e
        · subst e
          by_cases hlt : plc "slow" l x L < plc "slow" p x L
          · rw [lt_step hlt] at c; cases c
          · omega
        · exact h2 p e
theorem max_step (x L : Int) (l : Lk) (ls : List Lk) : ∃ q, q ∈ l :: ls ∧ PySem.W.maxD (encS "slow" x L l) (ls.map (encS "slow" x L)) = encS "slow" x L q ∧ IsBest "slow" (l :: ls) x L (plc "slow" q x L) := by
  obtain ⟨q, hq, e, h1, h2⟩ := max_go x L ls l
  have hm : q ∈ l :: ls := by
    rcases hq with e | e
    · subst e; exact List.mem_cons_self
    · exact List.mem_cons_of_mem _ e
  refine ⟨q, hm, e, ⟨q, hm, rfl⟩, fun p hp => ?_⟩
  rw [if_pos rfl]
  rcases List.mem_cons.mp hp with e | e
  · subst e; exact h1
  · exact h2 p e
theorem min_go (x L : Int) : ∀ (ls : List Lk) (l : Lk), ∃ q, (q = l ∨ q ∈ ls) ∧ (ls.map (encS "fast" x L)).foldl (fun a y => if PySem.W.dataLt y a then y else a) (encS "fast" x L l) = encS "fast" x L q ∧ plc "fast" q x L ≤ plc "fast" l x L ∧ ∀ p ∈ ls, plc "fast" q x L ≤ plc "fast" p x L
  | [], l => ⟨l, .inl rfl, rfl, Int.le_refl _, fun _ h => by cases h⟩
  | y :: ls, l => by
    rw [List.map_cons, List.foldl_cons]
    cases c : PySem.W.dataLt (encS "fast" x L y) (encS "fast" x L l) with
    | true =>
      rw [if_pos rfl]
      obtain ⟨q, hq, e, h1, h2⟩ := min_go x L ls y
      have := le_step c
      refine ⟨q, ?_, e, by omega, fun p hp => ?_⟩
      · rcases hq with e | e
        · subst e; exact .inr List.mem_cons_self
        · exact .inr (List.mem_cons_of_mem _ e)
      · rcases List.mem_cons.mp hp with e | e
        · subst e; exact h1
        · exact h2 p e
    | false =>
      rw [if_neg Bool.false_ne_true]
      obtain ⟨q, hq, e, h1, h2⟩ := min_go x L ls l
      refine ⟨q, ?_, e, h1, fun p hp => ?_⟩
      · rcases hq with e | e
        · exact .inl e
        · exact .inr (List.mem_cons_of_mem _ e)
      · rcases List.mem_cons.mp hp with e | e
        · subst e
          by_cases hlt : plc "fast" p x L < plc "fast" l x L
          · rw [lt_step hlt] at c; cases c
          · omega
        · exact h2 p e
theorem min_step (x L : Int) (l : Lk) (ls : List Lk) : ∃ q, q ∈ l :: ls ∧ PySem.W.minD (encS "fast" x L l) (ls.map (encS "fast" x L)) = encS "fast" x L q ∧ IsBest "fast" (l :: ls) x L (plc "fast" q x L) := by
  obtain ⟨q, hq, e, h1, h2⟩ := min_go x L ls l
  have hm : q ∈ l :: ls := by
    rcases hq with e | e
    · subst e; exact List.mem_cons_self
    · exact List.mem_cons_of_mem _ e
  refine ⟨q, hm, e, ⟨q, hm, rfl⟩, fun p hp => ?_⟩
  rw [if_neg slow_ne]
  rcases List.mem_cons.mp hp with e | e
  · subst e; exact h1
  · exact h2 p e
section
variable {P : Program} {w : World} {K : PySem.W.Frag} {mg : Str → Option Value} {base : Heap} {Z : Ad}
theorem words_side {sd x : Str} (hs : SideOk sd) (hx : WordOk x) : inV (.str x) (if sd = "slow" then [.str "at", .str "from"] else [.str "at", .str "upto"]) = onSide sd x := by
  obtain ⟨h1, h2, _⟩ := decl_words hx
  rcases hs with e | e
  · subst e; rw [if_pos rfl]; exact h1
  · subst e; rw [if_neg slow_ne]; exact h2
theorem ok_side_looks (T : Tx K w mg Z) : FnOk P w K mg base CX0 1 Z.a_side_looks Z.d_side_looks P_side_looks (spSide K) := by
  refine T.F_side_looks.ok scside_looks (fun vs H Q E h => ?_) (fun cdv A outer s H vs Q E hr h => ?_)
  · obtain ⟨v, ls, sd, rfl, _⟩ := h
    rfl
  · obtain ⟨v, ls, sd, rfl, hv, hsd, hw, hlen, k⟩ := h
    obtain ⟨a, xs, rfl, ha, hd⟩ := dp_list hv
    obtain ⟨es, n, DW⟩ := T.kd_WORDS
    have hxl : xs.length = ls.length := by rw [dpAll_len hd, List.length_map]
    obtain ⟨tw, htw, hqw⟩ : ∃ tw, PySem.W.nsIn K Z.a_WORDS sd = some (some (.ref tw)) ∧ ∀ H, SqT K H tw (if sd = "slow" then [.str "at", .str "from"] else [.str "at", .str "upto"]) := by
      rcases hsd with e | e
      · subst e; exact ⟨_, T.w_slow, fun H => by rw [if_pos rfl]; exact T.q_slow H⟩
      · subst e; exact ⟨_, T.w_fast, fun H => by rw [if_neg slow_ne]; exact T.q_fast H⟩
    refine ⟨_, (pss_cons (ps_set (i := 2) scside_looks.nd rfl (Or.inr rfl) (pe_ix (ix_kd DW) (pe_glob (v := .ref Z.a_WORDS) rfl T.g_WORDS rfl) (pv 1) (fun _ _ => rfl)))
      (pss_one (ps_ret (pe_lc (own := [("look", 3)]) (g := gName 3) (tt := _) rfl scside_looks.nd (pi_list (pv 0)) (blkOk_by (own := [("look", 3)]) (N := N_side_looks) (sc := defScope sside_looks) (by decide +kernel)) (fun _ _ _ _ _ => (pg_name (i := 3) scside_looks.nd rfl (Or.inl rfl))) (fun _ _ _ _ _ => (pts_one (pt_cmpR (inS (K := K)) (pe_ix (ixT (K := K)) (pv 3) pe_int (fun _ _ => rfl)) (pv 2) (by rfl)))) (fun _ _ _ _ _ => (pv 3)))))), ?_⟩
    refine ⟨_, rfl, sd, _, .ref tw, rfl, rfl, htw, rfl, _, rfl, a, rfl, ⟨_, ha⟩, fun D hD => ?_⟩
    refine lc_list (K := K) (a := a) (xs := xs) (fun i H' => Same H H' ∧ ∃ ys, H' D = some (.lst ys) ∧ ys.length ≤ i ∧ DpAll K H' ys ((sideOf sd (ls.take i)).map encL)) ⟨same_upd hD, [], upd_same, Nat.le_refl _, .nil⟩ (fun i H' _ ⟨S, _⟩ => Same.sqL S ha) ?_ ?_
    · rintro i y H' hi ⟨S, ys, hD', hyl, hds⟩
      obtain ⟨d, hdi, hdy⟩ := dpAll_get hd hi
      obtain ⟨l, hl, rfl⟩ := map_at hdi
      have hwl := hw l (List.mem_of_getElem? hl)
      have hdy' := dp_mono S _ _ hdy
      obtain ⟨p, rfl, hp⟩ := dp_look hdy'
      refine ⟨rfl, _, rfl, _, _, _, _, rfl, rfl, hp, rfl, _, rfl, _, _, rfl, .inr (hqw _), rfl, ?_, _, rfl, ?_⟩
      · split <;> rfl
      · have e1 : (if false = true then !inV (V.str l.1) (if sd = "slow" then [V.str "at", V.str "from"] else [V.str "at", V.str "upto"]) else inV (V.str l.1) (if sd = "slow" then [V.str "at", V.str "from"] else [V.str "at", V.str "upto"])) = onSide sd l.1 := by
          rw [if_neg Bool.false_ne_true]; exact words_side hsd hwl
        rw [e1]
        have e2 : sideOf sd (ls.take (i + 1)) = sideOf sd (ls.take i) ++ (if onSide sd l.1 = true then [l] else []) := by
          rw [take_snoc hl]; unfold sideOf; rw [List.filter_append]
          cases c : onSide sd l.1 <;> simp [c]
        cases c : onSide sd l.1 with
        | false =>
          refine iteF ⟨S, ys, hD', by omega, ?_⟩
          rw [e2, c]
          simpa using hds
        | true =>
          refine iteT ⟨_, rfl, ys, hD', ?_, ?_, _, upd_same, by simp; omega, ?_⟩
          · have : ys.length ≤ 1000 := by
              have := (List.getElem?_eq_some_iff.mp hl).1
              omega
            exact small1000 this
          · exact same_set S hD
          · rw [e2, c, if_pos rfl, List.map_append]
            exact acc_step hD' (noLs_map noL_encL _) rfl hds hdy'
    · rintro H' ⟨S, ys, hD', hyl, hds⟩
      rw [List.take_of_length_le (by rw [hxl]; exact Nat.le_refl _)] at hds
      exact k H' D hD S ⟨ys, hD', hds⟩
theorem ok_best_step (T : Tx K w mg Z) : FnOk P w K mg base CX0 2 Z.a_best_step Z.d_best_step P_best_step (spBest K) := by
  refine T.F_best_step.ok scbest_step (fun vs H Q E h => ?_) (fun cdv A outer s H vs Q E hr h => ?_)
  · obtain ⟨v, ls, sd, x, L, rfl, _⟩ := h
    rfl
  · obtain ⟨v, ls, sd, x, L, rfl, hv, hsd, hw, hlen, hL, hLb, hx, k0, k⟩ := h
    obtain ⟨a, xs, rfl, ha, hd⟩ := dp_list hv
    have hxl : xs.length = ls.length := by rw [dpAll_len hd, List.length_map]
    refine ⟨_, (C8.pss_cut (ps_if (pt_not (pt_truth (pv 0) (by intro _; rfl))) (pss_one (ps_ret pe_non)) pss_nil)
      (pss_cons (ps_setLc (i := 4) (own := [("look", 5)]) (g := gName 5) (tt := tYes) rfl scbest_step.nd rfl rfl (sw_true rfl rfl rfl (by decide +kernel)) (pi_list (pv 0)) (blkOk_by (own := [("look", 5)]) (N := N_best_step) (sc := defScope sbest_step) (by decide +kernel)) (fun _ _ _ _ _ => (pg_name (i := 5) scbest_step.nd rfl (Or.inl rfl))) (fun _ _ _ _ _ => pts_nil) (fun _ _ _ _ _ => (pe_tup (pa_cons (pe_call (ok_place_by T) (hr.mono (by decide)) (by rfl) T.g_place_by T.F_place_by.kp T.bb_place_by .nil pass0 (pa_cons (pv 5) (pa_cons (pv 1) (pa_cons (pv 2) (pa_cons (pv 3) pa_nil))))) (pa_cons (pv 5) pa_nil)))))
      (pss_one (ps_ret (pe_ifExp (pt_cmpR op_eq (pv 1) (pe_glob rfl T.g_SLOW T.r_SLOW) (nomark _)) (pe_callB (maxDK (K := K) rfl (rooms hr)) (by rfl) T.b_max (by decide +kernel) (pa_cons (pv 4) pa_nil)) (pe_callB (minDK (K := K) rfl (rooms hr)) (by rfl) T.b_min (by decide +kernel) (pa_cons (pv 4) pa_nil))))))), ?_⟩
    refine ⟨fun σ' H' => σ' = [some (.ref a), some (.str sd), some (.int x), some (.int L), none, none] ∧ H' = H ∧ ls ≠ [], ?_, ?_⟩
    · refine ⟨_, rfl, _, .inl ⟨xs, ha, rfl⟩, ?_⟩
      cases ls with
      | nil =>
        have e : xs = [] := List.eq_nil_of_length_eq_zero hxl
        subst e
        exact iteT (k0 rfl)
      | cons l ls =>
        cases xs with
        | nil => simp at hxl
        | cons y ys => exact iteF ⟨rfl, rfl, by simp⟩
    · rintro σ1 H1 ⟨rfl, rfl, hne⟩
      refine ⟨_, rfl, a, rfl, ⟨_, ha⟩, fun D hD => ?_⟩
      refine lc_list (K := K) (a := a) (xs := xs) (fun i H' => Same H1 H' ∧ ∃ ys, H' D = some (.lst ys) ∧ ys.length ≤ i ∧ DpAll K H' ys ((ls.take i).map (encS sd x L))) ⟨same_upd hD, [], upd_same, Nat.le_refl _, .nil⟩ (fun i H' _ ⟨S, _⟩ => Same.sqL S ha) ?_ ?_
      · rintro i y H' hi ⟨S, ys, hD', hyl, hds⟩
        obtain ⟨d, hdi, hdy⟩ := dpAll_get hd hi
        obtain ⟨l, hl, rfl⟩ := map_at hdi
        have hwl := hw l (List.mem_of_getElem? hl)
        have hdy' := dp_mono S _ _ hdy
        refine ⟨rfl, yes_ite ?_⟩
        refine ⟨_, rfl, _, rfl, _, rfl, _, rfl, y, l, sd, x, L, rfl, hdy', hsd, hL, hLb, hx, hwl.2, _, rfl, (by show 2 ≤ sizeLine; decide), fun p hp => ?_⟩
        have hD2 : (upd H' p (.tup [.int (plc sd l x L), y])) D = some (.lst ys) := (upd_ne (ne_of_none hD' hp)).trans hD'
        have S2 := same_upd (o := HO.tup [.int (plc sd l x L), y]) hp
        refine ⟨ys, hD2, ?_, same_set (S.trans S2) hD, _, upd_same, by simp; omega, ?_⟩
        · have := (List.getElem?_eq_some_iff.mp hl).1
          exact small1000 (by omega)
        · rw [take_snoc hl, List.map_append]
          exact acc_step hD2 (noLs_map (fun _ => rfl) _) rfl (dpAll_mono S2 _ _ hds) (.tup (SqT.of upd_same) (.cons (.int _) (.cons (dp_mono S2 _ _ hdy') .nil)))
      · rintro H' ⟨S, ys, hD', hyl, hds⟩
        rw [List.take_of_length_le (by rw [hxl]; exact Nat.le_refl _)] at hds
        refine ⟨_, rfl, rfl, _, rfl, ?_⟩
        have hd0 : ∃ l ls', ls = l :: ls' := by
          cases ls with
          | nil => exact absurd rfl hne
          | cons l ls' => exact ⟨l, ls', rfl⟩
        obtain ⟨l, ls', rfl⟩ := hd0
        have hal := steps_alike sd x L (l :: ls')
        have hlay := steps_lay sd x L (l :: ls') (fun q hq => (hw q hq).1)
        have hdep := steps_depth sd x L (l :: ls')
        rcases hsd with e | e
        · subst e
          refine iteT ⟨_, rfl, D, ys, _, _, rfl, SqL.of hD', hds, hal, hlay, hdep, fun r hr => ?_⟩
          obtain ⟨q, hq, e, hb⟩ := max_step x L l ls'
          rw [e] at hr
          exact k H' r q hq S hb hr
        · subst e
          have e3 : decide (V.str "fast" = V.str "slow") = false := by decide +kernel
          rw [e3]
          refine iteF ⟨_, rfl, D, ys, _, _, rfl, SqL.of hD', hds, hal, hlay, hdep, fun r hr => ?_⟩
          obtain ⟨q, hq, e, hb⟩ := min_step x L l ls'
          rw [e] at hr
          exact k H' r q hq S hb hr
end
end KA
namespace KA
open PySem PySem.Spec PyProof.Rows L2 DP
/-- a Dark's fields -/
def df (L : Int) (la : Addr) : List (Str × V) := [("_length", .int L), ("_looks", .ref la)]
theorem ne_ll : ¬ (("_looks" : Str) = "_length") := by decide +kernel
theorem ne_ll' : ¬ (("_length" : Str) = "_looks") := by decide +kernel
theorem df_length (L : Int) (la : Addr) : (df L la).lookup ("_length" : Str) = some (.int L) := by simp [df, List.lookup]
theorem df_looks (L : Int) (la : Addr) : (df L la).lookup ("_looks" : Str) = some (.ref la) := by
  have h : (("_looks" : Str) == ("_length" : Str)) = false := by decide +kernel
  simp [df, List.lookup, h]
theorem df_no (L : Int) (la : Addr) {m : Str} (h1 : (m == ("_length" : Str)) = false) (h2 : (m == ("_looks" : Str)) = false) : (df L la).lookup m = none := by simp [df, List.lookup, h1, h2]
theorem df_put1 (v : V) : putF "_length" v [] = [(("_length" : Str), v)] := rfl
theorem df_put2 (L : Int) (la : Addr) : putF "_looks" (.ref la) [("_length", .int L)] = df L la := by
  show (if ("_length" : Str) = "_looks" then _ else _) = _
  rw [if_neg ne_ll']; rfl
theorem df_put3 (L : Int) (la lb : Addr) : putF "_looks" (.ref lb) (df L la) = df L lb := by
  show (if ("_length" : Str) = "_looks" then _ else (("_length" : Str), V.int L) :: putF "_looks" (.ref lb) [("_looks", .ref la)]) = _
  rw [if_neg ne_ll']
  show (("_length" : Str), V.int L) :: (if ("_looks" : Str) = "_looks" then _ else _) = _
  rw [if_pos rfl]; rfl
/-- what is free there was free before -/
structure FreeIn (H H' : Hp) : Prop where
  free : ∀ {b : Addr}, H' b = none → H b = none
structure DarkAt (Z : Ad) (K : PySem.W.Frag) (H : Hp) (d : Addr) (L : Int) (ls : List Lk) : Prop where
  ex : ∃ dx la vs, H d = some (.ins Z.C dx (df L la)) ∧ H la = some (.lst vs) ∧ DpAll K H vs (ls.map encL)
  pos : 0 < L
  big : L.natAbs < 2 ^ 200
  ok : ∀ l ∈ ls, WordOk l.1 ∧ Sized 302 l
  len : ls.length ≤ 60
theorem DarkAt.same {Z : Ad} {K : PySem.W.Frag} {H H' : Hp} {d : Addr} {L : Int} {ls : List Lk} (D : DarkAt Z K H d L ls) (S : Same H H') : DarkAt Z K H' d L ls := by
  obtain ⟨dx, la, vs, h1, h2, h3⟩ := D.ex
  exact ⟨⟨dx, la, vs, S _ _ h1, S _ _ h2, dpAll_mono S _ _ h3⟩, D.pos, D.big, D.ok, D.len⟩
theorem Sized.up {m n : Nat} {l : Lk} (h : Sized m l) (hm : m ≤ n) : Sized n l := ⟨lt_up h.1 hm, lt_up h.2 hm⟩
theorem df_inj {C C' dx dx' : Addr} {L L' : Int} {la la' : Addr} (h : some (HO.ins C dx (df L la)) = some (HO.ins C' dx' (df L' la'))) : la = la' := by
  have h1 : df L la = df L' la' := by injection h with h; injection h
  simp [df] at h1
  exact h1.2
def spInit (Z : Ad) (K : PySem.W.Frag) : Sp := fun vs H Q _ => ∃ (d dx : Addr) (L : Int), vs = [.ref d, .int L] ∧ H d = some (.ins Z.C dx []) ∧ 0 < L ∧ L.natAbs < 2 ^ 200 ∧ ∀ H' : Hp, DarkAt Z K H' d L [] → (∀ la dx, H' d = some (.ins Z.C dx (df L la)) → H la = none) → (∀ b o, H b = some o → b ≠ d → H' b = some o) → Q .non H'
def spLooks (Z : Ad) (K : PySem.W.Frag) : Sp := fun vs H Q _ => ∃ (d : Addr) (L : Int) (ls : List Lk), vs = [.ref d] ∧ DarkAt Z K H d L ls ∧ ∀ (p : Addr) (xs : List V) (H' : Hp), H p = none → Same H H' → H' p = some (.lst xs) → DpAll K H' xs (ls.map encL) → Q (.ref p) H'
def spWord : Sp := fun vs H Q _ => ∃ (d : V) (x : Str), vs = [d, .str x] ∧ WordOk x ∧ Q .non H
def spHome (Z : Ad) (K : PySem.W.Frag) : Sp := fun vs H Q _ => ∃ (d : Addr) (L : Int) (ls : List Lk) (l : Lk), vs = [.ref d, .str l.1, .int l.2.1, .int l.2.2] ∧ DarkAt Z K H d L ls ∧ WordOk l.1 ∧ Sized 300 l ∧ ∀ H' r, Same H H' → Dp K H' r (encL (home L l)) → Q r H'
def spClashing (Z : Ad) (K : PySem.W.Frag) : Sp := fun vs H Q _ => ∃ (d : Addr) (v : V) (L : Int) (ls : List Lk) (l : Lk), vs = [.ref d, v] ∧ DarkAt Z K H d L ls ∧ Dp K H v (encL l) ∧ WordOk l.1 ∧ Sized 302 l ∧
  (ls.find? (fun o => clashB l o L) = none → Q .non H) ∧ ∀ o r, ls.find? (fun o => clashB l o L) = some o → Dp K H r (encL o) → Q r H
/-- what is heard -/
def heard (L : Int) (ls : List Lk) (l : Lk) : List Lk := if home L l ∈ ls then ls else (ls ++ [home L l]).mergeSort (PySem.W.dataLe false encL)
def spHear (Z : Ad) (K : PySem.W.Frag) : Sp := fun vs H Q _ => ∃ (d : Addr) (L : Int) (ls : List Lk) (l : Lk), vs = [.ref d, .str l.1, .int l.2.1, .int l.2.2] ∧ DarkAt Z K H d L ls ∧ WordOk l.1 ∧ Sized 300 l ∧ ls.length < 60 ∧ (∀ o ∈ ls, clashB (home L l) o L = false) ∧
  ∀ H', DarkAt Z K H' d L (heard L ls l) → (∀ la dx, H' d = some (.ins Z.C dx (df L la)) → (∃ dx', H d = some (.ins Z.C dx' (df L la))) ∨ H la = none) → (∀ b o, H b = some o → b ≠ d → H' b = some o) → Q .non H'
def spBound (Z : Ad) (K : PySem.W.Frag) : Sp := fun vs H Q _ => ∃ (d : Addr) (L : Int) (ls : List Lk) (sd : Str) (x : Int), vs = [.ref d, .str sd, .int x] ∧ DarkAt Z K H d L ls ∧ SideOk sd ∧ x.natAbs < 2 ^ 400 ∧
  (sideOf sd ls = [] → ∀ H', Same H H' → Q .non H') ∧ ∀ m H', Same H H' → IsBest sd (sideOf sd ls) x L m → Q (.int m) H'
/-- what a side tells of x: None, or the best place -/
def Tells (sd : Str) (ls : List Lk) (x L : Int) (v : V) : Prop := (sideOf sd ls = [] ∧ v = .non) ∨ ∃ m, v = .int m ∧ IsBest sd (sideOf sd ls) x L m
def spSideOf (Z : Ad) (K : PySem.W.Frag) (sd : Str) : Sp := fun vs H Q _ => ∃ (d : Addr) (L : Int) (ls : List Lk) (x : Int), vs = [.ref d, .int x] ∧ DarkAt Z K H d L ls ∧ x.natAbs < 2 ^ 400 ∧
  ∀ v H', Same H H' → Tells sd ls x L v → Q v H'
theorem same_put {H : Hp} {d C dx : Addr} {fs fs' : List (Str × V)} (h : H d = some (.ins C dx fs)) : FreeIn H (upd H d (.ins C dx fs')) := ⟨fun {b} hb => by
  by_cases e : b = d
  · subst e; rw [upd_same] at hb; cases hb
  · rw [upd_ne e] at hb; exact hb⟩
theorem emod_small {x L : Int} (h : 0 < L) (hb : L.natAbs < 2 ^ 200) : (x - x / L * L).natAbs < 2 ^ 200 := by
  have e : x - x / L * L = x % L := by
    have := Int.mul_ediv_add_emod x L
    rw [Int.mul_comm (x / L) L]; omega
  rw [e]
  have h1 := Int.emod_nonneg x (show L ≠ 0 by omega)
  have h2 := Int.emod_lt_of_pos x h
  have h3 : (x % L).natAbs ≤ L.natAbs := by clear hb; omega
  exact Nat.lt_of_le_of_lt h3 hb
theorem home_sized {L : Int} {l : Lk} (h : 0 < L) (hb : L.natAbs < 2 ^ 200) (hl : Sized 300 l) : Sized 302 (home L l) := by
  have h0 := emod_small (x := l.2.1) h hb
  refine ⟨lt_up h0 (by decide), ?_⟩
  show (l.2.2 - l.2.1 / L * L).natAbs < 2 ^ 302
  have e : l.2.2 - l.2.1 / L * L = l.2.2 + ((l.2.1 - l.2.1 / L * L) - l.2.1) := by omega
  rw [e]
  have h1 : ((l.2.1 - l.2.1 / L * L) - l.2.1).natAbs < 2 ^ 301 := sub_lt (lt_up h0 (by decide)) hl.1
  exact add_lt (lt_up hl.2 (by decide)) h1
section
variable {P : Program} {w : World} {K : PySem.W.Frag} {mg : Str → Option Value} {base : Heap} {Z : Ad}
theorem ok_Dark_init (T : Tx K w mg Z) : FnOk P w K mg base CX0 1 Z.a_Dark_init Z.d_Dark_init P_Dark_init (spInit Z K) := by
  refine T.F_Dark_init.ok scDark_init (fun vs H Q E h => ?_) (fun cdv A outer s H vs Q E hr h => ?_)
  · obtain ⟨d, dx, L, rfl, _⟩ := h
    rfl
  · obtain ⟨d, dx, L, rfl, hd, hL, hLb, k⟩ := h
    refine ⟨_, (C8.pss_cut (ps_if (pt_cmpR op_lt (pv 1) pe_int (nomark _)) (pss_one ps_never) pss_nil)
      (pss_cons (ps_fld (pv 0) (pv 1) rfl)
      (pss_one (ps_fld (pv 0) (pe_lst pa_nil) rfl)))), ?_⟩
    refine ⟨fun σ' H' => σ' = [some (.ref d), some (.int L)] ∧ H' = H, ?_, ?_⟩
    · refine ⟨_, rfl, _, _, rfl, rfl, _, rfl, ?_⟩
      exact ite2 (fun c => (by have c' := of_decide_eq_true c; omega : False)) (fun _ => ⟨rfl, rfl⟩)
    · rintro σ1 H1 ⟨rfl, rfl⟩
      refine ⟨_, rfl, _, rfl, d, Z.C, dx, [], rfl, hd, T.cl, T.n_length, (by show 0 < 1000; decide), ?_⟩
      refine ⟨(by show 0 ≤ sizeLine; decide), fun p hp => ?_⟩
      have h1 : (upd H1 d (.ins Z.C dx (putF "_length" (.int L) []))) d = some (.ins Z.C dx [("_length", .int L)]) := upd_same
      have hdp : d ≠ p := ne_of_none h1 hp
      refine ⟨_, rfl, d, Z.C, dx, [("_length", .int L)], rfl, (upd_ne hdp).trans h1, T.cl, T.n_looks, (by show 1 < 1000; decide), ?_⟩
      refine k _ ⟨⟨dx, p, [], Eq.trans upd_same (congrArg (fun q => some (HO.ins Z.C dx q)) (df_put2 L p)), (upd_ne (Ne.symm hdp)).trans upd_same, .nil⟩, hL, hLb, (fun _ z => absurd z (by simp)), Nat.zero_le _⟩ (fun la' dx' e => ?_) fun b o e hb => ?_
      · rw [upd_same, df_put2] at e
        rw [← df_inj e]
        exact (same_put hd).free hp
      have e1 : (upd H1 d (.ins Z.C dx (putF "_length" (.int L) []))) b = some o := (upd_ne hb).trans e
      exact (upd_ne hb).trans ((upd_ne (ne_of_none e1 hp)).trans e1)
theorem ok_Dark_looks (T : Tx K w mg Z) : FnOk P w K mg base CX0 1 Z.a_Dark_looks Z.d_Dark_looks P_Dark_looks (spLooks Z K) := by
  refine T.F_Dark_looks.ok scDark_looks (fun vs H Q E h => ?_) (fun cdv A outer s H vs Q E hr h => ?_)
  · obtain ⟨d, L, ls, rfl, _⟩ := h
    rfl
  · obtain ⟨d, L, ls, rfl, D, k⟩ := h
    obtain ⟨dx, la, xs, h1, h2, h3⟩ := D.ex
    refine ⟨_, (pss_one (ps_ret (pe_callTy (listK (K := K)) (by rfl) T.b_list (by decide +kernel) (pa_cons (fldK (K := K) (pv 0) rfl) pa_nil)))), ?_⟩
    refine ⟨_, rfl, d, Z.C, dx, _, _, rfl, h1, T.cl, T.n_looks, df_looks _ _, la, xs, rfl, .inl (SqL.of h2), fun p hp => ?_⟩
    exact k p xs _ hp (same_upd hp) upd_same (dpAll_mono (same_upd hp) _ _ h3)
theorem ok_Darkcheck_word (T : Tx K w mg Z) : FnOk P w K mg base CX0 1 Z.a_Darkcheck_word Z.d_Darkcheck_word P_Darkcheck_word (spWord) := by
  refine T.F_Darkcheck_word.ok scDarkcheck_word (fun vs H Q E h => ?_) (fun cdv A outer s H vs Q E hr h => ?_)
  · obtain ⟨d, x, rfl, _⟩ := h
    rfl
  · obtain ⟨d, x, rfl, hx, k⟩ := h
    refine ⟨_, (pss_one (ps_if (pt_cmpR (notInS (K := K)) (pv 1) (pe_glob (v := .ref Z.a_LW) rfl T.g_LOOK_WORDS rfl) (by rfl)) (pss_one ps_never) pss_nil)), ?_⟩
    obtain ⟨_, _, e⟩ := decl_words hx
    refine ⟨_, rfl, _, _, rfl, .inr (T.q_LW _), rfl, rfl, _, rfl, ?_⟩
    have e2 : (if true = true then !inV (V.str x) [V.str "at", V.str "from", V.str "upto"] else inV (V.str x) [V.str "at", V.str "from", V.str "upto"]) = false := by rw [if_pos rfl, e]; rfl
    rw [e2]
    exact iteF k
theorem ok_Darkhome (T : Tx K w mg Z) : FnOk P w K mg base CX0 2 Z.a_Darkhome Z.d_Darkhome P_Darkhome (spHome Z K) := by
  refine T.F_Darkhome.ok scDarkhome (fun vs H Q E h => ?_) (fun cdv A outer s H vs Q E hr h => ?_)
  · obtain ⟨d, L, ls, l, rfl, _⟩ := h
    rfl
  · obtain ⟨d, L, ls, l, rfl, D, hw, hl, k⟩ := h
    obtain ⟨dx, la, xs, h1, h2, h3⟩ := D.ex
    refine ⟨_, (pss_cons (ps_expr (pe_meth (pv 0) T.cl T.m_Darkcheck_word (ok_Darkcheck_word T) (hr.mono (by decide)) T.bb_Darkcheck_word .nil pass0 (pa_cons (pv 1) pa_nil)))
      (pss_cons (ps_set (i := 4) scDarkhome.nd rfl (Or.inl rfl) (pe_op op_fdivW (pv 2) (fldK (K := K) (pv 0) rfl)))
      (pss_one (ps_ret (pe_tup (pa_cons (pv 1) (pa_cons (pe_op op_sub (pv 2) (pe_op op_mulW (pv 4) (fldK (K := K) (pv 0) rfl))) (pa_cons (pe_op op_sub (pv 3) (pe_op op_mulW (pv 4) (fldK (K := K) (pv 0) rfl))) pa_nil)))))))), ?_⟩
    refine ⟨_, rfl, d, dx, _, rfl, h1, df_no _ _ (by decide +kernel) (by decide +kernel), _, rfl, _, _, rfl, hw, ?_⟩
    refine ⟨_, rfl, _, rfl, d, Z.C, dx, _, _, rfl, h1, T.cl, T.n_length, df_length _ _, _, _, rfl, rfl, wide_div D.pos D.big (by decide) (by decide), ?_⟩
    have b1 : (l.2.1 / L).natAbs < 2 ^ 301 := div_lt D.pos hl.1
    refine ⟨_, rfl, _, rfl, _, rfl, _, rfl, d, Z.C, dx, _, _, rfl, h1, T.cl, T.n_length, df_length _ _, _, _, rfl, rfl, wide_mul b1 D.big (by decide) (by decide) (by decide), _, _, rfl, rfl, ?_⟩
    refine ⟨_, rfl, _, rfl, _, rfl, d, Z.C, dx, _, _, rfl, h1, T.cl, T.n_length, df_length _ _, _, _, rfl, rfl, wide_mul b1 D.big (by decide) (by decide) (by decide), _, _, rfl, rfl, (by show 3 ≤ sizeLine; decide), fun p hp => ?_⟩
    exact k _ _ (same_upd hp) (.tup (SqT.of upd_same) (.cons (.str _) (.cons (.int _) (.cons (.int _) .nil))))
theorem ok_Darkclashing (T : Tx K w mg Z) : FnOk P w K mg base CX0 4 Z.a_Darkclashing Z.d_Darkclashing P_Darkclashing (spClashing Z K) := by
  refine T.F_Darkclashing.ok scDarkclashing (fun vs H Q E h => ?_) (fun cdv A outer s H vs Q E hr h => ?_)
  · obtain ⟨d, v, L, ls, l, rfl, _⟩ := h
    rfl
  · obtain ⟨d, v, L, ls, l, rfl, D, hv, hw, hl, k0, k⟩ := h
    obtain ⟨dx, la, xs, h1, h2, h3⟩ := D.ex
    have hxl : xs.length = ls.length := by rw [dpAll_len h3, List.length_map]
    refine ⟨_, (pss_cons (ps_for PassesOwn.never rfl (pi_list (fldK (K := K) (pv 0) rfl)) (pg_name (i := 2) scDarkclashing.nd rfl (Or.inl rfl)) (pss_one (ps_if (pt_val (pe_call (ok_clash T) (hr.mono (by decide)) (by rfl) T.g_clash T.F_clash.kp T.bb_clash .nil pass0 (pa_cons (pv 1) (pa_cons (pv 2) (pa_cons (fldK (K := K) (pv 0) rfl) pa_nil))))) (pss_one (ps_ret (pv 2))) pss_nil)))
      (pss_one (ps_ret pe_non))), ?_⟩
    refine ⟨_, rfl, d, Z.C, dx, _, _, rfl, h1, T.cl, T.n_looks, df_looks _ _, la, rfl, ⟨_, SqL.of h2⟩, ?_⟩
    refine for_list (K := K) (a := la) (xs := xs) (fun i σ' H' => ∃ u, σ' = [some (.ref d), some v, u] ∧ H' = H ∧ (ls.take i).find? (fun o => clashB l o L) = none) ⟨none, rfl, rfl, rfl⟩ (fun i σ' H' _ ⟨_, _, e, _⟩ => by rw [e]; exact SqL.of h2) ?_ ?_
    · rintro i y σ' H' hi ⟨u, rfl, rfl, hno⟩
      obtain ⟨e, hdi, hdy⟩ := dpAll_get h3 hi
      obtain ⟨o, ho, rfl⟩ := map_at hdi
      have hok := D.ok o (List.mem_of_getElem? ho)
      refine ⟨_, rfl, _, rfl, _, rfl, d, Z.C, dx, _, _, rfl, h1, T.cl, T.n_length, df_length _ _, v, y, l, o, L, rfl, hv, hdy, hw, hok.1, D.pos, D.big, hl.up (by decide), hok.2.up (by decide), _, rfl, ?_⟩
      have hsp : ls = ls.take i ++ o :: ls.drop (i + 1) := by
        have h4 := List.getElem?_eq_some_iff.mp ho
        obtain ⟨h5, h6⟩ := h4
        rw [← h6, List.getElem_cons_drop, List.take_append_drop]
      cases c : clashB l o L with
      | true =>
        refine iteT ⟨_, rfl, k o y ?_ hdy⟩
        rw [hsp, List.find?_append, hno, List.find?_cons, c]
        rfl
      | false =>
        refine iteF ⟨_, rfl, rfl, ?_⟩
        rw [take_snoc ho, List.find?_append, hno, List.find?_cons, c]
        rfl
    · rintro σ' H' ⟨u, rfl, rfl, hno⟩
      rw [List.take_of_length_le (by rw [hxl]; exact Nat.le_refl _)] at hno
      exact k0 hno
theorem alike_looks (ls : List Lk) : PySem.W.AllAlike (ls.map encL) := PySem.W.AllAlike.of fun _ _ => by simp [encL, PySem.W.alike, PySem.W.alikeAll]
theorem depth_look (l : Lk) : (encL l).depth = 1 := by simp [encL, PyData.depth, PyData.depthAll]
theorem shaped_look {l : Lk} (h : WordOk l.1) : SeqAt.shaped (encL l) = true := by
  unfold SeqAt.shaped
  rw [lay_look h, depth_look]; rfl
theorem lay_looks : ∀ ls : List Lk, (∀ l ∈ ls, WordOk l.1) → PyData.canLayAll0 (ls.map encL) = true
  | [], _ => rfl
  | l :: ls, h => by
    show PyData.canLayAll0 (encL l :: ls.map encL) = true
    rw [PyData.canLayAll0, lay_look (h l List.mem_cons_self), lay_looks ls fun q hq => h q (List.mem_cons_of_mem _ hq)]; rfl
theorem depth_looks : ∀ ls : List Lk, PyData.depthAll (ls.map encL) ≤ 1
  | [] => by simp [PyData.depthAll]
  | l :: ls => by
    show PyData.depthAll (encL l :: ls.map encL) ≤ 1
    rw [PyData.depthAll, depth_look]
    have := depth_looks ls
    omega
theorem shaped_looks {ls : List Lk} (h : ∀ l ∈ ls, WordOk l.1) : SeqAt.shaped (.list (ls.map encL)) = true := by
  unfold SeqAt.shaped
  rw [PyData.canLay0, lay_looks ls h, PyData.depth]
  have := depth_looks ls
  simp; omega
theorem eqv_look (a b : Lk) : PyData.eqv (encL a) (encL b) = decide (a = b) := by
  obtain ⟨a1, a2, a3⟩ := a
  obtain ⟨b1, b2, b3⟩ := b
  simp [encL, PyData.eqv, PyData.eqvAll]
  by_cases h1 : a1 = b1 <;> by_cases h2 : a2 = b2 <;> by_cases h3 : a3 = b3 <;> simp [h1, h2, h3]
theorem any_look (ls : List Lk) (l : Lk) : ((ls.map encL).any fun z => PyData.eqv z (encL l)) = decide (l ∈ ls) := by
  rw [List.any_map]
  rw [Bool.eq_iff_iff, List.any_eq_true, decide_eq_true_eq]
  constructor
  · rintro ⟨o, ho, e⟩
    have e' : decide (o = l) = true := by rw [← eqv_look]; exact e
    rw [← of_decide_eq_true e']; exact ho
  · intro h
    exact ⟨l, h, by show PyData.eqv (encL l) (encL l) = true; rw [eqv_look]; simp⟩
theorem heard_mem {L : Int} {ls : List Lk} {l o : Lk} : o ∈ heard L ls l ↔ o ∈ ls ∨ o = home L l := by
  unfold heard
  by_cases c : home L l ∈ ls
  · rw [if_pos c]
    exact ⟨.inl, fun h => h.elim id fun e => e ▸ c⟩
  · rw [if_neg c, (List.mergeSort_perm _ _).mem_iff, List.mem_append, List.mem_singleton]
theorem heard_len (L : Int) (ls : List Lk) (l : Lk) : (heard L ls l).length ≤ ls.length + 1 := by
  unfold heard
  split
  · omega
  · rw [(List.mergeSort_perm _ _).length_eq, List.length_append]; simp
theorem ok_Dark_hear (T : Tx K w mg Z) : FnOk P w K mg base CX0 5 Z.a_Dark_hear Z.d_Dark_hear P_Dark_hear (spHear Z K) := by
  refine T.F_Dark_hear.ok scDark_hear (fun vs H Q E h => ?_) (fun cdv A outer s H vs Q E hr h => ?_)
  · obtain ⟨d, L, ls, l, rfl, _⟩ := h
    rfl
  · obtain ⟨d, L, ls, l, rfl, D, hw, hl, hlen, hno, k⟩ := h
    obtain ⟨dx, la, xs, h1, h2, h3⟩ := D.ex
    have hfind : ls.find? (fun o => clashB (home L l) o L) = none := List.find?_eq_none.mpr fun o ho => by rw [hno o ho]; exact Bool.false_ne_true
    have hsz := home_sized D.pos D.big hl
    refine ⟨_, (pss_cons (ps_set (i := 4) scDark_hear.nd rfl (Or.inl rfl) (pe_meth (pv 0) T.cl T.m_Darkhome (ok_Darkhome T) (hr.mono (by decide)) T.bb_Darkhome .nil pass0 (pa_cons (pv 1) (pa_cons (pv 2) (pa_cons (pv 3) pa_nil)))))
      (pss_cons (ps_set (i := 5) scDark_hear.nd rfl (Or.inl rfl) (pe_meth (pv 0) T.cl T.m_Darkclashing (ok_Darkclashing T) (hr.mono (by decide)) T.bb_Darkclashing .nil pass0 (pa_cons (pv 4) pa_nil)))
      (C8.pss_cut (ps_if (pt_cmpR op_notN (pv 5) pe_non (nomark _)) (pss_one ps_never) pss_nil)
      (pss_one (ps_if (pt_cmpR (notInDK (K := K) (rooms hr)) (pv 4) (fldK (K := K) (pv 0) rfl) (by rfl)) (pss_one (ps_fld (pv 0) (pe_callB (sortDK (K := K) encL (rooms hr)) (by rfl) T.b_sorted (by decide +kernel) (pa_cons (pe_op op_cat (fldK (K := K) (pv 0) rfl) (pe_lst (pa_cons (pv 4) pa_nil))) pa_nil)) rfl)) pss_nil))))), ?_⟩
    refine ⟨_, rfl, d, dx, _, rfl, h1, df_no _ _ (by decide +kernel) (by decide +kernel), _, rfl, _, rfl, _, rfl, d, L, ls, l, rfl, D, hw, hl, fun H1 r S hr => ?_⟩
    have D1 := D.same S
    refine ⟨_, rfl, d, dx, _, rfl, S _ _ h1, df_no _ _ (by decide +kernel) (by decide +kernel), _, rfl, d, r, L, ls, home L l, rfl, D1, hr, hw, hsz, fun _ => ?_, fun o r ho => ?_⟩
    · refine ⟨fun σ' H' => σ' = [some (.ref d), some (.str l.1), some (.int l.2.1), some (.int l.2.2), some r, some .non] ∧ H' = H1, ?_, ?_⟩
      · exact ⟨_, rfl, rfl, _, rfl, iteF ⟨rfl, rfl⟩⟩
      · rintro σ2 H2 ⟨rfl, rfl⟩
        have hwords : ∀ o ∈ ls, WordOk o.1 := fun o ho => (D.ok o ho).1
        have hds := dpAll_mono S _ _ h3
        refine ⟨_, rfl, _, rfl, d, Z.C, dx, _, _, rfl, S _ _ h1, T.cl, T.n_looks, df_looks _ _, encL (home L l), ls.map encL, hr, .lst (SqL.of (S _ _ h2)) hds, shaped_look hw, shaped_looks hwords, _, rfl, ?_⟩
        rw [any_look]
        have fin : ∀ H', DarkAt Z K H' d L (heard L ls l) → (∀ la dx, H' d = some (.ins Z.C dx (df L la)) → (∃ dx', H d = some (.ins Z.C dx' (df L la))) ∨ H la = none) → (∀ b o, H2 b = some o → b ≠ d → H' b = some o) → Q .non H' := fun H' DD ff kk => k H' DD ff fun b o e hb => kk b o (S b o e) hb
        have okH : ∀ o ∈ heard L ls l, WordOk o.1 ∧ Sized 302 o := fun o ho => by
          rcases heard_mem.mp ho with h | h
          · exact D.ok o h
          · subst h; exact ⟨hw, hsz⟩
        have lenH : (heard L ls l).length ≤ 60 := Nat.le_trans (heard_len L ls l) hlen
        by_cases c : home L l ∈ ls
        · have e : (!decide (home L l ∈ ls)) = false := by simp [c]
          rw [e]
          refine iteF (fin H2 ?_ (fun la' dx' e => ?_) fun _ _ e _ => e)
          · have eh : heard L ls l = ls := if_pos c
            rw [eh]; exact D1
          · have e2 := e.symm.trans (S _ _ h1)
            rw [df_inj e2]
            exact .inl ⟨dx, h1⟩
        · have e : (!decide (home L l ∈ ls)) = true := by simp [c]
          rw [e]
          refine iteT ⟨_, rfl, d, Z.C, dx, _, _, rfl, S _ _ h1, T.cl, T.n_looks, df_looks _ _, _, rfl, (by show 1 ≤ sizeLine; decide), fun p hp => ?_⟩
          have S2 := same_upd (o := HO.lst [r]) hp
          have h2' := S2 _ _ (S _ _ h2)
          refine ⟨la, p, xs, [r], rfl, rfl, h2', upd_same, ?_, fun p2 hp2 => ?_⟩
          · have : xs.length = ls.length := by rw [dpAll_len h3, List.length_map]
            exact Nat.le_of_lt (small1000 (by simp; omega))
          have S3 := S2.trans (same_upd (o := HO.lst (xs ++ [r])) hp2)
          have hall : DpAll K (upd (upd H2 p (.lst [r])) p2 (.lst (xs ++ [r]))) (xs ++ [r]) ((ls ++ [home L l]).map encL) := by
            rw [List.map_append]
            exact dpAll_snoc (dpAll_mono S3 _ _ hds) (dp_mono S3 _ _ hr)
          refine ⟨p2, xs ++ [r], ls ++ [home L l], rfl, SqL.of upd_same, hall, alike_looks _, PySem.W.Sortable.tuples fun _ => ⟨_, _, rfl⟩, fun b _ => by rw [depth_look]; decide, fun p3 ys H3 hp3 S4 hy hys => ?_⟩
          have S5 := S3.trans S4
          have h1' := S5 _ _ (S _ _ h1)
          have hd3 : d ≠ p3 := fun e => by
            subst e
            rw [(S3 _ _ (S _ _ h1))] at hp3
            cases hp3
          refine ⟨_, rfl, d, Z.C, dx, df L la, rfl, h1', T.cl, T.n_looks, (by show 2 < 1000; decide), ?_⟩
          refine fin _ ⟨⟨dx, p3, ys, Eq.trans upd_same (congrArg (fun q => some (HO.ins Z.C dx q)) (df_put3 L la p3)), (upd_ne (Ne.symm hd3)).trans hy, ?_⟩, D.pos, D.big, okH, lenH⟩ (fun la' dx' e => ?_) fun b o e hb => (upd_ne hb).trans (S5 _ _ e)
          rotate_left
          · rw [upd_same, df_put3] at e
            rw [← df_inj e]
            exact .inr (S.free (S3.free hp3))
          have eh : heard L ls l = (ls ++ [home L l]).mergeSort (PySem.W.dataLe false encL) := if_neg c
          rw [eh]
          exact dpAll_tups (Tups.upd_ins h1') _ _ (noLs_map noL_encL _) hys
    · rw [hfind] at ho; cases ho
end
end KA
namespace KA
open PySem PySem.Spec PyProof.Rows L2 DP
/-! What the looks of a side tell, in plain Lean (laws that do without the tray's Law6). -/
theorem side_low {x : Str} (h : onSide "slow" x = true) : x = "at" ∨ x = "from" := by
  unfold onSide at h
  rw [if_pos rfl, Bool.or_eq_true, decide_eq_true_eq, decide_eq_true_eq] at h
  exact h
theorem side_high {x : Str} (h : onSide "fast" x = true) : x = "at" ∨ x = "upto" := by
  unfold onSide at h
  rw [if_neg slow_ne, Bool.or_eq_true, decide_eq_true_eq, decide_eq_true_eq] at h
  exact h
theorem plc_home {L : Int} (hL : 0 < L) (sd : Str) (l : Lk) (x : Int) : plc sd (home L l) x L = plc sd l x L := by
  unfold plc home
  split
  · show l.2.2 - l.2.1 / L * L + (x - (l.2.1 - l.2.1 / L * L)) / L * L = l.2.2 + (x - l.2.1) / L * L
    have e : x - (l.2.1 - l.2.1 / L * L) = (x - l.2.1) + l.2.1 / L * L := by omega
    rw [e, Int.add_mul_ediv_right _ _ (by omega), Int.add_mul]; omega
  · show l.2.2 - l.2.1 / L * L - (l.2.1 - l.2.1 / L * L - x) / L * L = l.2.2 - (l.2.1 - x) / L * L
    have e : l.2.1 - l.2.1 / L * L - x = (l.2.1 - x) + (-(l.2.1 / L)) * L := by rw [Int.neg_mul]; omega
    rw [e, Int.add_mul_ediv_right _ _ (by omega), Int.add_mul, Int.neg_mul]; omega
theorem fold_mem {L : Int} : ∀ (ls acc : List Lk) (o : Lk), o ∈ ls.foldl (heard L) acc ↔ o ∈ acc ∨ ∃ l ∈ ls, o = home L l
  | [], acc, o => by simp
  | l :: ls, acc, o => by
    rw [List.foldl_cons, fold_mem ls, heard_mem]
    constructor
    · rintro ((h | h) | ⟨q, hq, e⟩)
      · exact .inl h
      · exact .inr ⟨l, List.mem_cons_self, h⟩
      · exact .inr ⟨q, List.mem_cons_of_mem _ hq, e⟩
    · rintro (h | ⟨q, hq, e⟩)
      · exact .inl (.inl h)
      · rcases List.mem_cons.mp hq with h | h
        · subst h; exact .inl (.inr e)
        · exact .inr ⟨q, h, e⟩
theorem fold_len {L : Int} : ∀ (ls acc : List Lk), (ls.foldl (heard L) acc).length ≤ acc.length + ls.length
  | [], acc => by simp
  | l :: ls, acc => by
    have h1 := fold_len (L := L) ls (heard L acc l)
    have h2 := heard_len L acc l
    rw [List.foldl_cons, List.length_cons]; omega
theorem mem_side {sd : Str} {ls : List Lk} {l : Lk} : l ∈ sideOf sd ls ↔ l ∈ ls ∧ onSide sd l.1 = true := by
  unfold sideOf; rw [List.mem_filter]
/-- the best of the looks is the best of them brought home -/
theorem best_home {L : Int} (hL : 0 < L) {sd : Str} {ls hs : List Lk} {x m : Int} (hh : ∀ o, o ∈ hs ↔ ∃ l ∈ ls, o = home L l) (h : IsBest sd (sideOf sd hs) x L m) : IsBest sd (sideOf sd ls) x L m := by
  obtain ⟨⟨o, ho, e⟩, h2⟩ := h
  obtain ⟨ho1, ho2⟩ := mem_side.mp ho
  obtain ⟨l, hl, rfl⟩ := (hh o).mp ho1
  rw [plc_home hL] at e
  refine ⟨⟨l, mem_side.mpr ⟨hl, ho2⟩, e⟩, fun q hq => ?_⟩
  obtain ⟨hq1, hq2⟩ := mem_side.mp hq
  have := h2 (home L q) (mem_side.mpr ⟨(hh _).mpr ⟨q, hq1, rfl⟩, hq2⟩)
  rw [plc_home hL] at this
  exact this
theorem best_one {sd : Str} {ls : List Lk} {x L m m' : Int} (h : IsBest sd ls x L m) (h' : IsBest sd ls x L m') : m = m' := by
  obtain ⟨⟨a, ha, ea⟩, h2⟩ := h
  obtain ⟨⟨b, hb, eb⟩, h2'⟩ := h'
  have q1 := h2 b hb
  have q2 := h2' a ha
  rw [eb] at q1
  rw [ea] at q2
  split at q1 <;> split at q2 <;> first | omega | (exfalso; simp_all)
theorem side_nil {L : Int} {sd : Str} {ls hs : List Lk} (hh : ∀ o, o ∈ hs ↔ ∃ l ∈ ls, o = home L l) : sideOf sd hs = [] ↔ sideOf sd ls = [] := by
  constructor
  · intro h
    refine List.eq_nil_iff_forall_not_mem.mpr fun l hl => ?_
    obtain ⟨h1, h2⟩ := mem_side.mp hl
    have : home L l ∈ sideOf sd hs := mem_side.mpr ⟨(hh _).mpr ⟨l, h1, rfl⟩, h2⟩
    rw [h] at this; cases this
  · intro h
    refine List.eq_nil_iff_forall_not_mem.mpr fun o ho => ?_
    obtain ⟨h1, h2⟩ := mem_side.mp ho
    obtain ⟨l, hl, rfl⟩ := (hh o).mp h1
    have : l ∈ sideOf sd ls := mem_side.mpr ⟨hl, h2⟩
    rw [h] at this; cases this
theorem plc_shift {L : Int} (hL : 0 < L) (sd : Str) (l : Lk) (x k : Int) : plc sd l (x + k * L) L = plc sd l x L + k * L := by
  unfold plc
  split
  · have e : x + k * L - l.2.1 = (x - l.2.1) + k * L := by omega
    rw [e, Int.add_mul_ediv_right _ _ (by omega), Int.add_mul]; omega
  · have e : l.2.1 - (x + k * L) = (l.2.1 - x) + (-k) * L := by rw [Int.neg_mul]; omega
    rw [e, Int.add_mul_ediv_right _ _ (by omega), Int.add_mul, Int.neg_mul]; omega
theorem far_home {L : Int} (hL : 0 < L) (a b : Lk) : tooFar (home L a) (home L b) L = tooFar a b L := by
  unfold tooFar
  have e1 : (home L b).2.2 = b.2.2 - b.2.1 / L * L := rfl
  have e2 : (home L b).2.1 = b.2.1 + (-(b.2.1 / L)) * L := by show b.2.1 - b.2.1 / L * L = _; rw [Int.neg_mul]; omega
  rw [e1, e2, plc_home hL, plc_shift hL, Int.neg_mul]
  congr 1
  rw [decide_eq_decide]
  constructor <;> intro h <;> omega
theorem clash_home {L : Int} (hL : 0 < L) (a b : Lk) : clashB (home L a) (home L b) L = clashB a b L := by
  unfold clashB
  rw [far_home hL, far_home hL]
/-- the best place, as a number -/
noncomputable def bst (sd : Str) (ls : List Lk) (x L : Int) : Int := by
  classical exact if h : ∃ m, IsBest sd ls x L m then h.choose else 0
theorem bst_of {sd : Str} {ls : List Lk} {x L m : Int} (h : IsBest sd ls x L m) : bst sd ls x L = m := by
  have e : ∃ m, IsBest sd ls x L m := ⟨m, h⟩
  unfold bst
  rw [dif_pos e]
  exact best_one e.choose_spec h
theorem bst_slow {ls : List Lk} (h : ls ≠ []) (x L : Int) : IsBest "slow" ls x L (bst "slow" ls x L) := by
  cases ls with
  | nil => exact absurd rfl h
  | cons l r =>
    obtain ⟨q, _, _, b⟩ := max_step x L l r
    rw [bst_of b]; exact b
theorem bst_fast {ls : List Lk} (h : ls ≠ []) (x L : Int) : IsBest "fast" ls x L (bst "fast" ls x L) := by
  cases ls with
  | nil => exact absurd rfl h
  | cons l r =>
    obtain ⟨q, _, _, b⟩ := min_step x L l r
    rw [bst_of b]; exact b
theorem plc_mono {L : Int} (hL : 0 < L) (sd : Str) (l : Lk) {x y : Int} (h : x ≤ y) : plc sd l x L ≤ plc sd l y L := by
  unfold plc
  split
  · have h1 := Int.mul_le_mul_of_nonneg_right (Int.ediv_le_ediv hL (by omega : x - l.2.1 ≤ y - l.2.1)) (Int.le_of_lt hL)
    omega
  · have h1 := Int.mul_le_mul_of_nonneg_right (Int.ediv_le_ediv hL (by omega : l.2.1 - y ≤ l.2.1 - x)) (Int.le_of_lt hL)
    omega
theorem best_mono {L : Int} (hL : 0 < L) {sd : Str} {ls : List Lk} {x y m m' : Int} (h : IsBest sd ls x L m) (h' : IsBest sd ls y L m') (hxy : x ≤ y) : m ≤ m' := by
  obtain ⟨⟨l, hl, e⟩, h2⟩ := h
  obtain ⟨⟨l', hl', e'⟩, h2'⟩ := h'
  have q1 := h2' l hl
  have q2 := h2 l' hl'
  by_cases c : sd = "slow"
  · rw [if_pos c] at q1
    have := plc_mono hL sd l hxy
    omega
  · rw [if_neg c] at q2
    have := plc_mono hL sd l' hxy
    omega
theorem best_shift {L : Int} (hL : 0 < L) {sd : Str} {ls : List Lk} {x m : Int} (k : Int) (h : IsBest sd ls x L m) : IsBest sd ls (x + k * L) L (m + k * L) := by
  obtain ⟨⟨l, hl, e⟩, h2⟩ := h
  refine ⟨⟨l, hl, by rw [plc_shift hL, e]⟩, fun q hq => ?_⟩
  have := h2 q hq
  rw [plc_shift hL]
  split at this
  · rw [if_pos (by assumption)]; omega
  · rw [if_neg (by assumption)]; omega
theorem far_le {L : Int} {a b : Lk} (h : tooFar a b L = false) (ha : onSide "slow" a.1 = true) (hb : onSide "fast" b.1 = true) : plc "slow" a b.2.1 L ≤ b.2.2 := by
  unfold tooFar at h
  rw [ha, hb, Bool.true_and, Bool.true_and, decide_eq_false_iff_not] at h
  omega
theorem far_no {L : Int} {a b : Lk} (h : onSide "slow" a.1 = true → onSide "fast" b.1 = true → plc "slow" a b.2.1 L ≤ b.2.2) : tooFar a b L = false := by
  unfold tooFar
  cases c1 : onSide "slow" a.1 with
  | false => rfl
  | true =>
    cases c2 : onSide "fast" b.1 with
    | false => rfl
    | true =>
      rw [Bool.true_and, Bool.true_and, decide_eq_false_iff_not]
      have := h c1 c2
      omega
theorem no_far_of {L : Int} {a b : Lk} (h : clashB a b L = false) : tooFar a b L = false ∧ tooFar b a L = false := by
  unfold clashB at h
  rw [Bool.or_eq_false_iff] at h
  exact h
theorem cross {L : Int} (hL : 0 < L) {a b : Lk} (h : plc "slow" a b.2.1 L ≤ b.2.2) (x : Int) : plc "slow" a x L ≤ plc "fast" b x L := by
  rw [plc_fast]
  have hj : (b.2.1 - x) / L * L ≤ b.2.1 - x := by
    have := Int.mul_ediv_add_emod (b.2.1 - x) L
    have h0 := Int.emod_nonneg (b.2.1 - x) (show L ≠ 0 by omega)
    rw [Int.mul_comm] at this
    omega
  generalize (b.2.1 - x) / L = j at hj ⊢
  have h1 := plc_mono hL "slow" a (by omega : x + j * L ≤ b.2.1)
  rw [plc_shift hL] at h1
  omega
theorem low_high {L : Int} (hL : 0 < L) {hs : List Lk} (hnc : ∀ a ∈ hs, ∀ b ∈ hs, clashB a b L = false) {x m m' : Int} (h : IsBest "slow" (sideOf "slow" hs) x L m) (h' : IsBest "fast" (sideOf "fast" hs) x L m') : m ≤ m' := by
  obtain ⟨⟨l, hl, e⟩, _⟩ := h
  obtain ⟨⟨l', hl', e'⟩, _⟩ := h'
  obtain ⟨h1, h2⟩ := mem_side.mp hl
  obtain ⟨h1', h2'⟩ := mem_side.mp hl'
  rw [← e, ← e']
  exact cross hL (far_le (no_far_of (hnc l h1 l' h1')).1 h2 h2') x
end KA
namespace KA
open PySem PySem.Spec PyProof.Rows L2 DP
/-- the length of the list at g -/
def lenAt (H : Hp) (g : Addr) : Nat := match H g with | some (.lst xs) => xs.length | _ => 0
theorem lenAt_of {H : Hp} {g : Addr} {xs : List V} (h : H g = some (.lst xs)) : lenAt H g = xs.length := by unfold lenAt; rw [h]
theorem atI_last {α : Type} {xs : List α} (h : 0 < xs.length) : atI xs (-1) = xs[xs.length - 1]? := by
  unfold atI ixN
  rw [if_neg (by decide), if_pos (by omega)]
  show xs[_]? = _
  congr 1
  omega
theorem same_made {H : Hp} {d dx : Addr} {o : HO} (hdn : H d = none) (hdx : H dx = none) : Same H (upd (upd H dx (.own d)) d o) := fun b o e => by
  rw [upd_ne (ne_of_none e hdn), upd_ne (ne_of_none e hdx)]; exact e
/-- all stands but one object -/
def Out (d : Addr) (H H' : Hp) : Prop := ∀ c o, H c = some o → c ≠ d → H' c = some o
theorem Out.tups {d C dx : Addr} {fs : List (Str × V)} {H H' : Hp} (k : Out d H H') (h : H d = some (.ins C dx fs)) : Tups H H' := fun c zs hc => by
  have hcb : c ≠ d := by
    rintro rfl
    rcases hc with e | ⟨q, e⟩ <;> rw [h] at e <;> cases e
  rcases hc with e | ⟨q, e⟩
  · exact .inl (k _ _ e hcb)
  · exact .inr ⟨q, k _ _ e hcb⟩
theorem Out.dark {Z : Ad} {K : PySem.W.Frag} {H H' : Hp} {d e C dx : Addr} {fs : List (Str × V)} {L : Int} {ls : List Lk} (k : Out d H H') (D : DarkAt Z K H e L ls) (h : H d = some (.ins C dx fs)) (hne : e ≠ d) : DarkAt Z K H' e L ls := by
  obtain ⟨dx2, la, vs, h1, h2, h3⟩ := D.ex
  exact ⟨⟨dx2, la, vs, k _ _ h1 hne, k _ _ h2 (fun q => by rw [q, h] at h2; cases h2), dpAll_tups (k.tups h) _ _ (noLs_map noL_encL ls) h3⟩, D.pos, D.big, D.ok, D.len⟩
theorem Out.sqL {K : PySem.W.Frag} {H H' : Hp} {d C dx p : Addr} {fs : List (Str × V)} {xs : List V} (k : Out d H H') (h : H d = some (.ins C dx fs)) (q : SqL K H p xs) : SqL K H' p xs := by
  rcases q with q | q
  · have hp : p ≠ d := by
      rintro rfl
      rcases q with e | ⟨z, e⟩ <;> rw [h] at e <;> cases e
    rcases q with e | ⟨z, e⟩
    · exact .inl (.inl (k _ _ e hp))
    · exact .inl (.inr ⟨z, k _ _ e hp⟩)
  · exact .inr q
end KA
namespace KA
open PySem PySem.Spec PyProof.Rows L2 DP
/-! ### hands under which nobody overtakes, and looks that they fit -/
structure Hand (L : Int) (f : Int → Int) : Prop where
  mono : ∀ x y, x ≤ y → f x ≤ f y
  turn : ∀ x k, f (x + k * L) = f x + k * L
def Fits (f : Int → Int) (l : Lk) : Prop := (onSide "slow" l.1 = true → l.2.2 ≤ f l.2.1) ∧ (onSide "fast" l.1 = true → f l.2.1 ≤ l.2.2)
theorem fit_low {L : Int} (hL : 0 < L) {f : Int → Int} (F : Hand L f) {l : Lk} (h : Fits f l) (hs : onSide "slow" l.1 = true) (x : Int) : plc "slow" l x L ≤ f x := by
  have h1 := h.1 hs
  have h2 := Int.mul_ediv_add_emod (x - l.2.1) L
  have h3 := Int.emod_nonneg (x - l.2.1) (show L ≠ 0 by omega)
  rw [Int.mul_comm] at h2
  have h4 := F.mono (l.2.1 + (x - l.2.1) / L * L) x (by omega)
  rw [F.turn] at h4
  rw [plc_slow]; omega
theorem fit_high {L : Int} (hL : 0 < L) {f : Int → Int} (F : Hand L f) {l : Lk} (h : Fits f l) (hs : onSide "fast" l.1 = true) (x : Int) : f x ≤ plc "fast" l x L := by
  have h1 := h.2 hs
  have h2 := Int.mul_ediv_add_emod (l.2.1 - x) L
  have h3 := Int.emod_nonneg (l.2.1 - x) (show L ≠ 0 by omega)
  rw [Int.mul_comm] at h2
  have h4 := F.mono x (l.2.1 + (-((l.2.1 - x) / L)) * L) (by rw [Int.neg_mul]; omega)
  rw [F.turn, Int.neg_mul] at h4
  rw [plc_fast]; omega
theorem fit_far {L : Int} (hL : 0 < L) {f : Int → Int} (F : Hand L f) {a b : Lk} (ha : Fits f a) (hb : Fits f b) : tooFar a b L = false :=
  far_no fun h1 h2 => Int.le_trans (fit_low hL F ha h1 b.2.1) (hb.2 h2)
theorem fit_clash {L : Int} (hL : 0 < L) {f : Int → Int} (F : Hand L f) {a b : Lk} (ha : Fits f a) (hb : Fits f b) : clashB a b L = false := by
  unfold clashB
  rw [fit_far hL F ha hb, fit_far hL F hb ha]; rfl
theorem fit_home {L : Int} {f : Int → Int} (F : Hand L f) {l : Lk} (h : Fits f l) : Fits f (home L l) := by
  have e : f (home L l).2.1 = f l.2.1 - l.2.1 / L * L := by
    show f (l.2.1 - l.2.1 / L * L) = _
    have := F.turn l.2.1 (-(l.2.1 / L))
    rw [Int.neg_mul] at this
    rw [Int.sub_eq_add_neg, this]; omega
  refine ⟨fun hs => ?_, fun hs => ?_⟩
  · have := h.1 hs
    rw [e]
    show l.2.2 - l.2.1 / L * L ≤ _
    omega
  · have := h.2 hs
    rw [e]
    show _ ≤ l.2.2 - l.2.1 / L * L
    omega
/-- some places, and where they are led: rising, within a turn -/
structure Rises (L : Int) (prs : List (Int × Int)) : Prop where
  ne : prs ≠ []
  ord : prs.Pairwise fun a b => a.1 < b.1 ∧ a.2 ≤ b.2
  on : ∀ s ∈ prs, 0 ≤ s.1 ∧ s.1 < L
  turn : ∃ b : Int, b.natAbs < 2 ^ 104 ∧ ∀ s ∈ prs, b ≤ s.2 ∧ s.2 ≤ b + L
theorem pw_at {α : Type} {R : α → α → Prop} {l : List α} (h : l.Pairwise R) {a b : α} (ha : a ∈ l) (hb : b ∈ l) : a = b ∨ R a b ∨ R b a := by
  obtain ⟨i, hi, rfl⟩ := List.getElem_of_mem ha
  obtain ⟨j, hj, rfl⟩ := List.getElem_of_mem hb
  rw [List.pairwise_iff_getElem] at h
  rcases Nat.lt_trichotomy i j with e | e | e
  · exact .inr (.inl (h i j hi hj e))
  · subst e; exact .inl rfl
  · exact .inr (.inr (h j i hj hi e))
def atL (s : Int × Int) : Lk := ("at", s.1, s.2)
theorem Rises.lead {L : Int} (hL : 0 < L) {prs : List (Int × Int)} (R : Rises L prs) : ∃ f, Hand L f ∧ ∀ s ∈ prs, f s.1 = s.2 := by
  have hne : prs.map atL ≠ [] := fun e => R.ne (List.map_eq_nil_iff.mp e)
  refine ⟨fun x => bst "slow" (prs.map atL) x L, ⟨fun x y h => best_mono hL (bst_slow hne x L) (bst_slow hne y L) h, fun x k => bst_of (best_shift hL k (bst_slow hne x L))⟩, fun s hs => bst_of ⟨⟨atL s, List.mem_map.mpr ⟨s, hs, rfl⟩, ?_⟩, fun l hl => ?_⟩⟩
  · rw [plc_slow]
    show s.2 + (s.1 - s.1) / L * L = s.2
    rw [Int.sub_self, Int.zero_ediv, Int.zero_mul, Int.add_zero]
  · obtain ⟨q, hq, rfl⟩ := List.mem_map.mp hl
    rw [if_pos rfl, plc_slow]
    show q.2 + (s.1 - q.1) / L * L ≤ s.2
    have h1 := R.on s hs
    have h2 := R.on q hq
    obtain ⟨b, _, hb⟩ := R.turn
    have h3 := hb s hs
    have h4 := hb q hq
    rcases pw_at R.ord hq hs with e | e | e
    · rw [e, Int.sub_self, Int.zero_ediv, Int.zero_mul]; omega
    · rw [Int.ediv_eq_zero_of_lt (by omega) (by omega), Int.zero_mul]; omega
    · have e2 : (s.1 - q.1) / L = -1 := by
        have e1 : s.1 - q.1 = (s.1 - q.1 + L) + (-1) * L := by omega
        rw [e1, Int.add_mul_ediv_right _ _ (by omega), Int.ediv_eq_zero_of_lt (by omega) (by omega)]
        rfl
      rw [e2]; omega
/-- a look that is said of such places -/
def Said (L : Int) (prs : List (Int × Int)) (l : Lk) : Prop := WordOk l.1 ∧ ∃ s ∈ prs, l.2.1 = s.1 ∧ (l.1 = "at" → l.2.2 = s.2) ∧ (l.1 = "from" → l.2.2 ≤ s.2 ∧ s.2 ≤ l.2.2 + L) ∧ (l.1 = "upto" → s.2 ≤ l.2.2 ∧ l.2.2 ≤ s.2 + L)
theorem Said.fits {L : Int} {prs : List (Int × Int)} {f : Int → Int} (hf : ∀ s ∈ prs, f s.1 = s.2) {l : Lk} (h : Said L prs l) : Fits f l := by
  obtain ⟨_, s, hs, e, h1, h2, h3⟩ := h
  rw [Fits, e, hf s hs]
  refine ⟨fun c => ?_, fun c => ?_⟩
  · rcases side_low c with e | e
    · exact Int.le_of_eq (h1 e)
    · exact (h2 e).1
  · rcases side_high c with e | e
    · exact Int.le_of_eq (h1 e).symm
    · exact (h3 e).1
theorem Said.sized {L : Int} (hL : 0 < L) (hLb : L.natAbs < 2 ^ 100) {prs : List (Int × Int)} (R : Rises L prs) {l : Lk} (h : Said L prs l) : Sized 110 l := by
  obtain ⟨w, s, hs, e, h1, h2, h3⟩ := h
  have h4 := R.on s hs
  obtain ⟨b, hb, hb2⟩ := R.turn
  have h5 := hb2 s hs
  refine ⟨?_, ?_⟩
  · rw [e]; exact lt_up (Nat.lt_of_le_of_lt (by omega : s.1.natAbs ≤ L.natAbs) hLb) (by decide)
  · have e1 : (2 : Nat) ^ 110 = 2 ^ 104 * 64 := by decide
    have e2 : (2 : Nat) ^ 100 ≤ 2 ^ 104 := by decide
    rw [e1]
    generalize (2 : Nat) ^ 104 = B at hb e2 ⊢
    generalize (2 : Nat) ^ 100 = C at hLb e2
    rcases w with w | w | w
    · rw [h1 w]; omega
    · have := h2 w; omega
    · have := h3 w; omega
/-- heard some turns on -/
theorem home_turned {L : Int} (hL : 0 < L) (w : Str) (x y k : Int) : home L (w, x + k * L, y + k * L) = home L (w, x, y) := by
  have e : (x + k * L) / L = x / L + k := by rw [Int.add_mul_ediv_right _ _ (by omega)]
  show (w, x + k * L - (x + k * L) / L * L, y + k * L - (x + k * L) / L * L) = (w, x - x / L * L, y - x / L * L)
  rw [e, Int.add_mul]
  congr 1
  congr 1 <;> omega
theorem heard_turned {L : Int} (hL : 0 < L) (ls : List Lk) (w : Str) (x y k : Int) : heard L ls (w, x + k * L, y + k * L) = heard L ls (w, x, y) := by
  unfold heard
  rw [home_turned hL]
/-- all heard -/
def heardAll (L : Int) (ls : List Lk) : List Lk := ls.foldl (heard L) []
theorem heardAll_mem {L : Int} {ls : List Lk} (o : Lk) : o ∈ heardAll L ls ↔ ∃ l ∈ ls, o = home L l := by
  unfold heardAll
  rw [fold_mem]; simp
end KA
namespace KA
open PySem PySem.Spec PyProof.Rows L2 DP
/-! ### where hands, used by turns, lead a place -/
theorem bst_is {sd : Str} (hs : SideOk sd) {ls : List Lk} (h : ls ≠ []) (x L : Int) : IsBest sd ls x L (bst sd ls x L) := by
  rcases hs with e | e <;> subst e
  · exact bst_slow h x L
  · exact bst_fast h x L
/-- one use: none where there is no look of the side -/
noncomputable def stp (sd : Str) (L : Int) (ls : List Lk) (y : Int) : Option Int := by
  classical exact if ls = [] then none else some (bst sd ls y L)
theorem stp_nil {sd : Str} {L y : Int} : stp sd L [] y = none := by
  unfold stp; rw [if_pos rfl]
theorem stp_best {sd : Str} {L y m : Int} {ls : List Lk} (h : IsBest sd ls y L m) : stp sd L ls y = some m := by
  obtain ⟨⟨l, hl, _⟩, _⟩ := id h
  have hne : ls ≠ [] := fun e => by rw [e] at hl; cases hl
  unfold stp
  rw [if_neg hne, bst_of h]
theorem stp_some {sd : Str} (hs : SideOk sd) {L y : Int} {ls : List Lk} (h : ls ≠ []) : stp sd L ls y = some (bst sd ls y L) := stp_best (bst_is hs h y L)
theorem stp_shift {sd : Str} (hs : SideOk sd) {L : Int} (hL : 0 < L) (ls : List Lk) (y k : Int) : stp sd L ls (y + k * L) = (stp sd L ls y).map (· + k * L) := by
  by_cases h : ls = []
  · subst h; rw [stp_nil, stp_nil]; rfl
  · rw [stp_best (best_shift hL k (bst_is hs h y L)), stp_best (bst_is hs h y L)]; rfl
noncomputable def it (sd : Str) (L : Int) (kn : List (List Lk)) (x : Int) : Nat → Option Int
  | 0 => some x
  | n + 1 => (it sd L kn x n).bind (stp sd L (kn.getD (n % kn.length) []))
theorem it_succ {sd : Str} {L : Int} {kn : List (List Lk)} {x : Int} (n : Nat) : it sd L kn x (n + 1) = (it sd L kn x n).bind (stp sd L (kn.getD (n % kn.length) [])) := rfl
theorem it_none {sd : Str} {L : Int} {kn : List (List Lk)} {x : Int} {n : Nat} (h : it sd L kn x n = none) : ∀ k, it sd L kn x (n + k) = none
  | 0 => h
  | k + 1 => by
    show (it sd L kn x (n + k)).bind _ = none
    rw [it_none h k]; rfl
/-- where it stands at the same hand, whole turns on, it goes on alike -/
theorem it_turn {sd : Str} (hs : SideOk sd) {L : Int} (hL : 0 < L) {kn : List (List Lk)} {x k : Int} {s t : Nat} (hm : s % kn.length = t % kn.length) (h : it sd L kn x t = (it sd L kn x s).map (· + k * L)) : ∀ n, it sd L kn x (t + n) = (it sd L kn x (s + n)).map (· + k * L)
  | 0 => h
  | n + 1 => by
    show it sd L kn x (t + n + 1) = (it sd L kn x (s + n + 1)).map _
    rw [it_succ, it_succ, it_turn hs hL hm h n]
    have e : (t + n) % kn.length = (s + n) % kn.length := by rw [Nat.add_mod, ← hm, ← Nat.add_mod]
    rw [e]
    cases it sd L kn x (s + n) with
    | none => rfl
    | some y => exact stp_shift hs hL _ y k
theorem it_laps {sd : Str} (hs : SideOk sd) {L : Int} (hL : 0 < L) {kn : List (List Lk)} {x k : Int} {s p : Nat} (hm : s % kn.length = (s + p) % kn.length) (h : it sd L kn x (s + p) = (it sd L kn x s).map (· + k * L)) (r : Nat) : ∀ t : Nat, it sd L kn x (s + r + t * p) = (it sd L kn x (s + r)).map (· + t * (k * L))
  | 0 => by
    rw [Nat.zero_mul]
    cases it sd L kn x (s + r) with
    | none => simp
    | some y => simp
  | t + 1 => by
    have h1 := it_turn hs hL hm h (r + t * p)
    have e1 : s + p + (r + t * p) = s + r + (t + 1) * p := by rw [Nat.add_mul]; omega
    have e2 : s + (r + t * p) = s + r + t * p := by omega
    rw [e1, e2] at h1
    rw [h1, it_laps hs hL hm h r t]
    cases it sd L kn x (s + r) with
    | none => rfl
    | some y =>
      show some (y + (t : Int) * (k * L) + k * L) = some (y + ((t + 1 : Nat) : Int) * (k * L))
      rw [Int.natCast_add, Int.add_mul]
      congr 1
      omega
/-- two rounds that tell the same of each place lead alike -/
theorem it_alike {sd : Str} {L : Int} {kn kn' : List (List Lk)} {x : Int} (hl : kn.length = kn'.length) (h : ∀ i y, i < kn.length → stp sd L (kn.getD i []) y = stp sd L (kn'.getD i []) y) (hm : 0 < kn.length) : ∀ n, it sd L kn x n = it sd L kn' x n
  | 0 => rfl
  | n + 1 => by
    show (it sd L kn x n).bind _ = (it sd L kn' x n).bind _
    rw [it_alike hl h hm n]
    cases it sd L kn' x n with
    | none => rfl
    | some y =>
      show stp sd L (kn.getD (n % kn.length) []) y = stp sd L (kn'.getD (n % kn'.length) []) y
      rw [← hl]
      exact h _ y (Nat.mod_lt _ hm)
/-! ### the walk -/
structure WalkOk (sd : Str) (L : Int) (kn : List (List Lk)) (x : Int) (ps : List Int) (tl : List Lk) : Prop where
  len : ps.length = tl.length + 1
  zero : ps[0]? = some x
  step : ∀ i l, tl[i]? = some l → l ∈ kn.getD (i % kn.length) [] ∧ ∃ y z, ps[i]? = some y ∧ ps[i + 1]? = some z ∧ plc sd l y L = z ∧ IsBest sd (kn.getD (i % kn.length) []) y L z
/-- how it ends -/
def EndOk (L : Int) (kn : List (List Lk)) (ps : List Int) (tl : List Lk) : Option Nat → Prop
  | none => kn.getD (tl.length % kn.length) [] = []
  | some s => s < tl.length ∧ s % kn.length = tl.length % kn.length ∧ ∃ a b, ps[s]? = some a ∧ ps[tl.length]? = some b ∧ a % L = b % L
theorem WalkOk.it {sd : Str} {L : Int} {kn : List (List Lk)} {x : Int} {ps : List Int} {tl : List Lk} (W : WalkOk sd L kn x ps tl) : ∀ (i : Nat) (y : Int), ps[i]? = some y → it sd L kn x i = some y
  | 0, y, h => by
    rw [W.zero] at h
    exact h
  | i + 1, y, h => by
    have hi := (List.getElem?_eq_some_iff.mp h).1
    have hl := W.len
    obtain ⟨_, y0, z, h1, h2, _, h4⟩ := W.step i _ (List.getElem?_eq_getElem (by omega : i < tl.length))
    rw [h2] at h
    rw [← Option.some.inj h]
    show (KA.it sd L kn x i).bind _ = _
    rw [W.it i y0 h1]
    exact stp_best h4
/-- behind any uses: the walk's own answer -/
theorem behind_in {sd : Str} {L : Int} {kn : List (List Lk)} {x : Int} {ps : List Int} {tl : List Lk} (W : WalkOk sd L kn x ps tl) {n : Nat} (h : n < ps.length) : it sd L kn x n = some (ps.getD n 0) := by
  refine W.it n _ ?_
  rw [List.getD_eq_getElem?_getD, List.getElem?_eq_getElem h]; rfl
theorem behind_none {sd : Str} {L : Int} {kn : List (List Lk)} {x : Int} {ps : List Int} {tl : List Lk} (W : WalkOk sd L kn x ps tl) (h : EndOk L kn ps tl none) {n : Nat} (hn : ps.length ≤ n) : it sd L kn x n = none := by
  have hl := W.len
  have h1 : it sd L kn x (tl.length + 1) = none := by
    show (it sd L kn x tl.length).bind _ = none
    rw [show kn.getD (tl.length % kn.length) [] = [] from h]
    cases it sd L kn x tl.length with
    | none => rfl
    | some y => exact stp_nil
  have h2 := it_none h1 (n - (tl.length + 1))
  rwa [show tl.length + 1 + (n - (tl.length + 1)) = n by omega] at h2
theorem behind_laps {sd : Str} (hs : SideOk sd) {L : Int} (hL : 0 < L) {kn : List (List Lk)} {x : Int} {ps : List Int} {tl : List Lk} (W : WalkOk sd L kn x ps tl) {s : Nat} (h : EndOk L kn ps tl (some s)) (t r : Nat) (hr : s + r < ps.length) :
    it sd L kn x (s + r + t * (tl.length - s)) = some (ps.getD (s + r) 0 + t * (ps.getD tl.length 0 - ps.getD s 0)) := by
  obtain ⟨h1, h2, a, b, ha, hb, hab⟩ := h
  have ea := W.it s a ha
  have eb := W.it _ b hb
  have e1 : s + (tl.length - s) = tl.length := by omega
  obtain ⟨k, hk⟩ : ∃ k, b = a + k * L := by
    refine ⟨b / L - a / L, ?_⟩
    have q1 := Int.mul_ediv_add_emod a L
    have q2 := Int.mul_ediv_add_emod b L
    rw [Int.mul_comm] at q1 q2
    rw [Int.sub_mul]
    omega
  have hit : it sd L kn x (s + (tl.length - s)) = (it sd L kn x s).map (· + k * L) := by
    rw [e1, ea, eb, hk]; rfl
  rw [it_laps hs hL (by rw [e1]; exact h2) hit r t, behind_in W hr]
  have ga : ps.getD s 0 = a := by rw [List.getD_eq_getElem?_getD, ha]; rfl
  have gb : ps.getD tl.length 0 = b := by rw [List.getD_eq_getElem?_getD, hb]; rfl
  rw [ga, gb, hk]
  show some (ps.getD (s + r) 0 + (t : Int) * (k * L)) = some (ps.getD (s + r) 0 + (t : Int) * (a + k * L - a))
  rw [show a + k * L - a = k * L by omega]
/-! ### sizes -/
theorem plc_near {L : Int} (hL : 0 < L) (sd : Str) (l : Lk) (x : Int) : (plc sd l x L - x).natAbs ≤ (l.2.2 - l.2.1).natAbs + L.natAbs := by
  unfold plc
  split
  · have q := Int.mul_ediv_add_emod (x - l.2.1) L
    have q0 := Int.emod_nonneg (x - l.2.1) (show L ≠ 0 by omega)
    have q1 := Int.emod_lt_of_pos (x - l.2.1) hL
    rw [Int.mul_comm] at q
    omega
  · have q := Int.mul_ediv_add_emod (l.2.1 - x) L
    have q0 := Int.emod_nonneg (l.2.1 - x) (show L ≠ 0 by omega)
    have q1 := Int.emod_lt_of_pos (l.2.1 - x) hL
    rw [Int.mul_comm] at q
    omega
/-- a hand's looks are such as a Dark keeps -/
def KnOk (kn : List (List Lk)) : Prop := ∀ ls ∈ kn, ls.length ≤ 60 ∧ ∀ l ∈ ls, WordOk l.1 ∧ Sized 310 l
theorem KnOk.get {kn : List (List Lk)} (h : KnOk kn) (i : Nat) : (kn.getD i []).length ≤ 60 ∧ ∀ l ∈ kn.getD i [], WordOk l.1 ∧ Sized 310 l := by
  by_cases hi : i < kn.length
  · have e : kn.getD i [] = kn[i] := by rw [List.getD_eq_getElem?_getD, List.getElem?_eq_getElem hi]; rfl
    rw [e]
    exact h _ (List.getElem_mem hi)
  · have e : kn.getD i [] = [] := by rw [List.getD_eq_getElem?_getD, List.getElem?_eq_none (by omega)]; rfl
    rw [e]
    exact ⟨Nat.zero_le _, fun l hl => by cases hl⟩
theorem step_near {L : Int} (hL : 0 < L) (hLb : L.natAbs < 2 ^ 200) {l : Lk} (h : Sized 310 l) (sd : Str) (x : Int) : (plc sd l x L - x).natAbs ≤ 2 ^ 312 := by
  have h1 := plc_near hL sd l x
  have h2 : (l.2.2 - l.2.1).natAbs < 2 ^ 311 := sub_lt h.2 h.1
  have h3 : L.natAbs < 2 ^ 311 := lt_up hLb (by decide)
  have h4 : (2 : Nat) ^ 312 = 2 ^ 311 + 2 ^ 311 := by rw [Nat.pow_succ, Nat.mul_two]
  omega
theorem WalkOk.small {sd : Str} {L : Int} (hL : 0 < L) (hLb : L.natAbs < 2 ^ 200) {kn : List (List Lk)} (hk : KnOk kn) {x : Int} {ps : List Int} {tl : List Lk} (W : WalkOk sd L kn x ps tl) : ∀ (i : Nat) (y : Int), ps[i]? = some y → y.natAbs ≤ x.natAbs + i * 2 ^ 312
  | 0, y, h => by
    rw [W.zero] at h
    rw [← Option.some.inj h]; omega
  | i + 1, y, h => by
    have hi := (List.getElem?_eq_some_iff.mp h).1
    have hl := W.len
    obtain ⟨hm, y0, z, h1, h2, h3, _⟩ := W.step i _ (List.getElem?_eq_getElem (by omega : i < tl.length))
    rw [h2] at h
    rw [← Option.some.inj h, ← h3]
    have q1 := W.small hL hLb hk i y0 h1
    have q2 := step_near hL hLb ((hk.get _).2 _ hm).2 sd y0
    rw [Nat.add_mul, Nat.one_mul]
    generalize (2 : Nat) ^ 312 = B at q1 q2 ⊢
    generalize i * B = c at q1 ⊢
    omega
/-! ### the marks: hand and place within the turn -/
def mark (L : Int) (m : Nat) (ps : List Int) (i : Nat) : Nat × Int := (i % m, ps.getD i 0 % L)
def marks (L : Int) (m : Nat) (ps : List Int) (n : Nat) : List (Nat × Int) := (List.range n).map (mark L m ps)
def cand (L : Int) (kn : List (List Lk)) (x : Int) : List (Nat × Int) := (0, x % L) :: ((List.range kn.length).map fun j => (kn.getD j []).map fun l => ((j + 1) % kn.length, l.2.2 % L)).flatten
theorem nodup_le {α : Type} [DecidableEq α] : ∀ {l l' : List α}, l.Nodup → (∀ a ∈ l, a ∈ l') → l.length ≤ l'.length
  | [], l', _, _ => Nat.zero_le _
  | a :: l, l', hn, hs => by
    obtain ⟨h1, h2⟩ := List.nodup_cons.mp hn
    have ha := hs a List.mem_cons_self
    have h3 : ∀ b ∈ l, b ∈ l'.erase a := fun b hb => (List.mem_erase_of_ne (fun e => h1 (by rw [← e]; exact hb))).mpr (hs b (List.mem_cons_of_mem _ hb))
    have h4 := nodup_le h2 h3
    have h5 := List.length_erase_of_mem ha
    have h6 := List.length_pos_of_mem ha
    rw [List.length_cons]; omega
theorem flat_le {β γ : Type} {f : β → List γ} {c : Nat} : ∀ {l : List β}, (∀ b ∈ l, (f b).length ≤ c) → (l.map f).flatten.length ≤ l.length * c
  | [], _ => by simp
  | b :: l, h => by
    have h1 := flat_le (l := l) fun q hq => h q (List.mem_cons_of_mem _ hq)
    have h2 := h b List.mem_cons_self
    rw [List.map_cons, List.flatten_cons, List.length_append, List.length_cons, Nat.add_mul]
    omega
theorem cand_len {L : Int} {kn : List (List Lk)} (hk : KnOk kn) (x : Int) : (cand L kn x).length ≤ kn.length * 60 + 1 := by
  unfold cand
  rw [List.length_cons]
  have h := flat_le (f := fun j => (kn.getD j []).map fun l : Lk => ((j + 1) % kn.length, l.2.2 % L)) (c := 60) (l := List.range kn.length) fun j _ => by
    rw [List.length_map]; exact (hk.get j).1
  rw [List.length_range] at h
  omega
theorem plc_mod {L : Int} (sd : Str) (l : Lk) (x : Int) : plc sd l x L % L = l.2.2 % L := by
  unfold plc
  split
  · exact Int.add_mul_emod_self_right ..
  · rw [Int.sub_eq_add_neg, ← Int.neg_mul]
    exact Int.add_mul_emod_self_right ..
theorem mark_cand {sd : Str} {L : Int} {kn : List (List Lk)} (hm : 0 < kn.length) {x : Int} {ps : List Int} {tl : List Lk} (W : WalkOk sd L kn x ps tl) : ∀ i, i < ps.length → mark L kn.length ps i ∈ cand L kn x
  | 0, _ => by
    refine List.mem_cons.mpr (.inl ?_)
    unfold mark
    rw [List.getD_eq_getElem?_getD, W.zero, Nat.zero_mod]; rfl
  | i + 1, hi => by
    refine List.mem_cons.mpr (.inr ?_)
    have hl := W.len
    obtain ⟨h0, y0, z, h1, h2, h3, _⟩ := W.step i _ (List.getElem?_eq_getElem (by omega : i < tl.length))
    refine List.mem_flatten.mpr ⟨_, List.mem_map.mpr ⟨i % kn.length, List.mem_range.mpr (Nat.mod_lt _ hm), rfl⟩, List.mem_map.mpr ⟨_, h0, ?_⟩⟩
    unfold mark
    rw [List.getD_eq_getElem?_getD, h2]
    show (_, _) = (_, z % L)
    rw [← h3, plc_mod]
    congr 1
    rw [Nat.mod_add_mod]
theorem marks_le {sd : Str} {L : Int} {kn : List (List Lk)} (hm : 0 < kn.length) {x : Int} {ps : List Int} {tl : List Lk} (W : WalkOk sd L kn x ps tl) {n : Nat} (hn : n ≤ ps.length) (hd : (marks L kn.length ps n).Nodup) : n ≤ (cand L kn x).length := by
  have h := nodup_le hd (l' := cand L kn x) fun a ha => by
    obtain ⟨i, hi, rfl⟩ := List.mem_map.mp ha
    exact mark_cand hm W i (Nat.lt_of_lt_of_le (List.mem_range.mp hi) hn)
  unfold marks at h
  rwa [List.length_map, List.length_range] at h
theorem WalkOk.new {sd : Str} {L : Int} {kn : List (List Lk)} {x : Int} : WalkOk sd L kn x [x] [] := ⟨rfl, rfl, fun i l h => by simp at h⟩
theorem WalkOk.snoc {sd : Str} {L : Int} {kn : List (List Lk)} {x y z : Int} {ps : List Int} {tl : List Lk} {l : Lk} (W : WalkOk sd L kn x ps tl) (hy : ps[tl.length]? = some y) (hl : l ∈ kn.getD (tl.length % kn.length) []) (hz : plc sd l y L = z) (hb : IsBest sd (kn.getD (tl.length % kn.length) []) y L z) : WalkOk sd L kn x (ps ++ [z]) (tl ++ [l]) := by
  have hlen := W.len
  refine ⟨by simp [hlen], by rw [List.getElem?_append_left (by omega)]; exact W.zero, fun i l' h => ?_⟩
  by_cases hi : i < tl.length
  · rw [List.getElem?_append_left hi] at h
    obtain ⟨h0, y0, z0, h1, h2, h3⟩ := W.step i l' h
    exact ⟨h0, y0, z0, by rw [List.getElem?_append_left (by omega)]; exact h1, by rw [List.getElem?_append_left (by omega)]; exact h2, h3⟩
  · have hi2 := (List.getElem?_eq_some_iff.mp h).1
    have e : i = tl.length := by
      rw [List.length_append, List.length_singleton] at hi2; omega
    subst e
    rw [List.getElem?_append_right (Nat.le_refl _), Nat.sub_self] at h
    have e2 : l = l' := Option.some.inj h
    subst e2
    refine ⟨hl, y, z, by rw [List.getElem?_append_left (by omega)]; exact hy, ?_, hz, hb⟩
    rw [List.getElem?_append_right (by omega), hlen, Nat.sub_self]; rfl
theorem marks_keep {L : Int} {m : Nat} {ps : List Int} {z : Int} {n : Nat} (h : n ≤ ps.length) : marks L m (ps ++ [z]) n = marks L m ps n := by
  unfold marks
  refine List.map_congr_left fun i hi => ?_
  have := List.mem_range.mp hi
  unfold mark
  rw [List.getD_eq_getElem?_getD, List.getD_eq_getElem?_getD, List.getElem?_append_left (by omega)]
theorem marks_succ {L : Int} {m : Nat} {ps : List Int} {n : Nat} : marks L m ps (n + 1) = marks L m ps n ++ [mark L m ps n] := by
  unfold marks
  rw [List.range_succ, List.map_append]; rfl
theorem marks_nodup {L : Int} {m : Nat} {ps : List Int} {n : Nat} (h : (marks L m ps n).Nodup) (h2 : mark L m ps n ∉ marks L m ps n) : (marks L m ps (n + 1)).Nodup := by
  rw [marks_succ]
  refine List.nodup_append.mpr ⟨h, by simp, fun a ha b hb e => ?_⟩
  rw [List.mem_singleton] at hb
  subst hb; subst e
  exact h2 ha
end KA
namespace KA
open PySem PySem.Spec PyProof.Rows L2 DP
/-- hands in the dark, of one length -/
def Darks (Z : Ad) (K : PySem.W.Frag) (H : Hp) (ds : List Addr) (L : Int) (hs : List (List Lk)) : Prop := ds.length = hs.length ∧ ∀ (i : Nat) (d : Addr) (ls : List Lk), ds[i]? = some d → hs[i]? = some ls → DarkAt Z K H d L ls
theorem Darks.same {Z : Ad} {K : PySem.W.Frag} {H H' : Hp} {ds : List Addr} {L : Int} {hs : List (List Lk)} (D : Darks Z K H ds L hs) (S : Same H H') : Darks Z K H' ds L hs := ⟨D.1, fun i d ls h1 h2 => (D.2 i d ls h1 h2).same S⟩
theorem Darks.get {Z : Ad} {K : PySem.W.Frag} {H : Hp} {ds : List Addr} {L : Int} {hs : List (List Lk)} (D : Darks Z K H ds L hs) {i : Nat} {d : Addr} (h : ds[i]? = some d) : ∃ ls, hs[i]? = some ls ∧ DarkAt Z K H d L ls := by
  have hi := (List.getElem?_eq_some_iff.mp h).1
  have hl := D.1
  exact ⟨hs[i], List.getElem?_eq_getElem (by omega), D.2 i d _ h (List.getElem?_eq_getElem (by omega))⟩
/-- a list of looks that stands as itself -/
def LkAt (K : PySem.W.Frag) (H : Hp) (p : Addr) (ls : List Lk) : Prop := ∃ vs, H p = some (.lst vs) ∧ DpAll K H vs (ls.map encL)
theorem LkAt.dp {K : PySem.W.Frag} {H : Hp} {p : Addr} {ls : List Lk} (h : LkAt K H p ls) : Dp K H (.ref p) (.list (ls.map encL)) := by
  obtain ⟨vs, h1, h2⟩ := h
  exact .lst (SqL.of h1) h2
theorem LkAt.to {K : PySem.W.Frag} {H H' : Hp} {p : Addr} {ls : List Lk} (h : LkAt K H p ls) (ht : Tups H H') (hp : ∀ o, H p = some o → H' p = some o) : LkAt K H' p ls := by
  obtain ⟨vs, h1, h2⟩ := h
  exact ⟨vs, hp _ h1, dpAll_tups ht _ _ (noLs_map noL_encL ls) h2⟩
theorem LkAt.same {K : PySem.W.Frag} {H H' : Hp} {p : Addr} {ls : List Lk} (h : LkAt K H p ls) (S : Same H H') : LkAt K H' p ls := h.to (Tups.of_same S) fun o e => S _ _ e
/-- lists of looks -/
def Lots (K : PySem.W.Frag) (H : Hp) (as : List Addr) (kn : List (List Lk)) : Prop := as.length = kn.length ∧ ∀ (i : Nat) (a : Addr) (ls : List Lk), as[i]? = some a → kn[i]? = some ls → LkAt K H a ls
theorem Lots.same {K : PySem.W.Frag} {H H' : Hp} {as : List Addr} {kn : List (List Lk)} (D : Lots K H as kn) (S : Same H H') : Lots K H' as kn := ⟨D.1, fun i a ls h1 h2 => (D.2 i a ls h1 h2).same S⟩
theorem Lots.to {K : PySem.W.Frag} {H H' : Hp} {as : List Addr} {kn : List (List Lk)} (D : Lots K H as kn) (ht : Tups H H') (hp : ∀ a ∈ as, ∀ o, H a = some o → H' a = some o) : Lots K H' as kn := ⟨D.1, fun i a ls h1 h2 => (D.2 i a ls h1 h2).to ht (hp a (List.mem_of_getElem? h1))⟩
theorem Lots.get {K : PySem.W.Frag} {H : Hp} {as : List Addr} {kn : List (List Lk)} (D : Lots K H as kn) {i : Nat} {a : Addr} (h : as[i]? = some a) : ∃ ls, kn[i]? = some ls ∧ LkAt K H a ls := by
  have hi := (List.getElem?_eq_some_iff.mp h).1
  have hl := D.1
  exact ⟨kn[i], List.getElem?_eq_getElem (by omega), D.2 i a _ h (List.getElem?_eq_getElem (by omega))⟩
theorem Lots.snoc {K : PySem.W.Frag} {H : Hp} {as : List Addr} {kn : List (List Lk)} {a : Addr} {ls : List Lk} (D : Lots K H as kn) (h : LkAt K H a ls) : Lots K H (as ++ [a]) (kn ++ [ls]) := by
  have hl := D.1
  refine ⟨by simp [hl], fun i b l h1 h2 => ?_⟩
  by_cases hi : i < as.length
  · rw [List.getElem?_append_left hi] at h1
    rw [List.getElem?_append_left (by omega)] at h2
    exact D.2 i b l h1 h2
  · have h3 := (List.getElem?_eq_some_iff.mp h1).1
    rw [List.length_append, List.length_singleton] at h3
    have e : i = as.length := by omega
    subst e
    rw [List.getElem?_append_right (Nat.le_refl _), Nat.sub_self] at h1
    rw [List.getElem?_append_right (by omega), hl, Nat.sub_self] at h2
    have e1 : a = b := Option.some.inj h1
    have e2 : ls = l := Option.some.inj h2
    subst e1 e2
    exact h
/-- a list of objects, in place of them -/
abbrev refs (as : List Addr) : List V := as.map V.ref
def spRound (Z : Ad) (K : PySem.W.Frag) : Sp := fun vs H Q _ => ∃ (hp : Addr) (ds : List Addr) (sd : Str) (L : Int) (hs : List (List Lk)), vs = [.ref hp, .str sd] ∧ SqL K H hp (refs ds) ∧ Darks Z K H ds L hs ∧ SideOk sd ∧ ds.length ≤ 1000 ∧
  ∀ H' p as, H p = none → (∀ a ∈ as, H a = none ∧ a ≠ p) → Same H H' → H' p = some (.lst (refs as)) → Lots K H' as (hs.map (sideOf sd)) → Q (.ref p) H'
theorem same_acc {H H' : Hp} {D : Addr} {o : HO} (S : Same H H') (hD : H D = none) : Same H (upd H' D o) := same_set S hD
section
variable {P : Program} {w : World} {K : PySem.W.Frag} {mg : Str → Option Value} {base : Heap} {Z : Ad}
theorem ok_round_looks (T : Tx K w mg Z) : FnOk P w K mg base CX0 2 Z.a_round_looks Z.d_round_looks P_round_looks (spRound Z K) := by
  refine T.F_round_looks.ok scround_looks (fun vs H Q E h => ?_) (fun cdv A outer s H vs Q E hr h => ?_)
  · obtain ⟨hp, ds, sd, L, hs, rfl, _⟩ := h
    rfl
  · obtain ⟨hp, ds, sd, L, hs, rfl, hh, hD, hsd, hlen, k⟩ := h
    refine ⟨_, (pss_one (ps_ret (pe_lc (own := [("hand", 2)]) (g := gName 2) (tt := tYes) rfl scround_looks.nd (pi_list (pv 0)) (blkOk_by (own := [("hand", 2)]) (N := N_round_looks) (sc := defScope sround_looks) (by decide +kernel)) (fun _ _ _ _ _ => (pg_name (i := 2) scround_looks.nd rfl (Or.inl rfl))) (fun _ _ _ _ _ => pts_nil) (fun _ _ _ _ _ => (pe_call (ok_side_looks T) (hr.mono (by decide)) (by rfl) T.g_side_looks T.F_side_looks.kp T.bb_side_looks .nil pass0 (pa_cons (pe_meth0 (pv 2) T.cl T.m_Dark_looks (ok_Dark_looks T) (hr.mono (by decide)) T.bb_Dark_looks .nil pass0) (pa_cons (pv 1) pa_nil))))))), ?_⟩
    refine ⟨_, rfl, hp, rfl, ⟨_, hh⟩, fun D hDn => ?_⟩
    refine lc_list (K := K) (a := hp) (xs := refs ds) (fun i H' => Same H H' ∧ ∃ as, H' D = some (.lst (refs as)) ∧ as.length = i ∧ (∀ a ∈ as, H a = none ∧ a ≠ D) ∧ Lots K H' as ((hs.take i).map (sideOf sd))) ⟨same_upd hDn, [], upd_same, rfl, (fun _ z => by cases z), rfl, fun i a ls z => by simp at z⟩ (fun i H' _ ⟨S, _⟩ => Same.sqL S hh) ?_ ?_
    · rintro i y H' hi ⟨S, as, hD', hal, hfr, hlots⟩
      obtain ⟨d, hd, rfl⟩ : ∃ d, ds[i]? = some d ∧ y = .ref d := by
        obtain ⟨d, h1, h2⟩ := map_at hi
        exact ⟨d, h1, h2⟩
      obtain ⟨ls, hls, DD⟩ := hD.get hd
      refine ⟨rfl, yes_ite ?_⟩
      have DD1 := DD.same S
      obtain ⟨dx, la, vs, h1, h2, h3⟩ := DD1.ex
      refine ⟨_, rfl, d, dx, _, rfl, h1, df_no _ _ (by decide +kernel) (by decide +kernel), d, L, ls, rfl, DD1, fun p xs H1 hp1 S1 hx1 hx2 => ?_⟩
      refine ⟨_, rfl, .ref p, ls, sd, rfl, .lst (SqL.of hx1) hx2, hsd, fun l hl => (DD.ok l hl).1, Nat.le_trans DD.len (by decide), fun H2 q hq S2 hlk => ?_⟩
      have S12 := S1.trans S2
      have hD2 := S12 _ _ hD'
      have hqD : q ≠ D := fun e => by rw [e, S1 _ _ hD'] at hq; cases hq
      refine ⟨refs as, hD2, ?_, same_set (S.trans S12) hDn, as ++ [q], ?_, by simp [hal], fun a ha => ?_, ?_⟩
      · have := (List.getElem?_eq_some_iff.mp hd).1
        exact small1000 (by simp; omega)
      · rw [upd_same]; simp [refs]
      · rcases List.mem_append.mp ha with h | h
        · exact hfr a h
        · rw [List.mem_singleton] at h
          subst h
          exact ⟨S.free (S1.free hq), hqD⟩
      · rw [take_snoc hls, List.map_append]
        have hn : ∀ a ∈ as ++ [q], a ≠ D := fun a ha => by
          rcases List.mem_append.mp ha with h | h
          · exact (hfr a h).2
          · rw [List.mem_singleton] at h; subst h; exact hqD
        exact ((hlots.same S12).snoc hlk).to (Tups.upd_lst hD2) fun a ha o e => (upd_ne (hn a ha)).trans e
    · rintro H' ⟨S, as, hD', hal, hfr, hlots⟩
      have hl := hD.1
      have e : hs.take (refs ds).length = hs := List.take_of_length_le (by simp; omega)
      rw [e] at hlots
      exact k H' D as hDn hfr S hD' hlots
end
end KA
namespace KA
open PySem PySem.Spec PyProof.Rows L2 DP
/-- a Walk's fields -/
def wf (pl tb : Addr) (st : V) : List (Str × V) := [("places", .ref pl), ("told_by", .ref tb), ("start", st)]
def stV : Option Nat → V
  | none => .non
  | some s => .int s
theorem wf_places (pl tb : Addr) (st : V) : (wf pl tb st).lookup ("places" : Str) = some (.ref pl) := by simp [wf, List.lookup]
theorem wf_told (pl tb : Addr) (st : V) : (wf pl tb st).lookup ("told_by" : Str) = some (.ref tb) := by
  have h : (("told_by" : Str) == ("places" : Str)) = false := by decide +kernel
  simp [wf, List.lookup, h]
theorem wf_start (pl tb : Addr) (st : V) : (wf pl tb st).lookup ("start" : Str) = some st := by
  have h : (("start" : Str) == ("places" : Str)) = false := by decide +kernel
  have h2 : (("start" : Str) == ("told_by" : Str)) = false := by decide +kernel
  simp [wf, List.lookup, h, h2]
theorem wf_no (pl tb : Addr) (st : V) {m : Str} (h1 : (m == ("places" : Str)) = false) (h2 : (m == ("told_by" : Str)) = false) (h3 : (m == ("start" : Str)) = false) : (wf pl tb st).lookup m = none := by simp [wf, List.lookup, h1, h2, h3]
theorem wf_put (pl tb : Addr) (st v : V) : putF "start" v (wf pl tb st) = wf pl tb v := by
  show (if ("places" : Str) = "start" then _ else (("places" : Str), V.ref pl) :: (if ("told_by" : Str) = "start" then _ else (("told_by" : Str), V.ref tb) :: (if ("start" : Str) = "start" then _ else _))) = _
  rw [if_neg (by decide +kernel), if_neg (by decide +kernel), if_pos rfl]; rfl
/-- what is walked: its places, the looks that told them, where it comes round to -/
structure WalkAt (Z : Ad) (K : PySem.W.Frag) (H : Hp) (w : Addr) (pl tb : Addr) (ps : List Int) (tl : List Lk) (st : Option Nat) : Prop where
  ex : ∃ dx tvs, H w = some (.ins Z.C_Walk dx (wf pl tb (stV st))) ∧ H pl = some (.lst (ps.map V.int)) ∧ H tb = some (.lst tvs) ∧ DpAll K H tvs (tl.map encL)
/-- the dict of the marks seen -/
def seenK (L : Int) (m : Nat) (ps : List Int) (n : Nat) : List (List Key × V) := (List.range n).map fun i => ([.inl (((i % m : Nat)) : Int), .inl (ps.getD i 0 % L)], V.int i)
theorem seen_some {L : Int} {m : Nat} {ps : List Int} {n : Nat} {a b : Int} {v : V} (h : valV (seenK L m ps n) [.inl a, .inl b] = some v) : ∃ i : Nat, i < n ∧ v = .int i ∧ (((i % m : Nat)) : Int) = a ∧ ps.getD i 0 % L = b := by
  unfold valV at h
  cases e : (seenK L m ps n).find? fun kv => decide (kv.1 = [.inl a, .inl b]) with
  | none => rw [e] at h; cases h
  | some p =>
    rw [e] at h
    have e1 := List.find?_some e
    obtain ⟨i, hi, rfl⟩ := List.mem_map.mp (List.mem_of_find?_eq_some e)
    have e2 := of_decide_eq_true e1
    injection e2 with e3 e4
    injection e4 with e5 _
    exact ⟨i, List.mem_range.mp hi, (Option.some.inj h).symm, Sum.inl.inj e3, Sum.inl.inj e5⟩
theorem seen_none {L : Int} {m : Nat} {ps : List Int} {n j : Nat} (h : valV (seenK L m ps n) [.inl ((j % m : Nat) : Int), .inl (ps.getD j 0 % L)] = none) : mark L m ps j ∉ marks L m ps n := by
  intro hm
  obtain ⟨i, hi, e⟩ := List.mem_map.mp hm
  unfold valV at h
  rw [Option.map_eq_none_iff] at h
  have h2 := List.find?_eq_none.mp h _ (List.mem_map.mpr ⟨i, hi, rfl⟩)
  refine h2 (decide_eq_true ?_)
  have e1 : i % m = j % m := congrArg Prod.fst e
  have e2 : ps.getD i 0 % L = ps.getD j 0 % L := congrArg Prod.snd e
  show [Sum.inl _, Sum.inl _] = _
  rw [e1, e2]
theorem putK_new {κ : Type} [DecidableEq κ] {kvs : List (κ × V)} {k : κ} {v : V} (h : valV kvs k = none) : putK kvs k v = kvs ++ [(k, v)] := by
  unfold putK
  have e : (kvs.any fun kv => decide (kv.1 = k)) = false := by rw [valV_any, h]; rfl
  rw [e, if_neg Bool.false_ne_true]
theorem seenK_len (L : Int) (m : Nat) (ps : List Int) (n : Nat) : (seenK L m ps n).length = n := by unfold seenK; simp
theorem seenK_next {L : Int} {m : Nat} {ps : List Int} {z : Int} {n : Nat} (h : n < ps.length) : seenK L m (ps ++ [z]) (n + 1) = seenK L m ps n ++ [([.inl ((n % m : Nat) : Int), .inl (ps.getD n 0 % L)], V.int n)] := by
  unfold seenK
  rw [List.range_succ, List.map_append]
  have e : ∀ i, i < ps.length → (ps ++ [z]).getD i 0 = ps.getD i 0 := fun i hi => by rw [List.getD_eq_getElem?_getD, List.getD_eq_getElem?_getD, List.getElem?_append_left hi]
  congr 1
  · refine List.map_congr_left fun i hi => ?_
    have := List.mem_range.mp hi
    rw [e i (by omega)]
  · show [([Sum.inl ((n % m : Nat) : Int), Sum.inl ((ps ++ [z]).getD n 0 % L)], V.int n)] = _
    rw [e n h]
def spFollow (Z : Ad) (K : PySem.W.Frag) : Sp := fun vs H Q _ => ∃ (w kp pl tb dx : Addr) (as : List Addr) (L x : Int) (sd : Str) (kn : List (List Lk)), vs = [.ref w, .int L, .ref kp, .str sd] ∧ H w = some (.ins Z.C_Walk dx (wf pl tb .non)) ∧ H pl = some (.lst [.int x]) ∧ H tb = some (.lst []) ∧
  H kp = some (.lst (refs as)) ∧ Lots K H as kn ∧ pl ≠ tb ∧ (∀ a ∈ kp :: as, a ≠ w ∧ a ≠ pl ∧ a ≠ tb) ∧ SideOk sd ∧ 0 < L ∧ L.natAbs < 2 ^ 200 ∧ x.natAbs < 2 ^ 390 ∧ 0 < kn.length ∧ kn.length ≤ 60 ∧ KnOk kn ∧
  ∀ H' ps tl st, WalkOk sd L kn x ps tl → EndOk L kn ps tl st → (marks L kn.length ps tl.length).Nodup → WalkAt Z K H' w pl tb ps tl st → (∀ b o, H b = some o → b ≠ w → b ≠ pl → b ≠ tb → H' b = some o) → Q .non H'
section
variable {P : Program} {w : World} {K : PySem.W.Frag} {mg : Str → Option Value} {base : Heap} {Z : Ad}
theorem ok_Walkfollow (T : Tx K w mg Z) : FnOk P w K mg base CX0 3 Z.a_Walkfollow Z.d_Walkfollow P_Walkfollow (spFollow Z K) := by
  refine T.F_Walkfollow.ok scWalkfollow (fun vs H Q E h => ?_) (fun cdv A outer s H vs Q E hr h => ?_)
  · obtain ⟨w, kp, pl, tb, dx, as, L, x, sd, kn, rfl, _⟩ := h
    rfl
  · obtain ⟨w, kp, pl, tb, dx, as, L, x, sd, kn, rfl, hw, hpl, htb, hkp, hlots, hpt, hne, hsd, hL, hLb, hx, hm0, hm1, hk, k⟩ := h
    refine ⟨_, (pss_cons (ps_set (i := 4) scWalkfollow.nd rfl (Or.inl rfl) pe_dnewT)
      (pss_one (ps_while PassesOwn.never (pt_val pe_bl) (pss_cons (ps_set (i := 5) scWalkfollow.nd rfl (Or.inl rfl) (pe_callB (lenK (K := K)) (by rfl) T.b_len (by decide +kernel) (pa_cons (fldK (K := K) (pv 0) rfl) pa_nil)))
      (pss_cons (ps_set (i := 6) scWalkfollow.nd rfl (Or.inl rfl) (pe_op op_mod (pv 5) (pe_callB (lenK (K := K)) (by rfl) T.b_len (by decide +kernel) (pa_cons (pv 2) pa_nil))))
      (pss_cons (ps_set (i := 7) scWalkfollow.nd rfl (Or.inl rfl) (pe_tup (pa_cons (pv 6) (pa_cons (pe_op op_mod (pe_ix (ixL (K := K)) (fldK (K := K) (pv 0) rfl) (pe_un un_neg pe_int) (fun _ _ => rfl)) (pv 1)) pa_nil))))
      (C8.pss_cut (ps_if (pt_cmp (pc_din (hu_of hr) (pv 7) (pv 4))) (pss_cons (ps_fld (pv 0) (pe_dget (hu_of hr) (pv 4) (pv 7) (fun _ _ => rfl)) rfl)
      (pss_one ps_retN)) pss_nil)
      (C8.pss_cut (ps_if (pt_not (pt_truth (pe_ix (ixL (K := K)) (pv 2) (pv 6) (fun _ _ => rfl)) (by intro _; rfl))) (pss_one ps_retN) pss_nil)
      (pss_cons (ps_dput (hu_of hr) (pv 4) (pv 7) (pv 5) rfl)
      (pss_cons (ps_asg (pe_call (ok_best_step T) (hr.mono (by decide)) (by rfl) T.g_best_step T.F_best_step.kp T.bb_best_step .nil pass0 (pa_cons (pe_ix (ixL (K := K)) (pv 2) (pv 6) (fun _ _ => rfl)) (pa_cons (pv 3) (pa_cons (pe_ix (ixL (K := K)) (fldK (K := K) (pv 0) rfl) (pe_un un_neg pe_int) (fun _ _ => rfl)) (pa_cons (pv 1) pa_nil))))) (tupK (K := K) (by rfl) (pgs_cons (pg_name (i := 8) scWalkfollow.nd rfl (Or.inl rfl)) (pgs_cons (pg_name (i := 9) scWalkfollow.nd rfl (Or.inl rfl)) pgs_nil))))
      (pss_cons (ps_expr (pe_bm PySem.F.plainAttrs_list PySem.F.slot_list_append PySem.F.type_list_append mt_append (fldK (K := K) (pv 0) rfl) (pa_cons (pv 8) pa_nil)))
      (pss_one (ps_expr (pe_bm PySem.F.plainAttrs_list PySem.F.slot_list_append PySem.F.type_list_append mt_append (fldK (K := K) (pv 0) rfl) (pa_cons (pv 9) pa_nil))))))))))))))), ?_⟩
    refine fun sa hsa => ?_
    have hwp : w ≠ pl := fun e => by rw [e, hpl] at hw; cases hw
    have hwt : w ≠ tb := fun e => by rw [e, htb] at hw; cases hw
    refine while_by (fun σ' H' => ∃ u5 u6 u7 u8 u9 ps tl tvs, σ' = [some (.ref w), some (.int L), some (.ref kp), some (.str sd), some (.ref sa), u5, u6, u7, u8, u9] ∧ WalkOk sd L kn x ps tl ∧ (marks L kn.length ps tl.length).Nodup ∧
      H' w = some (.ins Z.C_Walk dx (wf pl tb .non)) ∧ H' pl = some (.lst (ps.map V.int)) ∧ H' tb = some (.lst tvs) ∧ DpAll K H' tvs (tl.map encL) ∧ H' sa = some (.dT (seenK L kn.length ps tl.length)) ∧ ∀ b o, H b = some o → b ≠ w → b ≠ pl → b ≠ tb → H' b = some o)
      (fun _ H' => (cand L kn x).length - lenAt H' tb) ?_ ?_ ?_
    · refine ⟨none, none, none, none, none, [x], [], [], rfl, .new, List.nodup_nil, (upd_ne (ne_of_none hw hsa)).trans hw, (upd_ne (ne_of_none hpl hsa)).trans hpl, (upd_ne (ne_of_none htb hsa)).trans htb, .nil, upd_same, fun b o e _ _ _ => (upd_ne (ne_of_none e hsa)).trans e⟩
    · rintro σ1 H1 ⟨u5, u6, u7, u8, u9, ps, tl, tvs, rfl, W, hmk, gw, gpl, gtb, gtv, gsa, keep⟩
      have hwl := W.len
      have htl : tvs.length = tl.length := by rw [dpAll_len gtv, List.length_map]
      have hkw : kp ≠ w ∧ kp ≠ pl ∧ kp ≠ tb := hne kp List.mem_cons_self
      have gkp := keep _ _ hkp hkw.1 hkw.2.1 hkw.2.2
      have hal := hlots.1
      have hmI : (0 : Int) < ((refs as).length : Int) := by simp; omega
      obtain ⟨y, hy⟩ : ∃ y, ps[tl.length]? = some y := ⟨ps[tl.length], List.getElem?_eq_getElem (by omega)⟩
      have hlast : atI (ps.map V.int) (-1) = some (.int y) := by
        rw [atI_last (by rw [List.length_map]; omega : 0 < (ps.map V.int).length), List.length_map, show ps.length - 1 = tl.length by omega, List.getElem?_map, hy]; rfl
      refine ⟨_, rfl, iteT ?_⟩
      refine ⟨_, rfl, w, Z.C_Walk, dx, _, _, rfl, gw, T.cl_Walk, T.nWalk_told_by, wf_told _ _ _, tb, tvs, rfl, .inl (SqL.of gtb), ?_⟩
      refine ⟨_, rfl, _, rfl, kp, refs as, rfl, .inl (SqL.of gkp), _, _, rfl, rfl, hmI, ?_⟩
      refine ⟨_, rfl, _, rfl, w, Z.C_Walk, dx, _, _, rfl, gw, T.cl_Walk, T.nWalk_places, wf_places _ _ _, _, rfl, _, _, _, _, rfl, rfl, SqL.of gpl, hlast, _, rfl, _, _, rfl, rfl, hL, (by show 2 ≤ sizeLine; decide), fun q hq => ?_⟩
      have hn1 : ((tvs.length : Nat) : Int) % ((refs as).length : Int) = ((tl.length % kn.length : Nat) : Int) := by rw [htl]; simp [hal]
      have hy0 : ps.getD tl.length 0 = y := by rw [List.getD_eq_getElem?_getD, hy]; rfl
      dsimp only
      rw [hn1, htl]
      have Sq := same_upd (o := HO.tup [V.int ((tl.length % kn.length : Nat) : Int), .int (y % L)]) hq
      have fq : (upd H1 q (.tup [V.int ((tl.length % kn.length : Nat) : Int), .int (y % L)])) q = some (.tup (([.inl ((tl.length % kn.length : Nat) : Int), .inl (ps.getD tl.length 0 % L)] : List Key).map kV)) := by rw [hy0]; exact upd_same
      generalize upd H1 q (.tup [V.int ((tl.length % kn.length : Nat) : Int), .int (y % L)]) = H2 at Sq fq ⊢
      have keep2 : ∀ b o, H b = some o → b ≠ w → b ≠ pl → b ≠ tb → H2 b = some o := fun b o e n1 n2 n3 => Sq _ _ (keep b o e n1 n2 n3)
      have gtv2 := dpAll_mono Sq _ _ gtv
      have WA2 : ∀ st, H2 w = some (.ins Z.C_Walk dx (wf pl tb (stV st))) → WalkAt Z K H2 w pl tb ps tl st := fun st e => ⟨dx, tvs, e, Sq _ _ gpl, Sq _ _ gtb, gtv2⟩
      refine ⟨fun σ' H' => σ' = [some (.ref w), some (.int L), some (.ref kp), some (.str sd), some (.ref sa), some (.int tl.length), some (.int ((tl.length % kn.length : Nat) : Int)), some (.ref q), u8, u9] ∧ H' = H2 ∧ valV (seenK L kn.length ps tl.length) [.inl ((tl.length % kn.length : Nat) : Int), .inl (ps.getD tl.length 0 % L)] = none, ?_, ?_⟩
      · refine ⟨_, rfl, _, rfl, sa, _, rfl, DGet.t (Sq _ _ gsa) fq, _, rfl, ?_⟩
        cases c : valV (seenK L kn.length ps tl.length) [.inl ((tl.length % kn.length : Nat) : Int), .inl (ps.getD tl.length 0 % L)] with
        | none => exact iteF ⟨rfl, rfl, rfl⟩
        | some v =>
          refine iteT ?_
          obtain ⟨i, hi, rfl, hi1, hi2⟩ := seen_some c
          have g := DGet.t (Sq _ _ gsa) fq
          rw [c] at g
          refine ⟨_, rfl, _, rfl, sa, _, rfl, g, _, rfl, w, Z.C_Walk, dx, _, rfl, Sq _ _ gw, T.cl_Walk, T.nWalk_start, (by show 3 < 1000; decide), ?_⟩
          have hwl2 : i < ps.length := by omega
          have hup : Tups H2 (upd H2 w (.ins Z.C_Walk dx (putF "start" (.int i) (wf pl tb .non)))) := Tups.upd_ins (Sq _ _ gw)
          refine k _ ps tl (some i) W ⟨hi, by omega, ps.getD i 0, y, ?_, hy, by rw [hi2, hy0]⟩ hmk ⟨dx, tvs, ?_, (upd_ne (Ne.symm hwp)).trans (Sq _ _ gpl), (upd_ne (Ne.symm hwt)).trans (Sq _ _ gtb), dpAll_tups hup _ _ (noLs_map noL_encL tl) gtv2⟩ fun b o e n1 n2 n3 => (upd_ne n1).trans (keep2 b o e n1 n2 n3)
          · rw [List.getD_eq_getElem?_getD, List.getElem?_eq_getElem hwl2]; rfl
          · rw [upd_same, wf_put]; rfl
      · rintro σ2 H3 ⟨rfl, rfl, hnew⟩
        have hnum : tl.length % kn.length < kn.length := Nat.mod_lt _ hm0
        obtain ⟨a, ha⟩ : ∃ a, as[tl.length % kn.length]? = some a := ⟨as[tl.length % kn.length], List.getElem?_eq_getElem (by omega)⟩
        have gl2 : Lots K H3 as kn := hlots.to (fun b xs e => ?tups) fun a' ha' o e => keep2 _ _ e (hne a' (List.mem_cons_of_mem _ ha')).1 (hne a' (List.mem_cons_of_mem _ ha')).2.1 (hne a' (List.mem_cons_of_mem _ ha')).2.2
        case tups =>
          have hb1 : b ≠ w := fun q => by subst q; rcases e with e | ⟨_, e⟩ <;> rw [hw] at e <;> cases e
          have hb2 : b ≠ pl := fun q => by subst q; rcases e with e | ⟨_, e⟩ <;> rw [hpl] at e <;> cases e
          have hb3 : b ≠ tb := fun q => by subst q; rcases e with e | ⟨_, e⟩ <;> rw [htb] at e <;> cases e
          rcases e with e | ⟨z, e⟩
          · exact .inl (keep2 _ _ e hb1 hb2 hb3)
          · exact .inr ⟨z, keep2 _ _ e hb1 hb2 hb3⟩
        obtain ⟨ls, hls, hlk⟩ := gl2.get ha
        have hlsD : kn.getD (tl.length % kn.length) [] = ls := by rw [List.getD_eq_getElem?_getD, hls]; rfl
        have hix : atI (refs as) ((tl.length % kn.length : Nat) : Int) = some (.ref a) := by
          refine at_of (j := tl.length % kn.length) (by simp) ?_
          show (as.map V.ref)[_]? = _
          rw [List.getElem?_map, ha]; rfl
        obtain ⟨lvs, hl1, hl2⟩ := hlk
        have hlen2 : lvs.length = ls.length := by rw [dpAll_len hl2, List.length_map]
        have gkp3 := keep2 _ _ hkp hkw.1 hkw.2.1 hkw.2.2
        refine ⟨fun σ' H' => σ' = [some (.ref w), some (.int L), some (.ref kp), some (.str sd), some (.ref sa), some (.int tl.length), some (.int ((tl.length % kn.length : Nat) : Int)), some (.ref q), u8, u9] ∧ H' = H3 ∧ ls ≠ [], ?_, ?_⟩
        · refine ⟨_, rfl, _, rfl, _, _, _, _, rfl, rfl, SqL.of gkp3, hix, _, .inl ⟨lvs, SqL.of hl1, rfl⟩, ?_⟩
          cases hc : ls with
          | nil =>
            rw [hc] at hlen2
            have e : lvs = [] := List.eq_nil_of_length_eq_zero hlen2
            subst e
            refine iteT (k _ ps tl none W (hlsD.trans hc) hmk (WA2 none (Sq _ _ gw)) keep2)
          | cons l ls' =>
            rw [hc] at hlen2
            cases lvs with
            | nil => simp at hlen2
            | cons y' ys' => exact iteF ⟨rfl, rfl, by simp⟩
        · rintro σ3 H4 ⟨rfl, rfl, hnil⟩
          have hN : tl.length < 4000 := by
            have h1 := marks_le hm0 W (n := tl.length) (by omega) hmk
            have h2 := cand_len hk (L := L) x
            have h3 : kn.length * 60 ≤ 60 * 60 := Nat.mul_le_mul_right 60 hm1
            omega
          have hyb : y.natAbs < 2 ^ 400 := by
            have h1 := W.small hL hLb hk _ y hy
            have h2 : tl.length * 2 ^ 312 ≤ 2 ^ 390 := Nat.le_trans (Nat.mul_le_mul_right _ (Nat.le_of_lt hN)) (by decide)
            have h3 : (2 : Nat) ^ 390 + 2 ^ 390 ≤ 2 ^ 400 := by decide
            omega
          refine ⟨_, rfl, _, rfl, _, rfl, sa, _, rfl, DPut.t (Sq _ _ gsa) fq (by rw [seenK_len]; exact Nat.lt_trans hN (by decide)), ?_⟩
          rw [putK_new hnew]
          have gs4 := Sq _ _ gsa
          have nsa : ∀ b o, H4 b = some o → (∀ kvs, o ≠ .dT kvs) → b ≠ sa := fun b o e hno q => by
            subst q
            rw [e] at gs4
            exact hno _ (Option.some.inj gs4)
          have t5 : Tups H4 (upd H4 sa (.dT (seenK L kn.length ps tl.length ++ [([.inl ((tl.length % kn.length : Nat) : Int), .inl (ps.getD tl.length 0 % L)], V.int tl.length)]))) := fun b xs e => by
            have hb : b ≠ sa := by
              rintro rfl
              rcases e with e | ⟨_, e⟩ <;> rw [gs4] at e <;> cases e
            rcases e with e | ⟨z, e⟩
            · exact .inl ((upd_ne hb).trans e)
            · exact .inr ⟨z, (upd_ne hb).trans e⟩
          have up5 : ∀ b o, H4 b = some o → (∀ kvs, o ≠ .dT kvs) → (upd H4 sa (.dT (seenK L kn.length ps tl.length ++ [([.inl ((tl.length % kn.length : Nat) : Int), .inl (ps.getD tl.length 0 % L)], V.int tl.length)]))) b = some o := fun b o e hno => (upd_ne (nsa b o e hno)).trans e
          have gs5 : (upd H4 sa (.dT (seenK L kn.length ps tl.length ++ [([.inl ((tl.length % kn.length : Nat) : Int), .inl (ps.getD tl.length 0 % L)], V.int tl.length)]))) sa = some _ := upd_same
          have keep5 : ∀ b o, H b = some o → b ≠ w → b ≠ pl → b ≠ tb → (upd H4 sa (.dT (seenK L kn.length ps tl.length ++ [([.inl ((tl.length % kn.length : Nat) : Int), .inl (ps.getD tl.length 0 % L)], V.int tl.length)]))) b = some o := fun b o e n1 n2 n3 => (upd_ne (ne_of_none e hsa)).trans (keep2 b o e n1 n2 n3)
          generalize upd H4 sa (.dT (seenK L kn.length ps tl.length ++ [([.inl ((tl.length % kn.length : Nat) : Int), .inl (ps.getD tl.length 0 % L)], V.int tl.length)])) = H5 at t5 up5 gs5 keep5 ⊢
          have gw5 := up5 _ _ (Sq _ _ gw) (fun _ e => by cases e)
          have gpl5 := up5 _ _ (Sq _ _ gpl) (fun _ e => by cases e)
          have gtb5 := up5 _ _ (Sq _ _ gtb) (fun _ e => by cases e)
          have gtv5 := dpAll_tups t5 _ _ (noLs_map noL_encL tl) gtv2
          have gl5 := dpAll_tups t5 _ _ (noLs_map noL_encL ls) hl2
          have hkl := hk.get (tl.length % kn.length)
          rw [hlsD] at hkl
          refine ⟨_, rfl, _, rfl, _, _, _, _, rfl, rfl, SqL.of (keep5 _ _ hkp hkw.1 hkw.2.1 hkw.2.2), hix, _, rfl, _, rfl, w, Z.C_Walk, dx, _, _, rfl, gw5, T.cl_Walk, T.nWalk_places, wf_places _ _ _, _, rfl, _, _, _, _, rfl, rfl, SqL.of gpl5, hlast, _, rfl, ?_⟩
          refine ⟨_, ls, sd, y, L, rfl, .lst (SqL.of (up5 _ _ hl1 (fun _ e => by cases e))) gl5, hsd, fun l hl => ⟨(hkl.2 l hl).1, (hkl.2 l hl).2.up (by decide)⟩, Nat.le_trans hkl.1 (by decide), hL, hLb, hyb, fun e => absurd e hnil, fun H6 r l hl S6 hb hr => ?_⟩
          have hr' : Dp K H6 r (.tuple [.int (plc sd l y L), encL l]) := hr
          cases hr' with
          | tup sq da =>
            cases da with
            | cons a1 da =>
              cases a1
              cases da with
              | cons a2 da =>
              cases da
              have gw6 := S6 _ _ gw5
              have gpl6 := S6 _ _ gpl5
              have gtb6 := S6 _ _ gtb5
              have gs6 := S6 _ _ gs5
              have gtv6 := dpAll_mono S6 _ _ gtv5
              refine ⟨_, _, rfl, sq, rfl, _, _, rfl, _, _, rfl, rfl, ?_⟩
              refine ⟨_, rfl, w, Z.C_Walk, dx, _, _, rfl, gw6, T.cl_Walk, T.nWalk_places, wf_places _ _ _, .inl ⟨rfl, _, SqL.of gpl6⟩, _, rfl, pl, ps.map V.int, _, rfl, rfl, gpl6, ?_, ?_⟩
              · exact Nat.lt_of_le_of_lt (by rw [List.length_map]; omega : (ps.map V.int).length ≤ 4000) (by decide)
              have t7 : Tups H6 (upd H6 pl (.lst (ps.map V.int ++ [V.int (plc sd l y L)]))) := Tups.upd_lst gpl6
              have gw7 : (upd H6 pl (.lst (ps.map V.int ++ [V.int (plc sd l y L)]))) w = some (.ins Z.C_Walk dx (wf pl tb .non)) := (upd_ne hwp).trans gw6
              have gtb7 : (upd H6 pl (.lst (ps.map V.int ++ [V.int (plc sd l y L)]))) tb = some (.lst tvs) := (upd_ne (Ne.symm hpt)).trans gtb6
              have gtv7 := dpAll_tups t7 _ _ (noLs_map noL_encL tl) gtv6
              have ga7 := dp_tups t7 _ _ (noL_encL l) a2
              refine ⟨_, rfl, w, Z.C_Walk, dx, _, _, rfl, gw7, T.cl_Walk, T.nWalk_told_by, wf_told _ _ _, .inl ⟨rfl, _, SqL.of gtb7⟩, _, rfl, tb, tvs, _, rfl, rfl, gtb7, ?_, ?_⟩
              · exact Nat.lt_of_le_of_lt (by omega : tvs.length ≤ 4000) (by decide)
              have hps : sa ≠ pl := fun e => by rw [e, gpl6] at gs6; cases gs6
              have hts : sa ≠ tb := fun e => by rw [e, gtb6] at gs6; cases gs6
              have hmem : l ∈ kn.getD (tl.length % kn.length) [] := by rw [hlsD]; exact hl
              have hbest : IsBest sd (kn.getD (tl.length % kn.length) []) y L (plc sd l y L) := by rw [hlsD]; exact hb
              have W2 := W.snoc hy hmem rfl hbest
              have hnd : (marks L kn.length (ps ++ [plc sd l y L]) (tl ++ [l]).length).Nodup := by
                rw [List.length_append, List.length_singleton, marks_keep (by omega)]
                exact marks_nodup hmk (seen_none hnew)
              refine ⟨⟨_, _, _, _, _, ps ++ [plc sd l y L], tl ++ [l], _, rfl, W2, hnd, (upd_ne hwt).trans gw7, ?_, upd_same, ?_, ?_, fun b o e n1 n2 n3 => (upd_ne n3).trans ((upd_ne n2).trans (S6 _ _ (keep5 b o e n1 n2 n3)))⟩, ?_⟩
              · rw [upd_ne hpt, upd_same, List.map_append]; rfl
              · rw [List.map_append]
                exact acc_step gtb7 (noLs_map noL_encL _) rfl gtv7 ga7
              · rw [upd_ne hts, upd_ne hps, gs6, List.length_append, List.length_singleton, seenK_next (by omega)]
              · have h1 := marks_le hm0 W2 (n := (tl ++ [l]).length) (by simp; omega) hnd
                rw [lenAt_of upd_same, lenAt_of gtb]
                simp at h1 ⊢
                omega
    · rintro σ1 H1 Q1 Q2 hQ ⟨b, eb, hc⟩
      exact ⟨b, eb, hQ _ _ hc⟩
end
end KA
namespace KA
open PySem PySem.Spec PyProof.Rows L2 DP
/-- for k, x in enumerate(xs) -/
theorem for_enum {K : PySem.W.Frag} {a : Addr} {xs : List V} {g : TG} {tb : TS} {D : Ends} {σ : L2.St} {H : Hp} (Pv : Nat → L2.St → Hp → Prop) (h0 : Pv 0 σ H) (hl : ∀ i σ H, i ≤ xs.length → Pv i σ H → SqL K H a xs)
    (hs : ∀ i x T σ H, xs[i]? = some x → Pv i σ H → H T = none → g (.ref T) σ (upd H T (.tup [.int (i : Nat), x])) fun σ2 H2 => tb { D with nx := Pv (i + 1), ct := Pv (i + 1), bk := D.nx } σ2 H2) (hd : ∀ σ H, Pv xs.length σ H → D.nx σ H) :
    ∃ W : Nat → Nat → L2.St → Hp → Prop, (∃ m, W 0 m σ H) ∧ ∀ i m σ H, W i m σ H →
      ((Ite K a).stop i H ∧ D.nx σ H) ∨ ((Ite K a).go i H ∧ ∃ N : L2.St → Hp → Prop, (∀ σ' H', N σ' H' → ∃ m', m' < m ∧ W (i + 1) m' σ' H') ∧ ∀ x H', (Ite K a).yld i H x H' → g x σ H' fun σ2 H2 => tb { D with nx := N, ct := N, bk := D.nx } σ2 H2) := by
  refine ⟨fun i m σ H => m = xs.length - i ∧ i ≤ xs.length ∧ Pv i σ H, ⟨xs.length, by simp, Nat.zero_le _, h0⟩, ?_⟩
  rintro i m σ H ⟨rfl, hi, p⟩
  have q := hl i σ H hi p
  by_cases hlt : i < xs.length
  · refine .inr ⟨⟨xs, xs[i], q, by simp [hlt]⟩, Pv (i + 1), fun σ' H' p' => ⟨xs.length - (i + 1), by omega, rfl, hlt, p'⟩, fun v H' y => ?_⟩
    obtain ⟨T, x, rfl, hT, rfl, f⟩ := y
    exact hs i x T σ H (f xs q) p hT
  · have e : i = xs.length := by omega
    subst e
    exact .inl ⟨⟨xs, q, Nat.le_refl _⟩, hd σ H p⟩
/-- the sides' looks of hands are such as the walk asks -/
theorem knOk {Z : Ad} {K : PySem.W.Frag} {H : Hp} {ds : List Addr} {L : Int} {hs : List (List Lk)} (D : Darks Z K H ds L hs) (sd : Str) : KnOk (hs.map (sideOf sd)) := by
  intro ls hm
  obtain ⟨l0, hl0, rfl⟩ := List.mem_map.mp hm
  obtain ⟨i, hi, e⟩ := List.getElem_of_mem hl0
  have hl := D.1
  have DD := D.2 i ds[i] l0 (List.getElem?_eq_getElem (by omega)) (by rw [List.getElem?_eq_getElem hi, e])
  refine ⟨Nat.le_trans (List.length_filter_le _ _) DD.len, fun l hl => ?_⟩
  have h1 := DD.ok l (List.mem_filter.mp hl).1
  exact ⟨h1.1, h1.2.up (by decide)⟩
/-- an answer of a walk -/
def oV : Option Int → V
  | none => .non
  | some i => .int i
def spLen (Z : Ad) (K : PySem.W.Frag) : Sp := fun vs H Q _ => ∃ (d : Addr) (L : Int) (ls : List Lk), vs = [.ref d] ∧ DarkAt Z K H d L ls ∧ Q (.int L) H
def spWalk (Z : Ad) (K : PySem.W.Frag) : Sp := fun vs H Q _ => ∃ (w hp dx : Addr) (ds : List Addr) (sd : Str) (L x : Int) (hs : List (List Lk)), vs = [.ref w, .ref hp, .str sd, .int x] ∧ H w = some (.ins Z.C_Walk dx []) ∧ SqL K H hp (refs ds) ∧ Darks Z K H ds L hs ∧ 0 < ds.length ∧ ds.length ≤ 60 ∧ SideOk sd ∧ x.natAbs < 2 ^ 390 ∧ (∀ d ∈ ds, d ≠ w) ∧
  ∀ H' pl tb ps tl st, WalkOk sd L (hs.map (sideOf sd)) x ps tl → EndOk L (hs.map (sideOf sd)) ps tl st → (marks L (hs.map (sideOf sd)).length ps tl.length).Nodup → WalkAt Z K H' w pl tb ps tl st → Out w H H' → Q .non H'
def spPeriod (Z : Ad) (K : PySem.W.Frag) : Sp := fun vs H Q _ => ∃ (w pl tb : Addr) (ps : List Int) (tl : List Lk) (s : Nat), vs = [.ref w] ∧ WalkAt Z K H w pl tb ps tl (some s) ∧ Q (.int ((tl.length : Int) - s)) H
def spClimb (Z : Ad) (K : PySem.W.Frag) : Sp := fun vs H Q _ => ∃ (w pl tb : Addr) (ps : List Int) (tl : List Lk) (s : Nat), vs = [.ref w] ∧ WalkAt Z K H w pl tb ps tl (some s) ∧ ps.length = tl.length + 1 ∧ s < tl.length ∧ Q (.int (ps.getD tl.length 0 - ps.getD s 0)) H
def spBehind (Z : Ad) (K : PySem.W.Frag) : Sp := fun vs H Q _ => ∃ (w pl tb : Addr) (sd : Str) (L x n : Int) (kn : List (List Lk)) (ps : List Int) (tl : List Lk) (st : Option Nat), vs = [.ref w, .int n] ∧ WalkAt Z K H w pl tb ps tl st ∧ WalkOk sd L kn x ps tl ∧ EndOk L kn ps tl st ∧ SideOk sd ∧ 0 < L ∧ L.natAbs < 2 ^ 200 ∧ KnOk kn ∧ x.natAbs < 2 ^ 390 ∧ tl.length < 4000 ∧ 0 ≤ n ∧ n.natAbs < 2 ^ 300 ∧
  ∀ H', Same H H' → Q (oV (it sd L kn x n.toNat)) H'
def spCheck (Z : Ad) (K : PySem.W.Frag) : Sp := fun vs H Q _ => ∃ (hp : Addr) (ds : List Addr) (L : Int) (hs : List (List Lk)), vs = [.ref hp] ∧ SqL K H hp (refs ds) ∧ Darks Z K H ds L hs ∧ 0 < ds.length ∧ ∀ H', Same H H' → Q .non H'
def spPlaceB (Z : Ad) (K : PySem.W.Frag) : Sp := fun vs H Q _ => ∃ (hp : Addr) (ds : List Addr) (sd : Str) (L x n : Int) (hs : List (List Lk)), vs = [.ref hp, .str sd, .int x, .int n] ∧ SqL K H hp (refs ds) ∧ Darks Z K H ds L hs ∧ 0 < ds.length ∧ ds.length ≤ 60 ∧ SideOk sd ∧ x.natAbs < 2 ^ 390 ∧ 0 ≤ n ∧ n.natAbs < 2 ^ 300 ∧
  ∀ H', Same H H' → Q (oV (it sd L (hs.map (sideOf sd)) x n.toNat)) H'
def spOneB (Z : Ad) (K : PySem.W.Frag) (sd : Str) : Sp := fun vs H Q _ => ∃ (hp : Addr) (ds : List Addr) (L x n : Int) (hs : List (List Lk)), vs = [.ref hp, .int x, .int n] ∧ SqL K H hp (refs ds) ∧ Darks Z K H ds L hs ∧ 0 < ds.length ∧ ds.length ≤ 60 ∧ x.natAbs < 2 ^ 390 ∧ 0 ≤ n ∧ n.natAbs < 2 ^ 300 ∧
  ∀ H', Same H H' → Q (oV (it sd L (hs.map (sideOf sd)) x n.toNat)) H'
theorem wf_new (pl tb : Addr) : putF "start" .non (putF "told_by" (.ref tb) (putF "places" (.ref pl) [])) = wf pl tb .non := by
  have e1 : ¬ (("places" : Str) = "told_by") := by decide +kernel
  have e2 : ¬ (("places" : Str) = "start") := by decide +kernel
  have e3 : ¬ (("told_by" : Str) = "start") := by decide +kernel
  show putF "start" .non (if ("places" : Str) = "told_by" then _ else (("places" : Str), V.ref pl) :: putF "told_by" (.ref tb) []) = _
  rw [if_neg e1]
  show (if ("places" : Str) = "start" then _ else (("places" : Str), V.ref pl) :: putF "start" .non (putF "told_by" (.ref tb) [])) = _
  rw [if_neg e2]
  show (("places" : Str), V.ref pl) :: (if ("told_by" : Str) = "start" then _ else (("told_by" : Str), V.ref tb) :: putF "start" .non []) = _
  rw [if_neg e3]; rfl
section
variable {P : Program} {w : World} {K : PySem.W.Frag} {mg : Str → Option Value} {base : Heap} {Z : Ad}
theorem ok_Dark_length (T : Tx K w mg Z) : FnOk P w K mg base CX0 1 Z.a_Dark_length Z.d_Dark_length P_Dark_length (spLen Z K) := by
  refine T.F_Dark_length.ok scDark_length (fun vs H Q E h => ?_) (fun cdv A outer s H vs Q E hr h => ?_)
  · obtain ⟨d, L, ls, rfl, _⟩ := h
    rfl
  · obtain ⟨d, L, ls, rfl, D, k⟩ := h
    obtain ⟨dx, la, xs, h1, h2, h3⟩ := id D.ex
    refine ⟨_, (pss_one (ps_ret (fldK (K := K) (pv 0) rfl))), ?_⟩
    exact ⟨_, rfl, d, Z.C, dx, _, _, rfl, h1, T.cl, T.n_length, df_length _ _, k⟩
theorem ok_Walk_init (T : Tx K w mg Z) : FnOk P w K mg base CX0 4 Z.a_Walk_init Z.d_Walk_init P_Walk_init (spWalk Z K) := by
  refine T.F_Walk_init.ok scWalk_init (fun vs H Q E h => ?_) (fun cdv A outer s H vs Q E hr h => ?_)
  · obtain ⟨w, hp, dx, ds, sd, L, x, hs, rfl, _⟩ := h
    rfl
  · obtain ⟨w, hp, dx, ds, sd, L, x, hs, rfl, hw, hh, hD, hd0, hd1, hsd, hx, hdw, k⟩ := h
    refine ⟨_, (pss_cons (ps_fld (pv 0) (pe_lst (pa_cons (pv 3) pa_nil)) rfl)
      (pss_cons (ps_fld (pv 0) (pe_lst pa_nil) rfl)
      (pss_cons (ps_fld (pv 0) pe_non rfl)
      (pss_one (ps_expr (pe_meth (pv 0) T.cl_Walk T.m_Walkfollow (ok_Walkfollow T) (hr.mono (by decide)) T.bb_Walkfollow .nil pass0 (pa_cons (pe_meth0 (pe_ix (ixL (K := K)) (pv 1) pe_int (fun _ _ => rfl)) T.cl T.m_Dark_length (ok_Dark_length T) (hr.mono (by decide)) T.bb_Dark_length .nil pass0) (pa_cons (pe_call (ok_round_looks T) (hr.mono (by decide)) (by rfl) T.g_round_looks T.F_round_looks.kp T.bb_round_looks .nil pass0 (pa_cons (pv 1) (pa_cons (pv 2) pa_nil))) (pa_cons (pv 2) pa_nil))))))))), ?_⟩
    refine ⟨_, rfl, (by show 1 ≤ sizeLine; decide), fun pl hpl => ?_⟩
    have hwp : w ≠ pl := ne_of_none hw hpl
    refine ⟨_, rfl, w, Z.C_Walk, dx, [], rfl, (upd_ne hwp).trans hw, T.cl_Walk, T.nWalk_places, (by show 0 < 1000; decide), ?_⟩
    refine ⟨(by show 0 ≤ sizeLine; decide), fun tb htb => ?_⟩
    have g1 : (upd (upd H pl (.lst [V.int x])) w (.ins Z.C_Walk dx (putF "places" (.ref pl) []))) w = some (.ins Z.C_Walk dx (putF "places" (.ref pl) [])) := upd_same
    have g1p : (upd (upd H pl (.lst [V.int x])) w (.ins Z.C_Walk dx (putF "places" (.ref pl) []))) pl = some (.lst [V.int x]) := (upd_ne (Ne.symm hwp)).trans upd_same
    have k1 : ∀ b o, H b = some o → b ≠ w → (upd (upd H pl (.lst [V.int x])) w (.ins Z.C_Walk dx (putF "places" (.ref pl) []))) b = some o := fun b o e n => (upd_ne n).trans ((upd_ne (ne_of_none e hpl)).trans e)
    generalize upd (upd H pl (.lst [V.int x])) w (.ins Z.C_Walk dx (putF "places" (.ref pl) [])) = H1 at htb g1 g1p k1 ⊢
    have hwt : w ≠ tb := ne_of_none g1 htb
    have hpt : pl ≠ tb := ne_of_none g1p htb
    refine ⟨_, rfl, w, Z.C_Walk, dx, _, rfl, (upd_ne hwt).trans g1, T.cl_Walk, T.nWalk_told_by, (by show 1 < 1000; decide), ?_⟩
    have g2 : (upd (upd H1 tb (.lst [])) w (.ins Z.C_Walk dx (putF "told_by" (.ref tb) (putF "places" (.ref pl) [])))) w = some (.ins Z.C_Walk dx (putF "told_by" (.ref tb) (putF "places" (.ref pl) []))) := upd_same
    have g2p : (upd (upd H1 tb (.lst [])) w (.ins Z.C_Walk dx (putF "told_by" (.ref tb) (putF "places" (.ref pl) [])))) pl = some (.lst [V.int x]) := (upd_ne (Ne.symm hwp)).trans ((upd_ne hpt).trans g1p)
    have g2t : (upd (upd H1 tb (.lst [])) w (.ins Z.C_Walk dx (putF "told_by" (.ref tb) (putF "places" (.ref pl) [])))) tb = some (.lst []) := (upd_ne (Ne.symm hwt)).trans upd_same
    have k2 : ∀ b o, H b = some o → b ≠ w → (upd (upd H1 tb (.lst [])) w (.ins Z.C_Walk dx (putF "told_by" (.ref tb) (putF "places" (.ref pl) [])))) b = some o := fun b o e n => (upd_ne n).trans ((upd_ne (ne_of_none (k1 b o e n) htb)).trans (k1 b o e n))
    generalize upd (upd H1 tb (.lst [])) w (.ins Z.C_Walk dx (putF "told_by" (.ref tb) (putF "places" (.ref pl) []))) = H2 at g2 g2p g2t k2 ⊢
    refine ⟨_, rfl, w, Z.C_Walk, dx, _, rfl, g2, T.cl_Walk, T.nWalk_start, (by show 2 < 1000; decide), ?_⟩
    rw [wf_new]
    have g3 : (upd H2 w (.ins Z.C_Walk dx (wf pl tb .non))) w = some (.ins Z.C_Walk dx (wf pl tb .non)) := upd_same
    have g3p : (upd H2 w (.ins Z.C_Walk dx (wf pl tb .non))) pl = some (.lst [V.int x]) := (upd_ne (Ne.symm hwp)).trans g2p
    have g3t : (upd H2 w (.ins Z.C_Walk dx (wf pl tb .non))) tb = some (.lst []) := (upd_ne (Ne.symm hwt)).trans g2t
    have k3 : Out w H (upd H2 w (.ins Z.C_Walk dx (wf pl tb .non))) := fun b o e n => (upd_ne n).trans (k2 b o e n)
    generalize upd H2 w (.ins Z.C_Walk dx (wf pl tb .non)) = H3 at g3 g3p g3t k3 ⊢
    have hh3 := k3.sqL hw hh
    have hD3 : Darks Z K H3 ds L hs := ⟨hD.1, fun i d ls e1 e2 => k3.dark (hD.2 i d ls e1 e2) hw (hdw d (List.mem_of_getElem? e1))⟩
    obtain ⟨d0, hd00⟩ : ∃ d0, ds[0]? = some d0 := ⟨ds[0], List.getElem?_eq_getElem hd0⟩
    obtain ⟨ls0, hls0, D0⟩ := hD3.get hd00
    have hix : atI (refs ds) 0 = some (.ref d0) := by
      refine at_of (j := 0) rfl ?_
      show (ds.map V.ref)[0]? = _
      rw [List.getElem?_map, hd00]; rfl
    obtain ⟨dx0, la0, vs0, e1, e2, e3⟩ := id D0.ex
    refine ⟨_, rfl, w, dx, _, rfl, g3, wf_no _ _ _ (by decide +kernel) (by decide +kernel) (by decide +kernel), ?_⟩
    refine ⟨_, rfl, _, _, _, _, rfl, rfl, hh3, hix, d0, dx0, _, rfl, e1, df_no _ _ (by decide +kernel) (by decide +kernel), d0, L, ls0, rfl, D0, ?_⟩
    refine ⟨_, rfl, _, rfl, hp, ds, sd, L, hs, rfl, hh3, hD3, hsd, Nat.le_trans hd1 (by decide), fun H4 p as hp4 hfr S4 gp4 gl4 => ?_⟩
    have hn : ∀ a ∈ p :: as, a ≠ w ∧ a ≠ pl ∧ a ≠ tb := fun a ha => by
      have : H3 a = none := by
        rcases List.mem_cons.mp ha with e | e
        · subst e; exact hp4
        · exact (hfr a e).1
      exact ⟨fun e => (by rw [e, g3] at this; cases this), fun e => (by rw [e, g3p] at this; cases this), fun e => (by rw [e, g3t] at this; cases this)⟩
    have hlen := hD.1
    refine ⟨_, rfl, w, p, pl, tb, dx, as, L, x, sd, hs.map (sideOf sd), rfl, S4 _ _ g3, S4 _ _ g3p, S4 _ _ g3t, gp4, gl4, hpt, hn, hsd, D0.pos, D0.big, hx, by rw [List.length_map]; omega, by rw [List.length_map]; omega, knOk hD sd, fun H5 ps tl st W E hm WA k5 => ?_⟩
    refine k H5 pl tb ps tl st W E hm WA fun b o e n => k5 b o (S4 _ _ (k3 b o e n)) n ?_ ?_
    · intro e'; subst e'; rw [hpl] at e; cases e
    · intro e'; subst e'; exact absurd e (by
        intro e
        rw [k1 _ _ e n] at htb; cases htb)
theorem ok_Walk_period (T : Tx K w mg Z) : FnOk P w K mg base CX0 1 Z.a_Walk_period Z.d_Walk_period P_Walk_period (spPeriod Z K) := by
  refine T.F_Walk_period.ok scWalk_period (fun vs H Q E h => ?_) (fun cdv A outer s H vs Q E hr h => ?_)
  · obtain ⟨w, pl, tb, ps, tl, s, rfl, _⟩ := h
    rfl
  · obtain ⟨w, pl, tb, ps, tl, s, rfl, ⟨dx, tvs, h1, h2, h3, h4⟩, k⟩ := h
    have hl : tvs.length = tl.length := by rw [dpAll_len h4, List.length_map]
    rw [← hl] at k
    refine ⟨_, (pss_one (ps_ret (pe_op op_sub (pe_callB (lenK (K := K)) (by rfl) T.b_len (by decide +kernel) (pa_cons (fldK (K := K) (pv 0) rfl) pa_nil)) (fldK (K := K) (pv 0) rfl)))), ?_⟩
    exact ⟨_, rfl, w, Z.C_Walk, dx, _, _, rfl, h1, T.cl_Walk, T.nWalk_told_by, wf_told _ _ _, tb, tvs, rfl, .inl (SqL.of h3), _, rfl, w, Z.C_Walk, dx, _, _, rfl, h1, T.cl_Walk, T.nWalk_start, wf_start _ _ _, _, _, rfl, rfl, k⟩
theorem ok_Walk_climb (T : Tx K w mg Z) : FnOk P w K mg base CX0 1 Z.a_Walk_climb Z.d_Walk_climb P_Walk_climb (spClimb Z K) := by
  refine T.F_Walk_climb.ok scWalk_climb (fun vs H Q E h => ?_) (fun cdv A outer s H vs Q E hr h => ?_)
  · obtain ⟨w, pl, tb, ps, tl, s, rfl, _⟩ := h
    rfl
  · obtain ⟨w, pl, tb, ps, tl, s, rfl, ⟨dx, tvs, h1, h2, h3, h4⟩, hl, hs, k⟩ := h
    have q1 : atI (ps.map V.int) (-1) = some (.int (ps.getD tl.length 0)) := by
      rw [atI_last (by rw [List.length_map]; omega : 0 < (ps.map V.int).length), List.length_map, show ps.length - 1 = tl.length by omega, List.getElem?_map, List.getD_eq_getElem?_getD, List.getElem?_eq_getElem (by omega)]; rfl
    have q2 : atI (ps.map V.int) (s : Int) = some (.int (ps.getD s 0)) := by
      refine at_of (j := s) (by simp) ?_
      rw [List.getElem?_map, List.getD_eq_getElem?_getD, List.getElem?_eq_getElem (by omega)]; rfl
    refine ⟨_, (pss_one (ps_ret (pe_op op_sub (pe_ix (ixL (K := K)) (fldK (K := K) (pv 0) rfl) (pe_un un_neg pe_int) (fun _ _ => rfl)) (pe_ix (ixL (K := K)) (fldK (K := K) (pv 0) rfl) (fldK (K := K) (pv 0) rfl) (fun _ _ => rfl))))), ?_⟩
    exact ⟨_, rfl, w, Z.C_Walk, dx, _, _, rfl, h1, T.cl_Walk, T.nWalk_places, wf_places _ _ _, _, rfl, _, _, _, _, rfl, rfl, SqL.of h2, q1, _, rfl, w, Z.C_Walk, dx, _, _, rfl, h1, T.cl_Walk, T.nWalk_places, wf_places _ _ _, _, rfl, w, Z.C_Walk, dx, _, _, rfl, h1, T.cl_Walk, T.nWalk_start, wf_start _ _ _, _, _, _, _, rfl, rfl, SqL.of h2, q2, _, _, rfl, rfl, k⟩
theorem getI (ps : List Int) {i : Nat} {j : Int} (h : i < ps.length) (e : j = (i : Int)) : atI (ps.map V.int) j = some (.int (ps.getD i 0)) := by
  refine at_of (j := i) e ?_
  rw [List.getElem?_map, List.getD_eq_getElem?_getD, List.getElem?_eq_getElem h]; rfl
theorem ok_Walk_behind (T : Tx K w mg Z) : FnOk P w K mg base CX0 2 Z.a_Walk_behind Z.d_Walk_behind P_Walk_behind (spBehind Z K) := by
  refine T.F_Walk_behind.ok scWalk_behind (fun vs H Q E h => ?_) (fun cdv A outer s H vs Q E hr h => ?_)
  · obtain ⟨w, pl, tb, sd, L, x, n, kn, ps, tl, st, rfl, _⟩ := h
    rfl
  · obtain ⟨w, pl, tb, sd, L, x, n, kn, ps, tl, st, rfl, WA, W, E0', hsd, hL, hLb, hkn, hx, hN, hn0, hnb, k⟩ := h
    obtain ⟨dx, tvs, h1, h2, h3, h4⟩ := id WA.ex
    have hwl := W.len
    refine ⟨_, (C8.pss_cut (ps_if (pt_cmpR op_lt (pv 1) (pe_callB (lenK (K := K)) (by rfl) T.b_len (by decide +kernel) (pa_cons (fldK (K := K) (pv 0) rfl) pa_nil)) (nomark _)) (pss_one (ps_ret (pe_ix (ixL (K := K)) (fldK (K := K) (pv 0) rfl) (pv 1) (fun _ _ => rfl)))) pss_nil)
      (C8.pss_cut (ps_if (pt_cmpR op_isN (fldK (K := K) (pv 0) rfl) pe_non (nomark _)) (pss_one (ps_ret pe_non)) pss_nil)
      (pss_cons (ps_asg (pe_callB call_divmodW (by rfl) T.b_divmod (by decide +kernel) (pa_cons (pe_op op_sub (pv 1) (fldK (K := K) (pv 0) rfl)) (pa_cons (pe_meth0 (pv 0) T.cl_Walk T.m_Walk_period (ok_Walk_period T) (hr.mono (by decide)) T.bb_Walk_period .nil pass0) pa_nil))) (tupK (K := K) (by rfl) (pgs_cons (pg_name (i := 2) scWalk_behind.nd rfl (Or.inl rfl)) (pgs_cons (pg_name (i := 3) scWalk_behind.nd rfl (Or.inl rfl)) pgs_nil))))
      (pss_one (ps_ret (pe_op op_add (pe_ix (ixL (K := K)) (fldK (K := K) (pv 0) rfl) (pe_op op_add (fldK (K := K) (pv 0) rfl) (pv 3)) (fun _ _ => rfl)) (pe_op op_mulW (pv 2) (pe_meth0 (pv 0) T.cl_Walk T.m_Walk_climb (ok_Walk_climb T) (hr.mono (by decide)) T.bb_Walk_climb .nil pass0)))))))), ?_⟩
    refine ⟨fun σ' H' => σ' = [some (.ref w), some (.int n), none, none] ∧ H' = H ∧ ps.length ≤ n.toNat, ?_, ?_⟩
    · refine ⟨_, rfl, _, rfl, w, Z.C_Walk, dx, _, _, rfl, h1, T.cl_Walk, T.nWalk_places, wf_places _ _ _, pl, ps.map V.int, rfl, .inl (SqL.of h2), _, _, rfl, rfl, _, rfl, ite2 (fun c => ?_) (fun c => ⟨rfl, rfl, ?_⟩)⟩
      · have hlt : n.toNat < ps.length := by
          have c' := of_decide_eq_true c
          rw [List.length_map] at c'; omega
        refine ⟨_, rfl, w, Z.C_Walk, dx, _, _, rfl, h1, T.cl_Walk, T.nWalk_places, wf_places _ _ _, _, rfl, _, _, _, _, rfl, rfl, SqL.of h2, getI ps hlt (by omega), ?_⟩
        have kk := k H (fun _ _ e => e)
        rw [behind_in W hlt] at kk
        exact kk
      · have c' : ¬ (n < ((ps.map V.int).length : Int)) := fun h => c (decide_eq_true h)
        rw [List.length_map] at c'; omega
    · rintro σ1 H1 ⟨rfl, rfl, hge⟩
      cases st with
      | none =>
        refine ⟨fun _ _ => False, ?_, fun _ _ z => z.elim⟩
        refine ⟨_, rfl, w, Z.C_Walk, dx, _, _, rfl, h1, T.cl_Walk, T.nWalk_start, wf_start _ _ _, rfl, _, rfl, iteT ?_⟩
        have kk := k H1 (fun _ _ e => e)
        rw [behind_none W E0' hge] at kk
        exact kk
      | some s =>
        refine ⟨fun σ' H' => σ' = [some (.ref w), some (.int n), none, none] ∧ H' = H1, ?_, ?_⟩
        · exact ⟨_, rfl, w, Z.C_Walk, dx, _, _, rfl, h1, T.cl_Walk, T.nWalk_start, wf_start _ _ _, rfl, _, rfl, iteF ⟨rfl, rfl⟩⟩
        · rintro σ2 H2 ⟨rfl, rfl⟩
          obtain ⟨hs1, hs2, a, b, ha, hb, hab⟩ := id E0'
          have hp0 : (0 : Int) < (tl.length : Int) - s := by omega
          refine ⟨_, rfl, _, rfl, w, Z.C_Walk, dx, _, _, rfl, h1, T.cl_Walk, T.nWalk_start, wf_start _ _ _, _, _, rfl, rfl, _, rfl, w, dx, _, rfl, h1, wf_no _ _ _ (by decide +kernel) (by decide +kernel) (by decide +kernel), w, pl, tb, ps, tl, s, rfl, WA, ?_⟩
          refine ⟨_, _, rfl, ⟨hp0, PyProof.noPylong_small (by omega)⟩, fun q hq => ?_⟩
          have S2 := same_upd (o := HO.tup [V.int ((n - s) / ((tl.length : Int) - s)), .int ((n - s) % ((tl.length : Int) - s))]) hq
          have hr0 := Int.emod_nonneg (n - s) (show (tl.length : Int) - s ≠ 0 by omega)
          have hr1 := Int.emod_lt_of_pos (n - s) hp0
          have ht0 : 0 ≤ (n - s) / ((tl.length : Int) - s) := Int.ediv_nonneg (by omega) (by omega)
          have hqr := Int.mul_ediv_add_emod (n - s) ((tl.length : Int) - s)
          have htb : ((n - s) / ((tl.length : Int) - s)).natAbs < 2 ^ 302 := div_lt hp0 (sub_lt hnb (Nat.lt_of_lt_of_le (by omega : (s : Int).natAbs < 4000) (by decide)))
          have WA2 : WalkAt Z K (upd H2 q (.tup [V.int ((n - s) / ((tl.length : Int) - s)), .int ((n - s) % ((tl.length : Int) - s))])) w pl tb ps tl (some s) := ⟨dx, tvs, S2 _ _ h1, S2 _ _ h2, S2 _ _ h3, dpAll_mono S2 _ _ h4⟩
          have hsq : SqT K (upd H2 q (.tup [V.int ((n - s) / ((tl.length : Int) - s)), .int ((n - s) % ((tl.length : Int) - s))])) q [V.int ((n - s) / ((tl.length : Int) - s)), .int ((n - s) % ((tl.length : Int) - s))] := SqT.of upd_same
          generalize upd H2 q (.tup [V.int ((n - s) / ((tl.length : Int) - s)), .int ((n - s) % ((tl.length : Int) - s))]) = H3 at S2 WA2 hsq ⊢
          generalize (n - s) / ((tl.length : Int) - s) = t at ht0 htb hqr hsq ⊢
          generalize (n - s) % ((tl.length : Int) - s) = r at hr0 hr1 hqr hsq ⊢
          have hsr : s + r.toNat < ps.length := by omega
          refine ⟨_, _, rfl, hsq, rfl, _, _, rfl, _, _, rfl, rfl, ?_⟩
          refine ⟨_, rfl, w, Z.C_Walk, dx, _, _, rfl, S2 _ _ h1, T.cl_Walk, T.nWalk_places, wf_places _ _ _, _, rfl, w, Z.C_Walk, dx, _, _, rfl, S2 _ _ h1, T.cl_Walk, T.nWalk_start, wf_start _ _ _, _, rfl, _, _, rfl, rfl, _, _, _, _, rfl, rfl, SqL.of (S2 _ _ h2), getI ps hsr (by omega), ?_⟩
          have hsm : ∀ i, i < ps.length → (ps.getD i 0).natAbs < 2 ^ 391 := fun i hi => by
            have q1 := W.small hL hLb hkn i (ps.getD i 0) (by rw [List.getD_eq_getElem?_getD, List.getElem?_eq_getElem hi]; rfl)
            have q2 : i * 2 ^ 312 ≤ 2 ^ 390 := Nat.le_trans (Nat.mul_le_mul_right _ (by omega : i ≤ 4000)) (by decide)
            have q3 : (2 : Nat) ^ 391 = 2 ^ 390 + 2 ^ 390 := by rw [Nat.pow_succ, Nat.mul_two]
            omega
          have hcl : (ps.getD tl.length 0 - ps.getD s 0).natAbs < 2 ^ 392 := sub_lt (hsm _ (by omega)) (hsm _ (by omega))
          refine ⟨_, rfl, _, rfl, w, dx, _, rfl, S2 _ _ h1, wf_no _ _ _ (by decide +kernel) (by decide +kernel) (by decide +kernel), w, pl, tb, ps, tl, s, rfl, WA2, hwl, hs1, _, _, rfl, rfl, wide_mul htb hcl (by decide) (by decide) (by decide), _, _, rfl, rfl, ?_⟩
          have kk := k H3 S2
          have e : n.toNat = s + r.toNat + t.toNat * (tl.length - s) := by
            obtain ⟨tn, rfl⟩ := Int.eq_ofNat_of_zero_le ht0
            obtain ⟨rn, rfl⟩ := Int.eq_ofNat_of_zero_le hr0
            obtain ⟨pn, hpn⟩ : ∃ pn : Nat, tl.length = s + pn := ⟨tl.length - s, by omega⟩
            have e2 : (tl.length : Int) - s = (pn : Int) := by omega
            rw [e2] at hqr
            have e3 : tl.length - s = pn := by omega
            rw [e3]
            have e4 : ((pn * tn : Nat) : Int) = (pn : Int) * (tn : Int) := by simp
            have e5 : tn * pn = pn * tn := Nat.mul_comm _ _
            show n.toNat = s + rn + tn * pn
            rw [e5]
            omega
          rw [e, behind_laps hsd hL W E0' t.toNat r.toNat hsr] at kk
          have e6 : ((t.toNat : Nat) : Int) = t := by omega
          rw [e6] at kk
          exact kk
theorem ok_check_round (T : Tx K w mg Z) : FnOk P w K mg base CX0 2 Z.a_check_round Z.d_check_round P_check_round (spCheck Z K) := by
  refine T.F_check_round.ok sccheck_round (fun vs H Q E h => ?_) (fun cdv A outer s H vs Q E hr h => ?_)
  · obtain ⟨hp, ds, L, hs, rfl, _⟩ := h
    rfl
  · obtain ⟨hp, ds, L, hs, rfl, hh, hD, hd0, k⟩ := h
    obtain ⟨d0, hd00⟩ : ∃ d0, ds[0]? = some d0 := ⟨ds[0], List.getElem?_eq_getElem hd0⟩
    obtain ⟨ls0, hls0, D0⟩ := hD.get hd00
    have hix : atI (refs ds) 0 = some (.ref d0) := by
      refine at_of (j := 0) rfl ?_
      show (ds.map V.ref)[0]? = _
      rw [List.getElem?_map, hd00]; rfl
    obtain ⟨dx0, la0, vs0, e1, e2, e3⟩ := id D0.ex
    refine ⟨_, (C8.pss_cut (ps_if (pt_not (pt_truth (pv 0) (by intro _; rfl))) (pss_one ps_never) pss_nil)
      (pss_cons (ps_set (i := 1) sccheck_round.nd rfl (Or.inl rfl) (pe_meth0 (pe_ix (ixL (K := K)) (pv 0) pe_int (fun _ _ => rfl)) T.cl T.m_Dark_length (ok_Dark_length T) (hr.mono (by decide)) T.bb_Dark_length .nil pass0))
      (pss_one (ps_for PassesOwn.never rfl (pi_enum (by rfl) T.b_enumerate (pa_cons (pv 0) pa_nil)) (tupK (K := K) (by rfl) (pgs_cons (pg_name (i := 2) sccheck_round.nd rfl (Or.inl rfl)) (pgs_cons (pg_name (i := 3) sccheck_round.nd rfl (Or.inl rfl)) pgs_nil))) (pss_one (ps_if (pt_cmpR op_ne (pe_meth0 (pv 3) T.cl T.m_Dark_length (ok_Dark_length T) (hr.mono (by decide)) T.bb_Dark_length .nil pass0) (pv 1) (nomark _)) (pss_one ps_never) pss_nil)))))), ?_⟩
    refine ⟨fun σ' H' => σ' = [some (.ref hp), none, none, none] ∧ H' = H, ?_, ?_⟩
    · refine ⟨_, rfl, _, .inl ⟨refs ds, hh, rfl⟩, ?_⟩
      cases ds with
      | nil => simp at hd0
      | cons d ds => exact iteF ⟨rfl, rfl⟩
    · rintro σ1 H1 ⟨rfl, rfl⟩
      refine ⟨_, rfl, _, _, _, _, rfl, rfl, hh, hix, d0, dx0, _, rfl, e1, df_no _ _ (by decide +kernel) (by decide +kernel), d0, L, ls0, rfl, D0, ?_⟩
      refine ⟨_, rfl, hp, refs ds, rfl, hh, ?_⟩
      refine for_enum (K := K) (a := hp) (xs := refs ds) (fun i σ' H' => ∃ u2 u3, σ' = [some (.ref hp), some (.int L), u2, u3] ∧ Same H1 H') ⟨_, _, rfl, fun _ _ e => e⟩ (fun i σ' H' _ ⟨_, _, _, S⟩ => Same.sqL S hh) ?_ (fun σ' H' ⟨_, _, _, S⟩ => k H' S)
      rintro i y T' σ' H' hi ⟨u2, u3, rfl, S⟩ hT'
      obtain ⟨d, hd, rfl⟩ : ∃ d, ds[i]? = some d ∧ y = .ref d := by
        obtain ⟨d, h1, h2⟩ := map_at hi
        exact ⟨d, h1, h2⟩
      obtain ⟨ls, hls, DD⟩ := hD.get hd
      have S2 := S.trans (same_upd (o := HO.tup [V.int (i : Nat), .ref d]) hT')
      have DD2 := DD.same S2
      obtain ⟨dx, la, vs, q1, q2, q3⟩ := id DD2.ex
      refine ⟨_, _, rfl, SqT.of upd_same, rfl, _, _, rfl, _, _, rfl, rfl, ?_⟩
      refine ⟨_, rfl, d, dx, _, rfl, q1, df_no _ _ (by decide +kernel) (by decide +kernel), d, L, ls, rfl, DD2, _, rfl, rfl, _, rfl, ?_⟩
      exact ite2 (fun c => (by simp at c : False).elim) (fun _ => ⟨_, _, rfl, S2⟩)
end
end KA
namespace KA
open PySem PySem.Spec PyProof.Rows L2 DP
/-! ### the first use behind which a walk is so far -/
/-- a comprehension over enumerate(xs) -/
theorem lc_enum {K : PySem.W.Frag} {a : Addr} {xs : List V} {g : TG} {tt : TT} {te : TE} {vs : List Nat} {σ : L2.St} {H1 : Hp} {D : Addr} {Qd : Hp → Prop} (Pv : Nat → Hp → Prop) (h0 : Pv 0 (upd H1 D (.lst []))) (hl : ∀ i H, i ≤ xs.length → Pv i H → SqL K H a xs)
    (hs : ∀ i x T H, xs[i]? = some x → Pv i H → H T = none → g (.ref T) (wipe σ vs) (upd H T (.tup [.int (i : Nat), x])) fun σ2 H2 => wipe σ2 vs = wipe σ vs ∧ tt σ2 H2 fun b H3 =>
      if b = true then te σ2 H3 fun y H4 => ∃ acc, H4 D = some (.lst acc) ∧ acc.length < sizeLine ∧ Pv (i + 1) (upd H4 D (.lst (acc ++ [y]))) else Pv (i + 1) H3) (hd : ∀ H, Pv xs.length H → Qd H) :
    ∃ W : Nat → Nat → Hp → Prop, (∃ m, W 0 m (upd H1 D (.lst []))) ∧ ∀ i m H, W i m H →
      ((Ite K a).stop i H ∧ Qd H) ∨ ((Ite K a).go i H ∧ ∃ Nx : Hp → Prop, (∀ H', Nx H' → ∃ m', m' < m ∧ W (i + 1) m' H') ∧ ∀ x H', (Ite K a).yld i H x H' → g x (wipe σ vs) H' fun σ2 H2 => wipe σ2 vs = wipe σ vs ∧ tt σ2 H2 fun b H3 =>
        if b = true then te σ2 H3 fun y H4 => ∃ acc, H4 D = some (.lst acc) ∧ acc.length < sizeLine ∧ Nx (upd H4 D (.lst (acc ++ [y]))) else Nx H3) := by
  refine ⟨fun i m H => m = xs.length - i ∧ i ≤ xs.length ∧ Pv i H, ⟨xs.length, rfl, Nat.zero_le _, h0⟩, ?_⟩
  rintro i m H ⟨rfl, hi, p⟩
  have q := hl i H hi p
  by_cases hlt : i < xs.length
  · refine .inr ⟨⟨xs, xs[i], q, by simp [hlt]⟩, Pv (i + 1), fun H' p' => ⟨xs.length - (i + 1), by omega, rfl, hlt, p'⟩, fun v H' y => ?_⟩
    obtain ⟨T, x, rfl, hT, rfl, f⟩ := y
    exact hs i x T H (f xs q) p hT
  · have e : i = xs.length := by omega
    subst e
    exact .inl ⟨⟨xs, q, Nat.le_refl _⟩, hd H p⟩
/-- the first place of f that is y or farther, or there is none -/
def IsReach (f : Nat → Option Int) (y : Int) : Option Nat → Prop
  | none => ∀ k m, f k = some m → m < y
  | some n => (∃ m, f n = some m ∧ y ≤ m) ∧ ∀ k, k < n → ∀ m, f k = some m → m < y
theorem IsReach.one {f : Nat → Option Int} {y : Int} : ∀ {r r' : Option Nat}, IsReach f y r → IsReach f y r' → r = r'
  | none, none, _, _ => rfl
  | none, some n, h, ⟨⟨m, e, h1⟩, _⟩ => absurd (h n m e) (by omega)
  | some n, none, ⟨⟨m, e, h1⟩, _⟩, h => absurd (h n m e) (by omega)
  | some n, some n', ⟨⟨m, e, h1⟩, h2⟩, ⟨⟨m', e', h1'⟩, h2'⟩ => by
    rcases Nat.lt_trichotomy n n' with h | h | h
    · exact absurd (h2' n h m e) (by omega)
    · rw [h]
    · exact absurd (h2 n' h m' e') (by omega)
def uV : Option Nat → V
  | none => .non
  | some n => .int (n : Int)
section
variable {sd : Str} {L : Int} {kn : List (List Lk)} {x y : Int} {ps : List Int} {tl : List Lk}
theorem getD_mem4 {l : List Int} {i : Nat} (h : i < l.length) : l.getD i 0 ∈ l := by
  rw [List.getD_eq_getElem?_getD, List.getElem?_eq_getElem h]; exact List.getElem_mem h
theorem reach_in (W : WalkOk sd L kn x ps tl) {i : Nat} (hi : i < ps.length) (hy : y ≤ ps.getD i 0) (hb : ∀ k, k < i → ps.getD k 0 < y) : IsReach (it sd L kn x) y (some i) := by
  refine ⟨⟨_, behind_in W hi, hy⟩, fun k hk m hm => ?_⟩
  rw [behind_in W (by omega : k < ps.length)] at hm
  rw [← Option.some.inj hm]
  exact hb k hk
theorem reach_off (W : WalkOk sd L kn x ps tl) (h : EndOk L kn ps tl none) (hb : ∀ v ∈ ps, v < y) : IsReach (it sd L kn x) y none := fun k m hm => by
  by_cases hk : k < ps.length
  · rw [behind_in W hk] at hm
    rw [← Option.some.inj hm]
    exact hb _ (getD_mem4 hk)
  · rw [behind_none W h (by omega)] at hm
    cases hm
theorem walk_at (hs : SideOk sd) (hL : 0 < L) (W : WalkOk sd L kn x ps tl) {s : Nat} (h : EndOk L kn ps tl (some s)) {n : Nat} (hn : s ≤ n) :
    ∃ t r : Nat, r < tl.length - s ∧ n = s + r + t * (tl.length - s) ∧ it sd L kn x n = some (ps.getD (s + r) 0 + t * (ps.getD tl.length 0 - ps.getD s 0)) := by
  have h1 := h.1
  have hl := W.len
  have hp : 0 < tl.length - s := by omega
  refine ⟨(n - s) / (tl.length - s), (n - s) % (tl.length - s), Nat.mod_lt _ hp, ?_, ?_⟩
  · have := Nat.div_add_mod (n - s) (tl.length - s)
    rw [Nat.mul_comm] at this
    omega
  · have h2 := Nat.mod_lt (n - s) hp
    have h3 := behind_laps hs hL W h ((n - s) / (tl.length - s)) ((n - s) % (tl.length - s)) (by omega)
    have h4 : s + (n - s) % (tl.length - s) + (n - s) / (tl.length - s) * (tl.length - s) = n := by
      have := Nat.div_add_mod (n - s) (tl.length - s)
      rw [Nat.mul_comm] at this
      omega
    rwa [h4] at h3
theorem reach_neg (hs : SideOk sd) (hL : 0 < L) (W : WalkOk sd L kn x ps tl) {s : Nat} (h : EndOk L kn ps tl (some s)) (hb : ∀ v ∈ ps, v < y) (hC : ps.getD tl.length 0 - ps.getD s 0 ≤ 0) : IsReach (it sd L kn x) y none := fun k m hm => by
  have hl := W.len
  have h1 := h.1
  by_cases hk : k < ps.length
  · rw [behind_in W hk] at hm
    rw [← Option.some.inj hm]
    exact hb _ (getD_mem4 hk)
  · obtain ⟨t, r, hr, _, e⟩ := walk_at hs hL W h (by omega : s ≤ k)
    rw [e] at hm
    rw [← Option.some.inj hm]
    have h2 := hb _ (getD_mem4 (by omega : s + r < ps.length))
    have h3 : (t : Int) * (ps.getD tl.length 0 - ps.getD s 0) ≤ 0 := Int.mul_nonpos_of_nonneg_of_nonpos (by omega) hC
    omega
theorem reach_pos (hs : SideOk sd) (hL : 0 < L) (W : WalkOk sd L kn x ps tl) {s : Nat} (h : EndOk L kn ps tl (some s)) (hb : ∀ v ∈ ps, v < y) {C M ti : Int} (eC : C = ps.getD tl.length 0 - ps.getD s 0) (hC : 0 < C)
    (hM : ∀ r, s + r < ps.length → ps.getD (s + r) 0 ≤ M) (hMy : M < y) (eti : ti = -((M - y) / C)) {a : Nat} (ha : s + a < ps.length) (ha1 : y - ti * C ≤ ps.getD (s + a) 0) (ha2 : ∀ i, i < a → ps.getD (s + i) 0 < y - ti * C) :
    0 ≤ ti ∧ IsReach (it sd L kn x) y (some (s + ti.toNat * (tl.length - s) + a)) := by
  have hl := W.len
  have h1 := h.1
  have hp : 0 < tl.length - s := by omega
  have q1 := Int.mul_ediv_add_emod (M - y) C
  have q2 := Int.emod_nonneg (M - y) (show C ≠ 0 by omega)
  have q3 := Int.emod_lt_of_pos (M - y) hC
  have t0 : 0 < ti := by
    have : (M - y) / C < 0 := Int.ediv_neg_of_neg_of_pos (by omega) hC
    omega
  obtain ⟨T, rfl⟩ : ∃ T : Nat, ti = (T : Int) := ⟨ti.toNat, by omega⟩
  have eg : (T : Int) * C = -(C * ((M - y) / C)) := by rw [eti]; grind
  have hgM : M - C < y - (T : Int) * C := by rw [eg]; omega
  refine ⟨by omega, ?_⟩
  rw [Int.toNat_natCast]
  refine ⟨⟨_, by
    have := behind_laps hs hL W h T a ha
    rw [← eC, show s + a + T * (tl.length - s) = s + T * (tl.length - s) + a by omega] at this
    exact this, by omega⟩, fun k hk m hm => ?_⟩
  by_cases hkl : k < ps.length
  · rw [behind_in W hkl] at hm
    rw [← Option.some.inj hm]
    exact hb _ (getD_mem4 hkl)
  · obtain ⟨t, r, hr, ek, e⟩ := walk_at hs hL W h (by omega : s ≤ k)
    rw [e, ← eC] at hm
    rw [← Option.some.inj hm]
    have hv := hM r (by omega)
    rcases Nat.lt_trichotomy t T with ht | ht | ht
    · have h2 : (t : Int) * C ≤ ((T : Int) - 1) * C := Int.mul_le_mul_of_nonneg_right (by omega) (by omega)
      have h3 : ((T : Int) - 1) * C = (T : Int) * C - C := by grind
      omega
    · subst ht
      have := ha2 r (by omega)
      omega
    · exfalso
      have h2 : (T + 1) * (tl.length - s) ≤ t * (tl.length - s) := Nat.mul_le_mul_right _ ht
      rw [Nat.add_mul, Nat.one_mul] at h2
      omega
end
theorem cut_from {xs : List V} {k : Nat} : cutV xs (some (k : Int)) none = xs.drop k := by
  unfold cutV
  rw [HT.sIx_none, HT.sIx_nat]
  by_cases h : k ≤ xs.length
  · rw [show min k xs.length = k by omega, List.take_of_length_le (by rw [List.length_drop]; exact Nat.le_refl _)]
  · rw [show min k xs.length = xs.length by omega, Nat.sub_self, List.take_zero, List.drop_eq_nil_of_le (by omega)]
def spReach (Z : Ad) (K : PySem.W.Frag) : Sp := fun vs H Q _ => ∃ (w pl tb : Addr) (sd : Str) (L x y : Int) (kn : List (List Lk)) (ps : List Int) (tl : List Lk) (st : Option Nat), vs = [.ref w, .int y] ∧ WalkAt Z K H w pl tb ps tl st ∧ WalkOk sd L kn x ps tl ∧ EndOk L kn ps tl st ∧ SideOk sd ∧ 0 < L ∧ L.natAbs < 2 ^ 200 ∧ KnOk kn ∧ x.natAbs < 2 ^ 390 ∧ tl.length < 4000 ∧ y.natAbs < 2 ^ 400 ∧
  ∀ H' r, Same H H' → IsReach (it sd L kn x) y r → Q (uV r) H'
section
variable {P : Program} {w : World} {K : PySem.W.Frag} {mg : Str → Option Value} {base : Heap} {Z : Ad}
theorem ok_Walk_reach (T : Tx K w mg Z) : FnOk P w K mg base CX0 2 Z.a_Walk_reach Z.d_Walk_reach P_Walk_reach (spReach Z K) := by
  refine T.F_Walk_reach.ok scWalk_reach (fun vs H Q E h => ?_) (fun cdv A outer s H vs Q E hr h => ?_)
  · obtain ⟨w, pl, tb, sd, L, x, y, kn, ps, tl, st, rfl, _⟩ := h
    rfl
  · obtain ⟨w, pl, tb, sd, L, x, y, kn, ps, tl, st, rfl, WA, W, E0', hsd, hL, hLb, hkn, hx, hN, hyb, k⟩ := h
    obtain ⟨dx, tvs, h1, h2, h3, h4⟩ := id WA.ex
    have hwl := W.len
    have hno := wf_no pl tb (stV st) (m := "climb") (by decide +kernel) (by decide +kernel) (by decide +kernel)
    have hsm : ∀ i, i < ps.length → (ps.getD i 0).natAbs < 2 ^ 391 := fun i hi => by
      have q1 := W.small hL hLb hkn i (ps.getD i 0) (by rw [List.getD_eq_getElem?_getD, List.getElem?_eq_getElem hi]; rfl)
      have q2 : i * 2 ^ 312 ≤ 2 ^ 390 := Nat.le_trans (Nat.mul_le_mul_right _ (by omega : i ≤ 4000)) (by decide)
      have q3 : (2 : Nat) ^ 391 = 2 ^ 390 + 2 ^ 390 := by rw [Nat.pow_succ, Nat.mul_two]
      omega
    refine ⟨_, (pss_cons (ps_for PassesOwn.never rfl (pi_enum (by rfl) T.b_enumerate (pa_cons (fldK (K := K) (pv 0) rfl) pa_nil)) (tupK (K := K) (by rfl) (pgs_cons (pg_name (i := 2) scWalk_reach.nd rfl (Or.inl rfl)) (pgs_cons (pg_name (i := 3) scWalk_reach.nd rfl (Or.inl rfl)) pgs_nil))) (pss_one (ps_if (pt_cmpR op_ge (pv 3) (pv 1) (nomark _)) (pss_one (ps_ret (pv 2))) pss_nil)))
      (C8.pss_cut (ps_if (PW.pt (pw_or (pt_cmpR op_isN (fldK (K := K) (pv 0) rfl) pe_non (nomark _)) (pw_or1 (pt_cmpR op_le (pe_meth0 (pv 0) T.cl_Walk T.m_Walk_climb (ok_Walk_climb T) (hr.mono (by decide)) T.bb_Walk_climb .nil pass0) pe_int (nomark _))))) (pss_one (ps_ret pe_non)) pss_nil)
      (pss_cons (ps_set (i := 4) scWalk_reach.nd rfl (Or.inl rfl) (pe_slice (slL (K := K)) (fldK (K := K) (pv 0) rfl) (po_some (fldK (K := K) (pv 0) rfl)) po_none))
      (pss_cons (ps_set (i := 5) scWalk_reach.nd rfl (Or.inl rfl) (pe_un un_neg (pe_op op_fdivW (pe_op op_sub (pe_callB (maxK (K := K) rfl) (by rfl) T.b_max (by decide +kernel) (pa_cons (pv 4) pa_nil)) (pv 1)) (pe_meth0 (pv 0) T.cl_Walk T.m_Walk_climb (ok_Walk_climb T) (hr.mono (by decide)) T.bb_Walk_climb .nil pass0))))
      (pss_cons (ps_set (i := 6) scWalk_reach.nd rfl (Or.inr rfl) (pe_op op_sub (pv 1) (pe_op op_mulW (pv 5) (pe_meth0 (pv 0) T.cl_Walk T.m_Walk_climb (ok_Walk_climb T) (hr.mono (by decide)) T.bb_Walk_climb .nil pass0))))
      (pss_cons (ps_setLc (i := 7) (own := [("at", 8), ("place", 3)]) (g := gTup K 2 (gCons (gName 8) (gCons (gName 3) gNil))) (tt := _) rfl scWalk_reach.nd rfl rfl (sw_true rfl rfl rfl (by decide +kernel)) (pi_enum (by rfl) T.b_enumerate (pa_cons (pv 4) pa_nil)) (blkOk_by (own := [("at", 8), ("place", 3)]) (N := N_Walk_reach) (sc := defScope sWalk_reach) (by decide +kernel)) (fun _ _ _ _ _ => (tupK (K := K) (by rfl) (pgs_cons (pg_name (i := 8) scWalk_reach.nd rfl (Or.inl rfl)) (pgs_cons (pg_name (i := 3) scWalk_reach.nd rfl (Or.inl rfl)) pgs_nil)))) (fun _ _ _ _ _ => (pts_one (pt_cmpR op_ge (pv 3) (pv 6) (nomark _)))) (fun _ _ _ _ _ => (pv 8)))
      (pss_one (ps_ret (pe_op op_add (pe_op op_add (fldK (K := K) (pv 0) rfl) (pe_op op_mulW (pv 5) (pe_meth0 (pv 0) T.cl_Walk T.m_Walk_period (ok_Walk_period T) (hr.mono (by decide)) T.bb_Walk_period .nil pass0))) (pe_ix (ixL (K := K)) (pv 7) pe_int (fun _ _ => rfl))))))))))), ?_⟩
    refine ⟨_, rfl, w, Z.C_Walk, dx, _, _, rfl, h1, T.cl_Walk, T.nWalk_places, wf_places _ _ _, pl, ps.map V.int, rfl, SqL.of h2, ?_⟩
    refine for_enum (K := K) (a := pl) (xs := ps.map V.int) (fun i σ' H' => ∃ u2 u3, σ' = [some (.ref w), some (.int y), u2, u3, none, none, none, none, none] ∧ Same H H' ∧ ∀ j, j < i → ps.getD j 0 < y) ⟨_, _, rfl, fun _ _ e => e, fun j hj => by omega⟩ (fun i σ' H' _ ⟨_, _, _, S, _⟩ => SqL.of (S _ _ h2)) ?_ ?_
    · rintro i v T' σ' H' hi ⟨u2, u3, rfl, S, hb⟩ hT'
      obtain ⟨p, hp, rfl⟩ := map_at hi
      have hil : i < ps.length := (List.getElem?_eq_some_iff.mp hp).1
      have ep : ps.getD i 0 = p := by rw [List.getD_eq_getElem?_getD, hp]; rfl
      have S2 := S.trans (same_upd (o := HO.tup [V.int (i : Nat), .int p]) hT')
      refine ⟨_, _, rfl, SqT.of upd_same, rfl, _, _, rfl, _, _, rfl, rfl, ?_⟩
      refine ⟨_, rfl, _, rfl, _, _, rfl, rfl, _, rfl, ite2 (fun c => ?_) (fun c => ?_)⟩
      · have c' : p ≥ y := of_decide_eq_true c
        exact ⟨_, rfl, k _ (some i) S2 (reach_in W hil (by omega) hb)⟩
      · have c' : ¬ p ≥ y := fun h => c (decide_eq_true h)
        refine ⟨_, _, rfl, S2, fun j hj => ?_⟩
        by_cases e : j < i
        · exact hb j e
        · have : j = i := by omega
          subst this
          omega
    rintro σ1 H1 ⟨u2, u3, rfl, S1, hb0⟩
    have hb : ∀ v ∈ ps, v < y := fun v hv => by
      obtain ⟨i, hi, e⟩ := List.getElem_of_mem hv
      have := hb0 i (by rw [List.length_map]; exact hi)
      rw [List.getD_eq_getElem?_getD, List.getElem?_eq_getElem hi] at this
      rw [← e]; exact this
    have WA1 : WalkAt Z K H1 w pl tb ps tl st := ⟨dx, tvs, S1 _ _ h1, S1 _ _ h2, S1 _ _ h3, dpAll_mono S1 _ _ h4⟩
    cases st with
    | none =>
      refine ⟨fun _ _ => False, ?_, fun _ _ z => z.elim⟩
      exact ⟨_, rfl, w, Z.C_Walk, dx, _, _, rfl, S1 _ _ h1, T.cl_Walk, T.nWalk_start, wf_start _ _ _, rfl, _, rfl, iteT (iteT (k H1 none S1 (reach_off W E0' hb)))⟩
    | some s =>
      have hs1 := E0'.1
      have hlap : s < ps.length := by omega
      obtain ⟨C, eC⟩ : ∃ C, C = ps.getD tl.length 0 - ps.getD s 0 := ⟨_, rfl⟩
      refine ⟨fun σ' H' => σ' = [some (.ref w), some (.int y), u2, u3, none, none, none, none, none] ∧ H' = H1 ∧ 0 < C, ?_, ?_⟩
      · refine ⟨_, rfl, w, Z.C_Walk, dx, _, _, rfl, S1 _ _ h1, T.cl_Walk, T.nWalk_start, wf_start _ _ _, rfl, _, rfl, iteF ?_⟩
        refine ⟨_, rfl, w, dx, _, rfl, S1 _ _ h1, hno, w, pl, tb, ps, tl, s, rfl, WA1, hwl, hs1, _, _, rfl, rfl, _, rfl, ite2 (fun c => ?_) (fun c => ⟨rfl, rfl, ?_⟩)⟩
        · have c' : ps.getD tl.length 0 - ps.getD s 0 ≤ 0 := of_decide_eq_true c
          exact k H1 none S1 (reach_neg hsd hL W E0' hb c')
        · have c' : ¬ ps.getD tl.length 0 - ps.getD s 0 ≤ 0 := fun h => c (decide_eq_true h)
          omega
      rintro σ2 H2 ⟨rfl, rfl, hC⟩
      refine ⟨_, rfl, w, Z.C_Walk, dx, _, _, rfl, S1 _ _ h1, T.cl_Walk, T.nWalk_places, wf_places _ _ _, _, rfl, w, Z.C_Walk, dx, _, _, rfl, S1 _ _ h1, T.cl_Walk, T.nWalk_start, wf_start _ _ _, (s : Int), rfl, pl, ps.map V.int, rfl, SqL.of (S1 _ _ h2), fun lp hlp => ?_⟩
      rw [cut_from, ← List.map_drop]
      have S3 := S1.trans (same_upd (o := HO.lst ((ps.drop s).map V.int)) hlp)
      have g3 : (upd H2 lp (.lst ((ps.drop s).map V.int))) lp = some (.lst ((ps.drop s).map V.int)) := upd_same
      generalize upd H2 lp (.lst ((ps.drop s).map V.int)) = H3 at S3 g3 ⊢
      have WA3 : WalkAt Z K H3 w pl tb ps tl (some s) := ⟨dx, tvs, S3 _ _ h1, S3 _ _ h2, S3 _ _ h3, dpAll_mono S3 _ _ h4⟩
      have hdl : (ps.drop s).length = ps.length - s := List.length_drop
      have hCb : C.natAbs < 2 ^ 392 := by rw [eC]; exact sub_lt (hsm _ (by omega)) (hsm _ (by omega))
      -- times
      refine ⟨_, rfl, lp, ps.drop s, rfl, SqL.of g3, by omega, fun M hM1 hM2 => ?_⟩
      have hMget : ∀ r, s + r < ps.length → ps.getD (s + r) 0 ≤ M := fun r hr => hM2 _ (by
        have e : ps.getD (s + r) 0 = (ps.drop s).getD r 0 := by
          rw [List.getD_eq_getElem?_getD, List.getD_eq_getElem?_getD, List.getElem?_drop]
        rw [e]; exact getD_mem4 (by omega))
      have hMmem : M ∈ ps := List.mem_of_mem_drop hM1
      have hMy : M < y := hb M hMmem
      have hMb : M.natAbs < 2 ^ 401 := by
        obtain ⟨i, hi, e⟩ := List.getElem_of_mem hMmem
        have := hsm i hi
        rw [List.getD_eq_getElem?_getD, List.getElem?_eq_getElem hi, Option.getD_some, e] at this
        exact lt_up this (by decide)
      have hCd : 0 < ps.getD tl.length 0 - ps.getD s 0 := by omega
      refine ⟨_, rfl, _, _, rfl, rfl, _, rfl, w, dx, _, rfl, S3 _ _ h1, hno, w, pl, tb, ps, tl, s, rfl, WA3, hwl, hs1, _, _, rfl, rfl, wide_div hCd (by rw [eC] at hCb; exact hCb) (by decide) (by decide), _, rfl, ?_⟩
      rw [← eC]
      obtain ⟨ti, eti⟩ : ∃ ti, ti = -((M - y) / C) := ⟨_, rfl⟩
      have htib : ti.natAbs < 2 ^ 403 := by
        rw [eti, Int.natAbs_neg]
        exact div_lt hC (sub_lt hMb (lt_up hyb (by decide)))
      have htb : (-((M - y) / C)).natAbs < 2 ^ 403 := by rw [← eti]; exact htib
      refine ⟨_, rfl, _, rfl, _, rfl, w, dx, _, rfl, S3 _ _ h1, hno, w, pl, tb, ps, tl, s, rfl, WA3, hwl, hs1, _, _, rfl, rfl, wide_mul htb (by rw [eC] at hCb; exact hCb) (by decide) (by decide) (by decide), _, _, rfl, rfl, ?_⟩
      -- far_enough
      refine ⟨_, rfl, lp, _, rfl, SqL.of g3, fun D hD => ?_⟩
      have e30 : V.int (y - -((M - y) / C) * C) = .int (y - ti * C) := by rw [eti]
      refine lc_enum (K := K) (a := lp) (xs := (ps.drop s).map V.int) (fun i H' => Same H3 H' ∧ H' D = some (.lst (((List.range i).filter fun j => decide (y - ti * C ≤ ps.getD (s + j) 0)).map fun j => V.int (j : Nat)))) ⟨same_upd hD, upd_same⟩ (fun i H' _ ⟨S, _⟩ => SqL.of (S _ _ g3)) ?_ ?_
      · rintro i v T' H4 hi ⟨S4, gD⟩ hT'
        obtain ⟨p, hp, rfl⟩ := map_at hi
        have hil : i < ps.length - s := by
          have := (List.getElem?_eq_some_iff.mp hp).1
          omega
        have ep : ps.getD (s + i) 0 = p := by
          rw [List.getElem?_drop] at hp
          rw [List.getD_eq_getElem?_getD, hp]; rfl
        have S5 := same_upd (o := HO.tup [V.int (i : Nat), .int p]) hT'
        refine ⟨_, _, rfl, SqT.of upd_same, rfl, _, _, rfl, _, _, rfl, rfl, rfl, ?_⟩
        refine ⟨_, rfl, _, rfl, _, _, rfl, rfl, _, rfl, ite2 (fun c => ?_) (fun c => ?_)⟩
        · have c' : p ≥ y - -((M - y) / C) * C := by
            have := of_decide_eq_true c
            rw [← eC] at this
            exact this
          rw [← eti] at c'
          refine ⟨_, rfl, _, S5 _ _ gD, ?_, same_set (S4.trans S5) hD, ?_⟩
          · rw [List.length_map]
            have h1 := List.length_filter_le (fun j => decide (y - ti * C ≤ ps.getD (s + j) 0)) (List.range i)
            rw [List.length_range] at h1
            exact Nat.lt_of_le_of_lt (by omega : _ ≤ 4000) (by decide)
          · rw [List.range_succ, List.filter_append, List.map_append]
            have e : [i].filter (fun j => decide (y - ti * C ≤ ps.getD (s + j) 0)) = [i] := by
              rw [List.filter_cons_of_pos (by rw [ep]; exact decide_eq_true c')]; rfl
            rw [e]
            exact upd_same
        · have c' : ¬ p ≥ y - -((M - y) / C) * C := fun h => c (by
            rw [← eC]
            exact decide_eq_true h)
          rw [← eti] at c'
          refine ⟨S4.trans S5, ?_⟩
          rw [List.range_succ, List.filter_append]
          have e : [i].filter (fun j => decide (y - ti * C ≤ ps.getD (s + j) 0)) = [] := by
            rw [List.filter_cons_of_neg (by rw [ep]; simpa using c')]; rfl
          rw [e, List.append_nil]
          exact S5 _ _ gD
      rintro H4 ⟨S4, gD⟩
      rw [List.length_map, hdl] at gD
      -- the first of them
      obtain ⟨a, ha, ha1, ha2, hfirst⟩ : ∃ a : Nat, a < ps.length - s ∧ y - ti * C ≤ ps.getD (s + a) 0 ∧ (∀ i, i < a → ps.getD (s + i) 0 < y - ti * C) ∧ ((List.range (ps.length - s)).filter fun j => decide (y - ti * C ≤ ps.getD (s + j) 0)).head? = some a := by
        have hMx : y - ti * C ≤ M := by
          have q1 := Int.mul_ediv_add_emod (M - y) C
          have q2 := Int.emod_nonneg (M - y) (show C ≠ 0 by omega)
          have : ti * C = -(C * ((M - y) / C)) := by rw [eti]; grind
          omega
        cases hf : (List.range (ps.length - s)).find? (fun j => decide (y - ti * C ≤ ps.getD (s + j) 0)) with
        | none =>
          exfalso
          obtain ⟨i, hi, e⟩ := List.getElem_of_mem hM1
          rw [List.find?_eq_none] at hf
          refine hf i (List.mem_range.mpr (by omega)) ?_
          rw [decide_eq_true_eq, List.getD_eq_getElem?_getD, ← List.getElem?_drop, List.getElem?_eq_getElem hi, Option.getD_some, e]
          exact hMx
        | some a =>
          have hf2 := List.find?_range_eq_some.mp hf
          refine ⟨a, List.mem_range.mp hf2.2.1, of_decide_eq_true hf2.1, fun i hi => ?_, by rw [List.head?_filter]; exact hf⟩
          have := hf2.2.2 i hi
          simpa using this
      obtain ⟨rest, hrest⟩ : ∃ rest, ((List.range (ps.length - s)).filter fun j => decide (y - ti * C ≤ ps.getD (s + j) 0)) = a :: rest := by
        cases hl : ((List.range (ps.length - s)).filter fun j => decide (y - ti * C ≤ ps.getD (s + j) 0)) with
        | nil => rw [hl] at hfirst; cases hfirst
        | cons b r => rw [hl] at hfirst; exact ⟨r, by rw [Option.some.inj hfirst]⟩
      rw [hrest, List.map_cons] at gD
      obtain ⟨ti0, hR⟩ := reach_pos hsd hL W E0' hb eC hC hMget hMy eti (by omega : s + a < ps.length) ha1 ha2
      have S34 := S3.trans S4
      have WA4 : WalkAt Z K H4 w pl tb ps tl (some s) := ⟨dx, tvs, S34 _ _ h1, S34 _ _ h2, S34 _ _ h3, dpAll_mono S34 _ _ h4⟩
      have hno2 := wf_no pl tb (stV (some s)) (m := "period") (by decide +kernel) (by decide +kernel) (by decide +kernel)
      refine ⟨_, rfl, w, Z.C_Walk, dx, _, _, rfl, S34 _ _ h1, T.cl_Walk, T.nWalk_start, wf_start _ _ _, _, rfl, _, rfl, w, dx, _, rfl, S34 _ _ h1, hno2, w, pl, tb, ps, tl, s, rfl, WA4, _, _, rfl, rfl, wide_mul (a := 403) (b := 13) htb (Nat.lt_of_lt_of_le (by omega : ((tl.length : Int) - s).natAbs < 4000) (by decide)) (by decide) (by decide) (by decide), _, _, rfl, rfl, _, rfl, D, _, _, _, rfl, rfl, SqL.of gD, at_of (j := 0) rfl rfl, _, _, rfl, rfl, ?_⟩
      have kk := k H4 _ S34 hR
      have e : (s : Int) + ti * ((tl.length : Int) - s) + (a : Int) = ((s + ti.toNat * (tl.length - s) + a : Nat) : Int) := by
        obtain ⟨T0, rfl⟩ := Int.eq_ofNat_of_zero_le ti0
        obtain ⟨pn, hpn⟩ : ∃ pn : Nat, tl.length = s + pn := ⟨tl.length - s, by omega⟩
        rw [hpn, Int.toNat_natCast, show s + pn - s = pn by omega]
        push_cast
        grind
      rw [eti] at e
      have e2 : uV (some (s + ti.toNat * (tl.length - s) + a)) = V.int ((s + ti.toNat * (tl.length - s) + a : Nat) : Int) := rfl
      rw [e2, eti] at kk
      rw [← e] at kk
      exact kk
theorem ok_most_uses (T : Tx K w mg Z) : FnOk P w K mg base CX0 6 Z.a_most_uses Z.d_most_uses P_most_uses (fun vs H Q _ => ∃ (hp : Addr) (ds : List Addr) (L x y : Int) (hs : List (List Lk)), vs = [.ref hp, .int x, .int y] ∧ SqL K H hp (refs ds) ∧ Darks Z K H ds L hs ∧ 0 < ds.length ∧ ds.length ≤ 60 ∧ x.natAbs < 2 ^ 390 ∧ y.natAbs < 2 ^ 400 ∧ ∀ H' r, Same H H' → IsReach (it "slow" L (hs.map (sideOf "slow")) x) y r → (∃ ps tl st, WalkOk "slow" L (hs.map (sideOf "slow")) x ps tl ∧ EndOk L (hs.map (sideOf "slow")) ps tl st ∧ tl.length < 4000) → Q (uV r) H') := by
  refine T.F_most_uses.ok scmost_uses (fun vs H Q E h => ?_) (fun cdv A outer s H vs Q E hr h => ?_)
  · obtain ⟨hp, ds, L, x, y, hs, rfl, _⟩ := h
    rfl
  · obtain ⟨hp, ds, L, x, y, hs, rfl, hh, hD, hd0, hd1, hx, hyb, k⟩ := h
    refine ⟨_, (pss_cons (ps_expr (pe_call (ok_check_round T) (hr.mono (by decide)) (by rfl) T.g_check_round T.F_check_round.kp T.bb_check_round .nil pass0 (pa_cons (pv 0) pa_nil)))
      (pss_one (ps_ret (pe_meth (pe_make T.mk_Walk (ok_Walk_init T) (hr.mono (by decide)) (by rfl) T.g_Walk T.bb_Walk_init .nil pass0 (pa_cons (pv 0) (pa_cons (pe_glob rfl T.g_SLOW T.r_SLOW) (pa_cons (pv 1) pa_nil)))) T.cl_Walk T.m_Walk_reach (ok_Walk_reach T) (hr.mono (by decide)) T.bb_Walk_reach .nil pass0 (pa_cons (pv 2) pa_nil))))), ?_⟩
    refine ⟨_, rfl, hp, ds, L, hs, rfl, hh, hD, hd0, fun H1 S1 => ?_⟩
    refine ⟨_, rfl, _, rfl, fun w dx hwn hdx hne => ?_⟩
    have S2 := S1.trans (same_made (o := HO.ins Z.C_Walk dx []) hwn hdx)
    have hD2 := hD.same S2
    have hdw : ∀ d ∈ ds, d ≠ w := fun d hd e => by
      obtain ⟨i, hi, e1⟩ := List.getElem_of_mem hd
      have hi' : ds[i]? = some d := by rw [List.getElem?_eq_getElem hi, e1]
      obtain ⟨ls, _, DD⟩ := (hD.same S1).get hi'
      obtain ⟨dx', la, vs, q1, _⟩ := DD.ex
      rw [e, hwn] at q1; cases q1
    refine ⟨w, hp, dx, ds, "slow", L, x, hs, rfl, upd_same, Same.sqL S2 hh, hD2, hd0, hd1, .inl rfl, hx, hdw, fun H3 pl tb ps tl st W E hm WA k3 => ⟨rfl, ?_⟩⟩
    have S3 : Same H H3 := fun b o e => k3 b o (S2 b o e) (fun e' => by
      subst e'
      rw [S1 _ _ e] at hwn; cases hwn)
    obtain ⟨dxw, tvs, q1, q2, q3, q4⟩ := id WA.ex
    have hl := hD.1
    have hkn := knOk hD "slow"
    have hN : tl.length < 4000 := by
      have h1 := marks_le (by rw [List.length_map]; omega) W (n := tl.length) (by have := W.len; omega) hm
      have h2 := cand_len hkn (L := L) x
      have h3 : (hs.map (sideOf "slow")).length * 60 ≤ 60 * 60 := Nat.mul_le_mul_right 60 (by rw [List.length_map]; omega)
      omega
    obtain ⟨d0, hd00⟩ : ∃ d0, ds[0]? = some d0 := ⟨ds[0], List.getElem?_eq_getElem hd0⟩
    obtain ⟨ls0, hls0, D0⟩ := hD.get hd00
    refine ⟨w, dxw, _, rfl, q1, wf_no _ _ _ (by decide +kernel) (by decide +kernel) (by decide +kernel), _, rfl, w, pl, tb, "slow", L, x, y, hs.map (sideOf "slow"), ps, tl, st, rfl, WA, W, E, .inl rfl, D0.pos, D0.big, hkn, hx, hN, hyb, fun H4 r S4 hr4 => ?_⟩
    exact k H4 r (S3.trans S4) hr4 ⟨ps, tl, st, W, E, hN⟩
end
end KA
namespace KA
open PySem PySem.Spec PyProof.Rows L2 DP
/-- what stood stands, but at t and g -/
def Keep (t g : Addr) (H H' : Hp) : Prop := ∀ b o, H b = some o → b ≠ t → b ≠ g → H' b = some o
theorem Keep.refl (t g : Addr) (H : Hp) : Keep t g H H := fun _ _ h _ _ => h
theorem Keep.trans {t g : Addr} {H H1 H2 : Hp} (a : Keep t g H H1) (b : Keep t g H1 H2) : Keep t g H H2 := fun c o h x y => b c o (a c o h x y) x y
/-- the deck: at t, its great numbers at g; no more than n draws so far went by the fold -/
structure Tray (H : Hp) (t g : Addr) (n : Nat) : Prop where
  ex : ∃ (gs : List Int) (f c : Int), H t = some (.lst [.ref g, .int f, .int c]) ∧ H g = some (.lst (gs.map V.int)) ∧ gs.length ≤ 63 ∧ (∀ x ∈ gs, 0 ≤ x) ∧ 0 ≤ f ∧ f < 2 ^ 61 ∧ 0 ≤ c ∧ c ≤ (n : Int)
  ne : t ≠ g
theorem Tray.same {H H' : Hp} {t g : Addr} {n : Nat} (T : Tray H t g n) (S : Same H H') : Tray H' t g n := by
  obtain ⟨⟨gs, f, c, h1, h2, r⟩, hne⟩ := T
  exact ⟨⟨gs, f, c, S _ _ h1, S _ _ h2, r⟩, hne⟩
theorem Keep.of_same {t g : Addr} {H H' : Hp} (S : Same H H') : Keep t g H H' := fun b o e _ _ => S b o e
theorem shaped_ints (ns : List Int) : SeqAt.shaped (.list (ns.map .int)) = true := by
  have h1 : ∀ ns : List Int, PyData.canLayAll0 (ns.map .int) = true := by
    intro ns
    induction ns with
    | nil => rfl
    | cons a r ih => simp [PyData.canLayAll0, PyData.canLay0, ih]
  have h2 : ∀ ns : List Int, PyData.depthAll (ns.map .int) = 0 := PySem.W.depth_ints
  unfold SeqAt.shaped
  simp [PyData.canLay0, PyData.depth, h1, h2]
theorem pow_lt {i : Int} {a n : Nat} (h : i.natAbs < 2 ^ a) (h0 : n ≠ 0) : (i ^ n).natAbs < 2 ^ (a * n) := by
  rw [Int.natAbs_pow, Nat.pow_mul]
  exact Nat.pow_lt_pow_left h h0
theorem while_post {c : TT} {tb : TS} {D : Ends} {σ : L2.St} {H : Hp} (Pv : L2.St → Hp → Prop) (μ : L2.St → Hp → Nat) (Po : L2.St → Hp → Prop) (h0 : Pv σ H)
    (hs : ∀ σ H, Pv σ H → c σ H fun b H1 => if b = true then tb { D with nx := fun σ' H' => Pv σ' H' ∧ μ σ' H' < μ σ H, ct := fun σ' H' => Pv σ' H' ∧ μ σ' H' < μ σ H, bk := D.nx } σ H1 else Po σ H1)
    (hd : ∀ σ H, Po σ H → D.nx σ H) (mono : ∀ σ H Q Q', (∀ b H1, Q b H1 → Q' b H1) → c σ H Q → c σ H Q') : tWhile c tb D σ H :=
  while_by Pv μ h0 (fun σ1 H1 p => mono σ1 H1 _ _ (fun b H2 q => by
    cases b with
    | true => exact q
    | false => exact hd _ _ q) (hs σ1 H1 p)) mono
theorem Tray.up {H : Hp} {t g : Addr} {m n : Nat} (T : Tray H t g m) (h : m ≤ n) : Tray H t g n := by
  obtain ⟨⟨gs, f, c, h1, h2, hl, hge, hf0, hf1, hc0, hc1⟩, hne⟩ := T
  exact ⟨⟨gs, f, c, h1, h2, hl, hge, hf0, hf1, hc0, by omega⟩, hne⟩
def spDeck (K : PySem.W.Frag) : Sp := fun vs H Q _ => ∃ (a : Addr) (ns : List Int), vs = [.ref a] ∧ SqL K H a (ns.map V.int) ∧ ns.length ≤ 63 ∧ ∀ (H' : Hp) (t g : Addr), Tray H' t g 0 → Same H H' → H t = none → H g = none → Q (.ref t) H'
def spTake : Sp := fun vs H Q _ => ∃ (t g : Addr) (n : Nat) (m : Int), vs = [.ref t, .int m] ∧ Tray H t g n ∧ 0 < m ∧ m.natAbs < 2 ^ 1000 ∧ n < 2 ^ 60 ∧
  ∀ (H' : Hp) (r : Int), 0 ≤ r → r < m → Tray H' t g (n + 1) → Keep t g H H' → Q (.int r) H'
theorem neg1 {gs : List Int} {y : Int} : atI ((gs ++ [y]).map V.int) (-1) = some (.int y) := by
  rw [atI_last (by simp), List.length_map, List.length_append, List.length_singleton, Nat.add_sub_cancel, List.getElem?_map, List.getElem?_append_right (Nat.le_refl _), Nat.sub_self]; rfl
theorem snoc_of {α : Type} : ∀ {l : List α}, l ≠ [] → ∃ a b, l = a ++ [b] := fun {l} h => ⟨l.dropLast, l.getLast h, (List.dropLast_concat_getLast h).symm⟩
section
variable {P : Program} {w : World} {K : PySem.W.Frag} {mg : Str → Option Value} {base : Heap} {Z : Ad}
theorem ok_law_deck (T : Tx K w mg Z) : FnOk P w K mg base CX0 1 Z.a_law_deck Z.d_law_deck P_law_deck (spDeck K) := by
  refine T.F_law_deck.ok sclaw_deck (fun vs H Q E h => ?_) (fun cdv A outer s H vs Q E hr h => ?_)
  · obtain ⟨a, ns, rfl, _⟩ := h
    rfl
  · obtain ⟨a, ns, rfl, hS, hlen, k⟩ := h
    refine ⟨_, (pss_cons (ps_set (i := 1) sclaw_deck.nd rfl (Or.inl rfl) (pe_lst pa_nil))
      (pss_cons (ps_set (i := 2) sclaw_deck.nd rfl (Or.inl rfl) pe_int)
      (pss_cons (ps_for PassesOwn.never rfl (pi_list (pv 0)) (pg_name (i := 3) sclaw_deck.nd rfl (Or.inl rfl)) (pss_cons (ps_set (i := 2) sclaw_deck.nd rfl (Or.inl rfl) (pe_op op_mod (pe_op op_add (pe_op op_mulW (pv 2) pe_int) (pv 3)) pe_int))
      (pss_one (ps_if (pt_cmpR op_ge (pe_callB call_abs (by rfl) T.b_abs (by decide +kernel) (pa_cons (pv 3) pa_nil)) (pe_op op_pow pe_int pe_int) (nomark _)) (pss_one (ps_expr (pe_bm PySem.F.plainAttrs_list PySem.F.slot_list_insert PySem.F.type_list_insert mt_insert (pv 1) (pa_cons pe_int (pa_cons (pe_op op_sub (pe_callB call_abs (by rfl) T.b_abs (by decide +kernel) (pa_cons (pv 3) pa_nil)) (pe_op op_pow pe_int pe_int)) pa_nil))))) pss_nil))))
      (pss_one (ps_ret (pe_lst (pa_cons (pv 1) (pa_cons (pv 2) (pa_cons pe_int pa_nil))))))))), ?_⟩
    refine ⟨(by show 0 ≤ sizeLine; decide), fun G hG => ?_⟩
    refine ⟨_, rfl, a, rfl, ⟨_, Same.sqL (same_upd hG) hS⟩, ?_⟩
    refine for_list (K := K) (a := a) (xs := ns.map V.int) (fun i σ' H' => ∃ (gs : List Int) (f : Int) (u : Option V), σ' = [some (.ref a), some (.ref G), some (.int f), u] ∧ Same H H' ∧ H' G = some (.lst (gs.map V.int)) ∧ gs.length ≤ i ∧ (∀ x ∈ gs, 0 ≤ x) ∧ 0 ≤ f ∧ f < 2 ^ 61)
      ⟨[], 11, none, rfl, same_upd hG, upd_same, Nat.le_refl _, (fun _ z => absurd z (by simp)), by decide, by decide⟩ (fun i σ' H' _ ⟨_, _, _, _, S, _⟩ => Same.sqL S hS) ?_ ?_
    · rintro i y σ' H' hi ⟨gs, f, u, rfl, S, hg, hgl, hge, hf0, hf1⟩
      obtain ⟨z, hz, rfl⟩ := map_at hi
      have hi63 : i < 63 := by
        have := (List.getElem?_eq_some_iff.mp hz).1
        omega
      have bf : f.natAbs < 2 ^ 61 := by omega
      refine ⟨_, rfl, _, _, rfl, rfl, wide_mul (b := 30) bf (by decide) (by decide) (by decide) (by decide), _, rfl, _, _, rfl, rfl, _, _, rfl, rfl, (by show (0 : Int) < _; decide), ?_⟩
      have hx0 := Int.emod_nonneg (f * 1000003 + z) (show (2305843009213693951 : Int) ≠ 0 by decide)
      have hx1 := Int.emod_lt_of_pos (f * 1000003 + z) (show (0 : Int) < 2305843009213693951 by decide)
      refine ⟨_, rfl, _, rfl, _, _, rfl, rfl, ⟨by decide, by decide, by decide⟩, _, _, rfl, rfl, _, rfl, ?_⟩
      refine ite2 (fun c => ?_) (fun _ => ?_)
      · have c' := of_decide_eq_true c
        refine ⟨_, rfl, .inl ⟨rfl, _, SqL.of hg⟩, _, rfl, _, rfl, _, _, rfl, rfl, ⟨by decide, by decide, by decide⟩, _, _, rfl, rfl, G, _, 0, _, rfl, rfl, hg, ?_, by decide, by decide, ?_⟩
        · exact small1000 (by simp; omega)
        · refine ⟨((if z < 0 then -z else z) - 10 ^ (18 : Int).toNat) :: gs, _, _, rfl, same_set S hG, ?_, ?_, ?_, hx0, by omega⟩
          · exact upd_same
          · simp; omega
          · intro x hx
            rcases List.mem_cons.mp hx with h | h
            · subst h
              omega
            · exact hge x h
      · exact ⟨gs, _, _, rfl, S, hg, by omega, hge, hx0, by omega⟩
    · rintro σ' H' ⟨gs, f, u, rfl, S, hg, hgl, hge, hf0, hf1⟩
      refine ⟨_, rfl, _, rfl, (by show 3 ≤ sizeLine; decide), fun t ht => ?_⟩
      have hgt : G ≠ t := ne_of_none hg ht
      refine k _ t G ⟨⟨gs, f, 0, upd_same, (upd_ne hgt).trans hg, ?_, hge, hf0, hf1, Int.le_refl _, Int.le_refl _⟩, Ne.symm hgt⟩ (same_set S (S.free ht)) (S.free ht) hG
      rw [List.length_map] at hgl
      omega
theorem ok_law_take (T : Tx K w mg Z) : FnOk P w K mg base CX0 1 Z.a_law_take Z.d_law_take P_law_take (spTake) := by
  refine T.F_law_take.ok sclaw_take (fun vs H Q E h => ?_) (fun cdv A outer s H vs Q E hr h => ?_)
  · obtain ⟨t, g, n, m, rfl, _⟩ := h
    rfl
  · obtain ⟨t, g, n, m, rfl, ⟨ht, hne⟩, hm, hmb, hn, k⟩ := h
    refine ⟨_, (C8.pss_cut (ps_while PassesOwn.never (PW.pt (pw_and (pt_cmpR (neDK (K := K) hr.units) (pe_ix (ixL (K := K)) (pv 0) pe_int (fun _ _ => rfl)) (pe_lst pa_nil) (nomark _)) (pw_and1 (pt_cmpR op_lt (pe_ix (ixL (K := K)) (pe_ix (ixL (K := K)) (pv 0) pe_int (fun _ _ => rfl)) (pe_un un_neg pe_int) (fun _ _ => rfl)) pe_int (nomark _))))) (pss_one (ps_expr (pe_bm0 PySem.F.plainAttrs_list PySem.F.slot_list_pop PySem.F.type_list_pop mt_pop (pe_ix (ixL (K := K)) (pv 0) pe_int (fun _ _ => rfl))))))
      (C8.pss_cut (ps_if (pt_cmpR (neDK (K := K) hr.units) (pe_ix (ixL (K := K)) (pv 0) pe_int (fun _ _ => rfl)) (pe_lst pa_nil) (nomark _)) (pss_cons (ps_set (i := 2) sclaw_take.nd rfl (Or.inl rfl) (pe_op op_mod (pe_ix (ixL (K := K)) (pe_ix (ixL (K := K)) (pv 0) pe_int (fun _ _ => rfl)) (pe_un un_neg pe_int) (fun _ _ => rfl)) (pv 1)))
      (pss_cons (ps_asg (pe_op op_fdivW (pe_ix (ixL (K := K)) (pe_ix (ixL (K := K)) (pv 0) pe_int (fun _ _ => rfl)) (pe_un un_neg pe_int) (fun _ _ => rfl)) (pv 1)) (pg_sub (pe_ix (ixL (K := K)) (pv 0) pe_int (fun _ _ => rfl)) (pe_un un_neg pe_int) set_list))
      (pss_one (ps_ret (pv 2))))) pss_nil)
      (pss_cons (ps_asg (pe_op op_add (pe_ix (ixL (K := K)) (pv 0) pe_int (fun _ _ => rfl)) pe_int) (pg_sub (pv 0) pe_int set_list))
      (pss_cons (ps_set (i := 3) sclaw_take.nd rfl (Or.inl rfl) (pe_ix (ixL (K := K)) (pv 0) pe_int (fun _ _ => rfl)))
      (pss_cons (ps_set (i := 4) sclaw_take.nd rfl (Or.inl rfl) (pe_op op_add (pe_op op_mulW (pe_op op_add (pe_ix (ixL (K := K)) (pv 0) pe_int (fun _ _ => rfl)) pe_int) (pe_op op_pow (pe_op op_add (pv 3) pe_int) pe_int)) (pe_op op_mulW pe_int (pv 3))))
      (pss_one (ps_ret (pe_op op_mod (pe_op op_fdivW (pe_op op_mod (pe_op op_pow (pe_op op_mod (pv 4) pe_int) pe_int) pe_int) pe_int) (pv 1))))))))), ?_⟩
    -- while deck[0] != [] and deck[0][-1] < 2
    refine ⟨fun σ' H' => σ' = [some (.ref t), some (.int m), none, none, none] ∧ Tray H' t g n ∧ Keep t g H H', ?_, ?_⟩
    · refine while_post (fun σ' H' => σ' = [some (.ref t), some (.int m), none, none, none] ∧ Tray H' t g n ∧ Keep t g H H') (fun _ H' => lenAt H' g) (fun σ' H' => σ' = [some (.ref t), some (.int m), none, none, none] ∧ Tray H' t g n ∧ Keep t g H H') ⟨rfl, ⟨ht, hne⟩, Keep.refl _ _ _⟩ ?_ (fun _ _ q => q) ?_
      · rintro σ1 H1 ⟨rfl, ⟨⟨gs, f, c, h1, h2, hl, hge, hf0, hf1, hc0, hc1⟩, _⟩, kp⟩
        refine ⟨_, rfl, _, _, _, _, rfl, rfl, SqL.of h1, rfl, (by show 0 ≤ sizeLine; decide), fun p hp => ?_⟩
        have g2 : (upd H1 p (.lst [])) g = some (.lst (gs.map V.int)) := (upd_ne (ne_of_none h2 hp)).trans h2
        have g1 : (upd H1 p (.lst [])) t = some (.lst [.ref g, .int f, .int c]) := (upd_ne (ne_of_none h1 hp)).trans h1
        have kp1 : Keep t g H (upd H1 p (.lst [])) := fun b o e n1 n2 => (upd_ne (ne_of_none (kp b o e n1 n2) hp)).trans (kp b o e n1 n2)
        refine ⟨_, _, .lst (SqL.of g2) (dpAll_ints gs), .lst (SqL.of upd_same) .nil, shaped_ints gs, rfl, _, rfl, ?_⟩
        by_cases hnil : gs = []
        · subst hnil
          exact iteF ⟨rfl, ⟨⟨[], f, c, g1, g2, hl, hge, hf0, hf1, hc0, hc1⟩, hne⟩, kp1⟩
        · obtain ⟨ys, y, rfl⟩ := snoc_of hnil
          have e : (!PyData.eqv (.list ((ys ++ [y]).map PyData.int)) (.list [])) = true := by
            cases ys <;> rfl
          refine ite2 (fun _ => ?_) (fun c => absurd e c)
          refine ⟨_, rfl, _, _, _, _, rfl, rfl, SqL.of g1, rfl, _, rfl, _, _, _, _, rfl, rfl, SqL.of g2, neg1, _, _, rfl, rfl, _, rfl, ?_⟩
          refine ite2 (fun _ => ?_) (fun c => ?_)
          · refine ⟨_, rfl, _, _, _, _, rfl, rfl, SqL.of g1, rfl, .inl ⟨rfl, _, SqL.of g2⟩, g, _, V.int y, rfl, rfl, g2, by simp, ?_⟩
            have ed : ((ys ++ [y]).map V.int).dropLast = ys.map V.int := by simp
            rw [ed]
            refine ⟨⟨rfl, ⟨⟨ys, f, c, (upd_ne hne).trans g1, upd_same, ?_, fun x hx => hge x (List.mem_append_left _ hx), hf0, hf1, hc0, hc1⟩, hne⟩, fun b o e' n1 n2 => (upd_ne n2).trans (kp1 b o e' n1 n2)⟩, ?_⟩
            · simp at hl; omega
            · rw [lenAt_of upd_same, lenAt_of h2]; simp
          · exact ⟨rfl, ⟨⟨ys ++ [y], f, _, g1, g2, hl, hge, hf0, hf1, hc0, hc1⟩, hne⟩, kp1⟩
      · intro σ1 H1 Q1 Q2 hQ hc
        obtain ⟨v, hv, p, xs, i, x, e1, e2, hs, ha, hz, hp⟩ := hc
        refine ⟨v, hv, p, xs, i, x, e1, e2, hs, ha, hz, fun p' np => ?_⟩
        obtain ⟨d, e, d1, d2, s1, s2, b, eb, q⟩ := hp p' np
        refine ⟨d, e, d1, d2, s1, s2, b, eb, ?_⟩
        cases b with
        | false => exact hQ _ _ q
        | true =>
          obtain ⟨a1, a2, a3, a4, a5, a6, a7, a8, a9, a10, a11, a12, a13, a14, a15, a16, a17, a18, a19, a20, a21, a22, a23, a24, a25, a26, q⟩ := q
          exact ⟨a1, a2, a3, a4, a5, a6, a7, a8, a9, a10, a11, a12, a13, a14, a15, a16, a17, a18, a19, a20, a21, a22, a23, a24, a25, a26, hQ _ _ q⟩
    · rintro σ1 H1 ⟨rfl, ⟨⟨gs, f, c, h1, h2, hl, hge, hf0, hf1, hc0, hc1⟩, _⟩, kp⟩
      refine ⟨fun σ' H' => σ' = [some (.ref t), some (.int m), none, none, none] ∧ Tray H' t g n ∧ Keep t g H H', ?_, ?_⟩
      · refine ⟨_, rfl, _, _, _, _, rfl, rfl, SqL.of h1, rfl, (by show 0 ≤ sizeLine; decide), fun p hp => ?_⟩
        have g2 : (upd H1 p (.lst [])) g = some (.lst (gs.map V.int)) := (upd_ne (ne_of_none h2 hp)).trans h2
        have g1 : (upd H1 p (.lst [])) t = some (.lst [.ref g, .int f, .int c]) := (upd_ne (ne_of_none h1 hp)).trans h1
        have kp1 : Keep t g H (upd H1 p (.lst [])) := fun b o e n1 n2 => (upd_ne (ne_of_none (kp b o e n1 n2) hp)).trans (kp b o e n1 n2)
        refine ⟨_, _, .lst (SqL.of g2) (dpAll_ints gs), .lst (SqL.of upd_same) .nil, shaped_ints gs, rfl, _, rfl, ?_⟩
        by_cases hnil : gs = []
        · subst hnil
          exact iteF ⟨rfl, ⟨⟨[], f, c, g1, g2, hl, hge, hf0, hf1, hc0, hc1⟩, hne⟩, kp1⟩
        · obtain ⟨ys, y, rfl⟩ := snoc_of hnil
          have e : (!PyData.eqv (.list ((ys ++ [y]).map PyData.int)) (.list [])) = true := by
            cases ys <;> rfl
          refine ite2 (fun _ => ?_) (fun c => absurd e c)
          generalize upd H1 p (.lst []) = H2 at g1 g2 kp1 ⊢
          refine ⟨_, rfl, _, _, _, _, rfl, rfl, SqL.of g1, rfl, _, rfl, _, _, _, _, rfl, rfl, SqL.of g2, neg1, _, rfl, _, _, rfl, rfl, hm, ?_⟩
          refine ⟨_, rfl, _, _, _, _, rfl, rfl, SqL.of g1, rfl, _, rfl, _, _, _, _, rfl, rfl, SqL.of g2, neg1, _, rfl, _, _, rfl, rfl, wide_div hm hmb (by decide) (by decide), _, rfl, _, _, _, _, rfl, rfl, SqL.of g1, rfl, _, rfl, _, _, _, ys.length, rfl, rfl, g2, ?_, _, rfl, ?_⟩
          · unfold ixN
            have hlen : ((ys ++ [y]).map V.int).length = ys.length + 1 := by simp
            rw [hlen, if_neg (by decide), if_pos (by omega)]
            congr 1
            omega
          have es : ((ys ++ [y]).map V.int).set ys.length (V.int (y / m)) = (ys ++ [y / m]).map V.int := by
            rw [List.map_append, List.set_append_right (h := by simp)]; simp
          rw [es]
          refine k _ _ (Int.emod_nonneg _ (by omega)) (Int.emod_lt_of_pos _ hm) ⟨⟨ys ++ [y / m], f, c, (upd_ne hne).trans g1, upd_same, ?_, ?_, hf0, hf1, hc0, by push_cast; omega⟩, hne⟩ fun b o e n1 n2 => (upd_ne n2).trans (kp1 b o e n1 n2)
          · simp at hl ⊢; omega
          · intro x hx
            rcases List.mem_append.mp hx with h | h
            · exact hge x (List.mem_append_left _ h)
            · rw [List.mem_singleton] at h
              subst h
              exact Int.ediv_nonneg (hge y (by simp)) (by omega)
      · rintro σ2 H2 ⟨rfl, ⟨⟨gs, f, c, h1, h2, hl, hge, hf0, hf1, hc0, hc1⟩, _⟩, kp⟩
        refine ⟨_, rfl, _, _, _, _, rfl, rfl, SqL.of h1, rfl, _, _, rfl, rfl, _, rfl, _, _, _, 2, rfl, rfl, h1, rfl, ?_⟩
        have g1 : (upd H2 t (.lst (List.set [.ref g, .int f, .int c] 2 (.int (c + 1))))) t = some (.lst [.ref g, .int f, .int (c + 1)]) := upd_same
        have bf : (f + 40503).natAbs < 2 ^ 63 := by omega
        have bc : (c + 1 + 5).natAbs < 2 ^ 61 := by omega
        have b3 : ((c + 1 + 5) ^ (3 : Int).toNat).natAbs < 2 ^ (61 * 3) := pow_lt bc (by decide)
        refine ⟨_, rfl, _, _, _, _, rfl, rfl, SqL.of g1, rfl, ?_⟩
        refine ⟨_, rfl, _, _, _, _, rfl, rfl, SqL.of g1, rfl, _, _, rfl, rfl, _, rfl, _, _, rfl, rfl, _, _, rfl, rfl, ⟨by decide, by decide, Nat.lt_trans bc (by decide)⟩, _, _, rfl, rfl, wide_mul bf b3 (by decide) (by decide) (by decide), ?_⟩
        refine ⟨_, rfl, _, _, rfl, rfl, wide_mul (a := 30) (b := 61) (by decide) (by omega) (by decide) (by decide) (by decide), _, _, rfl, rfl, ?_⟩
        have hx0 := Int.emod_nonneg ((f + 40503) * (c + 1 + 5) ^ (3 : Int).toNat + 69621 * (c + 1)) (show (2305843009213693951 : Int) ≠ 0 by decide)
        have hx1 := Int.emod_lt_of_pos ((f + 40503) * (c + 1 + 5) ^ (3 : Int).toNat + 69621 * (c + 1)) (show (0 : Int) < 2305843009213693951 by decide)
        refine ⟨_, rfl, _, _, rfl, rfl, (by show (0 : Int) < _; decide), _, _, rfl, rfl, ⟨by decide, by decide, ?_⟩, _, _, rfl, rfl, (by show (0 : Int) < _; decide), _, _, rfl, rfl, wide_div (b := 10) (by decide) (by decide) (by decide) (by decide), _, rfl, _, _, rfl, rfl, hm, ?_⟩
        · show (((f + 40503) * (c + 1 + 5) ^ (3 : Int).toNat + 69621 * (c + 1)) % 2305843009213693951).natAbs < 2 ^ 64
          omega
        · refine k _ _ (Int.emod_nonneg _ (by omega)) (Int.emod_lt_of_pos _ hm) ⟨⟨gs, f, c + 1, g1, (upd_ne (Ne.symm hne)).trans h2, hl, hge, hf0, hf1, by omega, by push_cast; omega⟩, hne⟩ fun b o e n1 n2 => (upd_ne n1).trans (kp b o e n1 n2)
end
end KA
namespace KA
open PySem PySem.Spec PyProof.Rows L2 DP
abbrev Pr := Int × Int
def encP (p : Pr) : PyData := .tuple [.int p.1, .int p.2]
theorem noL_encP (p : Pr) : noL (encP p) = true := rfl
/-- a list of data at p, tracked -/
def LAt (K : PySem.W.Frag) (H : Hp) (p : Addr) (ds : List PyData) : Prop := ∃ vs, H p = some (.lst vs) ∧ DpAll K H vs ds
theorem LAt.dp {K : PySem.W.Frag} {H : Hp} {p : Addr} {ds : List PyData} (h : LAt K H p ds) : Dp K H (.ref p) (.list ds) := by
  obtain ⟨vs, h1, h2⟩ := h
  exact .lst (SqL.of h1) h2
theorem LAt.same {K : PySem.W.Frag} {H H' : Hp} {p : Addr} {ds : List PyData} (h : LAt K H p ds) (S : Same H H') : LAt K H' p ds := by
  obtain ⟨vs, h1, h2⟩ := h
  exact ⟨vs, S _ _ h1, dpAll_mono S _ _ h2⟩
theorem Keep.tups {H H' : Hp} {t g : Addr} {n : Nat} (T : Tray H t g n) (k : Keep t g H H') : Tups H H' := fun b xs hb => by
  obtain ⟨⟨gs, f, c, h1, h2, r⟩, hne⟩ := T
  rcases hb with e | ⟨q, e⟩
  · refine .inl (k b _ e ?_ ?_) <;> rintro rfl
    · rw [h1] at e; cases e
    · rw [h2] at e; cases e
  · refine .inr ⟨q, k b _ e ?_ ?_⟩ <;> rintro rfl
    · rw [h1] at e; cases e
    · rw [h2] at e; cases e
theorem LAt.keep {K : PySem.W.Frag} {H H' : Hp} {t g p : Addr} {n : Nat} {ds : List PyData} (h : LAt K H p ds) (T : Tray H t g n) (k : Keep t g H H') (h1 : p ≠ t) (h2 : p ≠ g) (hn : noL.noLs ds = true) : LAt K H' p ds := by
  obtain ⟨vs, a, b⟩ := h
  exact ⟨vs, k _ _ a h1 h2, dpAll_tups (Keep.tups T k) _ _ hn b⟩
theorem Tray.at_ne {H : Hp} {t g p : Addr} {n : Nat} (T : Tray H t g n) (hp : H p = none) : p ≠ t ∧ p ≠ g := by
  obtain ⟨⟨gs, f, c, h1, h2, r⟩, hne⟩ := T
  exact ⟨Ne.symm (ne_of_none h1 hp), Ne.symm (ne_of_none h2 hp)⟩
theorem dp_pair {K : PySem.W.Frag} {H : Hp} {v : V} {p : Pr} (h : Dp K H v (encP p)) : ∃ a, v = .ref a ∧ SqT K H a [.int p.1, .int p.2] := by
  have h' : Dp K H v (.tuple [.int p.1, .int p.2]) := h
  cases h' with
  | tup s a =>
    cases a with
    | cons a1 a =>
      cases a with
      | cons a2 a =>
        cases a; cases a1; cases a2
        exact ⟨_, rfl, s⟩
theorem dp_two {K : PySem.W.Frag} {H : Hp} {q : Addr} {a b : Int} (h : H q = some (.tup [.int a, .int b])) : Dp K H (.ref q) (encP (a, b)) := .tup (SqT.of h) (.cons (.int _) (.cons (.int _) .nil))
theorem small_nat {L : Int} {a : Int} {n : Nat} (h0 : 0 ≤ a) (h1 : a ≤ L) (hL : L.natAbs < 2 ^ n) : a.natAbs < 2 ^ n := Nat.lt_of_le_of_lt (by omega : a.natAbs ≤ L.natAbs) hL
theorem bigL {L : Int} (h0 : 0 < L) (h : L ≤ 10 ^ 30) : L.natAbs < 2 ^ 100 := by
  have e : (10 : Int) ^ 30 = 1000000000000000000000000000000 := by decide
  have e2 : (2 : Nat) ^ 100 = 1267650600228229401496703205376 := by decide
  rw [e] at h; rw [e2]; omega
/-- what the deck's calls keep of the frame: the deck, all else, so far m draws -/
structure At (H Hc : Hp) (t g : Addr) (m : Nat) : Prop where
  T : Tray Hc t g m
  k : Keep t g H Hc
theorem At.step {H H1 H2 : Hp} {t g : Addr} {m m' : Nat} (a : At H H1 t g m) (T : Tray H2 t g m') (k : Keep t g H1 H2) : At H H2 t g m' := ⟨T, a.k.trans k⟩
theorem At.up {H Hc : Hp} {t g : Addr} {m m' : Nat} (a : At H Hc t g m) (h : m ≤ m') : At H Hc t g m' := ⟨a.T.up h, a.k⟩
theorem At.new {H H1 : Hp} {t g p : Addr} {m : Nat} {o : HO} (a : At H H1 t g m) (hp : H1 p = none) : At H (upd H1 p o) t g m := ⟨a.T.same (same_upd hp), a.k.trans (Keep.of_same (same_upd hp))⟩
theorem At.sm {H H1 H2 : Hp} {t g : Addr} {m : Nat} (a : At H H1 t g m) (S : Same H1 H2) : At H H2 t g m := ⟨a.T.same S, a.k.trans (Keep.of_same S)⟩
theorem At.free {H H1 : Hp} {t g p : Addr} {m : Nat} (a : At H H1 t g m) (hp : H1 p = none) : H p = none := by
  obtain ⟨h1, h2⟩ := a.T.at_ne hp
  cases e : H p with
  | none => rfl
  | some o =>
    rw [a.k p o e h1 h2] at hp
    cases hp
/-- a list that a comprehension makes is changed: it is new -/
theorem At.acc {H H1 : Hp} {t g D : Addr} {m : Nat} {o : HO} (a : At H H1 t g m) (hD : H D = none) (h1 : D ≠ t) (h2 : D ≠ g) : At H (upd H1 D o) t g m := by
  obtain ⟨⟨⟨gs, f, c, e1, e2, r⟩, hne⟩, k⟩ := a
  exact ⟨⟨⟨gs, f, c, (upd_ne (Ne.symm h1)).trans e1, (upd_ne (Ne.symm h2)).trans e2, r⟩, hne⟩, fun b o e n1 n2 => (upd_ne (ne_of_none e hD)).trans (k b o e n1 n2)⟩
def spBelow : Sp := fun vs H Q _ => ∃ (t g : Addr) (n : Nat) (m : Int), vs = [.ref t, .int m] ∧ Tray H t g n ∧ 0 < m ∧ m.natAbs < 2 ^ 1000 ∧ n < 2 ^ 59 ∧
  ∀ (H' : Hp) (r : Int), 0 ≤ r → r < m → Tray H' t g (n + 60) → Keep t g H H' → Q (.int r) H'
def spWide : Sp := fun vs H Q _ => ∃ (t g : Addr) (n : Nat), vs = [.ref t] ∧ Tray H t g n ∧ n < 2 ^ 58 ∧
  ∀ (H' : Hp) (r : Int), 0 < r → r ≤ 10 ^ 30 → Tray H' t g (n + 70) → Keep t g H H' → Q (.int r) H'
section
variable {P : Program} {w : World} {K : PySem.W.Frag} {mg : Str → Option Value} {base : Heap} {Z : Ad}
theorem ok_law_below (T : Tx K w mg Z) : FnOk P w K mg base CX0 2 Z.a_law_below Z.d_law_below P_law_below (spBelow) := by
  refine T.F_law_below.ok sclaw_below (fun vs H Q E h => ?_) (fun cdv A outer s H vs Q E hr h => ?_)
  · obtain ⟨t, g, n, m, rfl, _⟩ := h
    rfl
  · obtain ⟨t, g, n, m, rfl, hT, hm, hmb, hn, k⟩ := h
    refine ⟨_, (pss_cons (ps_set (i := 2) sclaw_below.nd rfl (Or.inl rfl) pe_int)
      (pss_cons (ps_set (i := 3) sclaw_below.nd rfl (Or.inl rfl) (pv 1))
      (C8.pss_cut (ps_while PassesOwn.never (pt_cmpR op_gt (pv 3) pe_int (nomark _)) (pss_cons (ps_set (i := 2) sclaw_below.nd rfl (Or.inl rfl) (pe_op op_add (pe_op op_mulW (pv 2) (pe_op op_pow pe_int pe_int)) (pe_call (ok_law_take T) (hr.mono (by decide)) (by rfl) T.g_law_take T.F_law_take.kp T.bb_law_take .nil pass0 (pa_cons (pv 0) (pa_cons (pe_op op_pow pe_int pe_int) pa_nil)))))
      (pss_one (ps_set (i := 3) sclaw_below.nd rfl (Or.inl rfl) (pe_op op_fdivW (pv 3) (pe_op op_pow pe_int pe_int))))))
      (pss_one (ps_ret (pe_op op_mod (pv 2) (pv 1))))))), ?_⟩
    refine ⟨_, rfl, ?_⟩
    refine ⟨fun σ' H' => ∃ f l, σ' = [some (.ref t), some (.int m), some (.int f), some (.int l)] ∧ Tray H' t g (n + 60) ∧ Keep t g H H', ?_, ?_⟩
    · refine while_post (fun σ' H' => ∃ (i : Nat) (f l : Int), σ' = [some (.ref t), some (.int m), some (.int f), some (.int l)] ∧ 0 ≤ f ∧ 0 ≤ l ∧ (f + 1) * l ≤ m ∧ 2 ^ (19 * i) * l ≤ m ∧ i ≤ 53 ∧ Tray H' t g (n + i) ∧ Keep t g H H') (fun σ' _ => match σ'.getD 3 none with | some (.int l) => l.toNat | _ => 0) (fun σ' H' => ∃ f l, σ' = [some (.ref t), some (.int m), some (.int f), some (.int l)] ∧ Tray H' t g (n + 60) ∧ Keep t g H H')
        ⟨0, 0, m, rfl, Int.le_refl _, by omega, by omega, by simp, by omega, hT, Keep.refl _ _ _⟩ ?_ (fun _ _ q => q) ?_
      · rintro σ1 H1 ⟨i, f, l, rfl, hf0, hl0, hfl, hil, hi, T1, k1⟩
        refine ⟨_, rfl, _, _, rfl, rfl, _, rfl, ?_⟩
        refine ite2 (fun c => ?_) (fun _ => ⟨f, l, rfl, T1.up (by omega), k1⟩)
        have hl : 0 < l := of_decide_eq_true c
        have hfb : f.natAbs < 2 ^ 1000 := by
          have h1 : (f + 1) * 1 ≤ (f + 1) * l := Int.mul_le_mul_of_nonneg_left (by omega) (by omega)
          clear hil
          omega
        have hi52 : i ≤ 52 := by
          have h1 : (2 : Int) ^ (19 * i) * 1 ≤ 2 ^ (19 * i) * l := Int.mul_le_mul_of_nonneg_left (by omega) (Int.pow_nonneg (by decide))
          have h2 : ((2 ^ (19 * i) : Nat) : Int) < ((2 ^ 1000 : Nat) : Int) := by
            have e : ((2 ^ (19 * i) : Nat) : Int) = (2 : Int) ^ (19 * i) := by push_cast; rfl
            rw [e]
            generalize (2 : Int) ^ (19 * i) = A at h1 hil ⊢
            generalize (2 : Nat) ^ 1000 = B at hmb ⊢
            omega
          have h3 : 2 ^ (19 * i) < 2 ^ 1000 := Int.ofNat_lt.mp h2
          have h4 := (Nat.pow_lt_pow_iff_right (by decide : 1 < 2)).mp h3
          omega
        refine ⟨_, rfl, _, _, rfl, rfl, ⟨by decide, by decide, by decide⟩, _, _, rfl, rfl, wide_mul (b := 60) hfb (by decide) (by decide) (by decide) (by decide), _, rfl, _, _, rfl, rfl, ⟨by decide, by decide, by decide⟩, t, g, n + i, _, rfl, T1, by decide, by decide, by omega, fun H2 r r0 r1 T2 k2 => ?_⟩
        have e6 : (10 : Int) ^ (6 : Int).toNat = 1000000 := by decide
        rw [e6] at r1
        refine ⟨_, _, rfl, rfl, _, rfl, _, _, rfl, rfl, ⟨by decide, by decide, by decide⟩, _, _, rfl, rfl, wide_div (b := 60) (by decide) (by decide) (by decide) (by decide), ?_⟩
        have hd := Int.mul_ediv_add_emod l 1000000
        have hd0 := Int.emod_nonneg l (show (1000000 : Int) ≠ 0 by decide)
        have hq0 : 0 ≤ l / 1000000 := Int.ediv_nonneg hl0 (by decide)
        refine ⟨⟨i + 1, f * 1000000 + r, l / 1000000, ?_, by omega, hq0, ?_, ?_, by omega, T2, k1.trans k2⟩, ?_⟩
        · rw [e6]; rfl
        · have h1 : (f * 1000000 + r + 1) * (l / 1000000) ≤ ((f + 1) * 1000000) * (l / 1000000) := Int.mul_le_mul_of_nonneg_right (by omega) hq0
          have h2 : (f + 1) * (1000000 * (l / 1000000)) ≤ (f + 1) * l := Int.mul_le_mul_of_nonneg_left (by omega) (by omega)
          rw [Int.mul_assoc] at h1
          omega
        · have h1 : 2 ^ (19 * (i + 1)) * (l / 1000000) ≤ 2 ^ (19 * i) * l := by
            rw [show 19 * (i + 1) = 19 * i + 19 by omega, Int.pow_add, Int.mul_assoc]
            refine Int.mul_le_mul_of_nonneg_left ?_ (Int.pow_nonneg (by decide))
            have e : (2 : Int) ^ 19 = 524288 := by decide
            rw [e]; omega
          exact Int.le_trans h1 hil
        · show (l / (10 : Int) ^ (6 : Int).toNat).toNat < l.toNat
          rw [e6]; omega
      · rintro σ1 H1 Q1 Q2 hQ ⟨v, hv, i, j, e1, e2, b, eb, q⟩
        exact ⟨v, hv, i, j, e1, e2, b, eb, hQ _ _ q⟩
    · rintro σ1 H1 ⟨f, l, rfl, T1, k1⟩
      refine ⟨_, rfl, _, rfl, _, _, rfl, rfl, hm, ?_⟩
      exact k _ _ (Int.emod_nonneg _ (by omega)) (Int.emod_lt_of_pos _ hm) T1 k1
end
end KA
namespace KA
open PySem PySem.Spec PyProof.Rows L2 DP
/-- a Dark's list of looks is not the deck -/
def Off (Z : Ad) (H : Hp) (d : Addr) (L : Int) (t g : Addr) : Prop := ∀ la dx, H d = some (.ins Z.C dx (df L la)) → la ≠ t ∧ la ≠ g
theorem DarkAt.keep {Z : Ad} {K : PySem.W.Frag} {H H' : Hp} {t g d : Addr} {n : Nat} {L : Int} {ls : List Lk} (D : DarkAt Z K H d L ls) (T : Tray H t g n) (k : Keep t g H H') (hla : Off Z H d L t g) : DarkAt Z K H' d L ls ∧ Off Z H' d L t g := by
  obtain ⟨dx, la, vs, h1, h2, h3⟩ := D.ex
  obtain ⟨a1, a2⟩ := hla la dx h1
  have hd : d ≠ t ∧ d ≠ g := by
    obtain ⟨⟨gs, f, c, e1, e2, r⟩, hne⟩ := T
    refine ⟨?_, ?_⟩ <;> rintro rfl
    · rw [h1] at e1; cases e1
    · rw [h1] at e2; cases e2
  have h1' := k _ _ h1 hd.1 hd.2
  refine ⟨⟨⟨dx, la, vs, h1', k _ _ h2 a1 a2, dpAll_tups (Keep.tups T k) _ _ (noLs_map noL_encL ls) h3⟩, D.pos, D.big, D.ok, D.len⟩, fun la' dx' e => ?_⟩
  rw [h1'] at e
  rw [← df_inj e]
  exact ⟨a1, a2⟩
theorem Off.same {Z : Ad} {K : PySem.W.Frag} {H H' : Hp} {d t g : Addr} {L : Int} {ls : List Lk} (O : Off Z H d L t g) (D : DarkAt Z K H d L ls) (S : Same H H') : Off Z H' d L t g := fun la dx e => by
  obtain ⟨dx', la', _, h1, _⟩ := D.ex
  have e2 := S _ _ h1
  rw [e] at e2
  rw [df_inj e2]
  exact O la' dx' h1
end KA
namespace KA
open PySem PySem.Spec PyProof.Rows L2 DP
def spHidden (K : PySem.W.Frag) : Sp := fun vs H Q _ => ∃ (t g : Addr) (n : Nat) (L m : Int), vs = [.ref t, .int L, .int m] ∧ Tray H t g n ∧ n < 2 ^ 50 ∧ 0 < L ∧ L ≤ 10 ^ 30 ∧ 0 < m ∧ m ≤ 60 ∧
  ∀ (H' : Hp) (p : Addr) (prs : List Pr), H p = none → At H H' t g (n + 8000) → LAt K H' p (prs.map encP) → Rises L prs → (prs.length : Int) ≤ m → (∀ s ∈ prs, -(2 * L) ≤ s.2 ∧ s.2 ≤ 4 * L) → Q (.ref p) H'
section
variable {P : Program} {w : World} {K : PySem.W.Frag} {mg : Str → Option Value} {base : Heap} {Z : Ad}
theorem ok_law_hidden (T : Tx K w mg Z) : FnOk P w K mg base CX0 3 Z.a_law_hidden Z.d_law_hidden P_law_hidden (spHidden K) := by
  refine T.F_law_hidden.ok sclaw_hidden (fun vs H Q E h => ?_) (fun cdv A outer s H vs Q E hr h => ?_)
  · obtain ⟨t, g, n, L, m, rfl, _⟩ := h
    rfl
  · obtain ⟨t, g, n, L, m, rfl, hT, hn, hL, hL30, hm0, hm60, k⟩ := h
    have hLb := bigL hL hL30
    have hb : ∀ m, m ≤ n + 8000 → m < 2 ^ 59 := fun m hm => Nat.lt_of_le_of_lt hm (Nat.lt_of_lt_of_le (Nat.add_lt_add_right hn 8000) (by decide))
    have A0 : At H H t g n := ⟨hT, Keep.refl _ _ _⟩
    refine ⟨_, (pss_cons (ps_set (i := 3) sclaw_hidden.nd rfl (Or.inr rfl) (pe_callB (sortedSetK (w := w) rfl) (by rfl) T.b_sorted (by decide +kernel) (pa_cons (pe_callTy (setIK (K := K) (w := w) rfl) (by rfl) T.b_set (by decide +kernel) (pa_cons (pe_lc (own := [("k", 4)]) (g := gName 4) (tt := tYes) rfl sclaw_hidden.nd (pi_range1 (by rfl) T.b_range (pa_cons (pv 2) pa_nil)) (blkOk_by (own := [("k", 4)]) (N := N_law_hidden) (sc := defScope slaw_hidden) (by decide +kernel)) (fun _ _ _ _ _ => (pg_name (i := 4) sclaw_hidden.nd rfl (Or.inl rfl))) (fun _ _ _ _ _ => pts_nil) (fun _ _ _ _ _ => (pe_call (ok_law_below T) (hr.mono (by decide)) (by rfl) T.g_law_below T.F_law_below.kp T.bb_law_below .nil pass0 (pa_cons (pv 0) (pa_cons (pv 1) pa_nil))))) pa_nil)) pa_nil)))
      (pss_cons (ps_set (i := 5) sclaw_hidden.nd rfl (Or.inr rfl) (pe_op op_sub (pe_call (ok_law_below T) (hr.mono (by decide)) (by rfl) T.g_law_below T.F_law_below.kp T.bb_law_below .nil pass0 (pa_cons (pv 0) (pa_cons (pe_op op_mulW pe_int (pv 1)) pa_nil))) (pe_ix (ixL (K := K)) (pe_lst (pa_cons pe_int (pa_cons (pv 1) (pa_cons (pe_op op_mulW pe_int (pv 1)) pa_nil)))) (pe_call (ok_law_take T) (hr.mono (by decide)) (by rfl) T.g_law_take T.F_law_take.kp T.bb_law_take .nil pass0 (pa_cons (pv 0) (pa_cons pe_int pa_nil))) (fun _ _ => rfl))))
      (pss_cons (ps_set (i := 6) sclaw_hidden.nd rfl (Or.inr rfl) (pe_callB (sortK (K := K)) (by rfl) T.b_sorted (by decide +kernel) (pa_cons (pe_lc (own := [("spot", 7)]) (g := gName 7) (tt := tYes) rfl sclaw_hidden.nd (pi_list (pv 3)) (blkOk_by (own := [("spot", 7)]) (N := N_law_hidden) (sc := defScope slaw_hidden) (by decide +kernel)) (fun _ _ _ _ _ => (pg_name (i := 7) sclaw_hidden.nd rfl (Or.inl rfl))) (fun _ _ _ _ _ => pts_nil) (fun _ _ _ _ _ => (pe_call (ok_law_below T) (hr.mono (by decide)) (by rfl) T.g_law_below T.F_law_below.kp T.bb_law_below .nil pass0 (pa_cons (pv 0) (pa_cons (pe_op op_add (pv 1) pe_int) pa_nil))))) pa_nil)))
      (pss_one (ps_ret (pe_lc (own := [("k", 4)]) (g := gName 4) (tt := tYes) rfl sclaw_hidden.nd (pi_range1 (by rfl) T.b_range (pa_cons (pe_callB (lenK (K := K)) (by rfl) T.b_len (by decide +kernel) (pa_cons (pv 3) pa_nil)) pa_nil)) (blkOk_by (own := [("k", 4)]) (N := N_law_hidden) (sc := defScope slaw_hidden) (by decide +kernel)) (fun _ _ _ _ _ => (pg_name (i := 4) sclaw_hidden.nd rfl (Or.inl rfl))) (fun _ _ _ _ _ => pts_nil) (fun _ _ _ _ _ => (pe_tup (pa_cons (pe_ix (ixL (K := K)) (pv 3) (pv 4) (fun _ _ => rfl)) (pa_cons (pe_op op_add (pv 5) (pe_ix (ixL (K := K)) (pv 6) (pv 4) (fun _ _ => rfl))) pa_nil)))))))))), ?_⟩
    -- spots
    refine ⟨_, rfl, m, rfl, by omega, by omega, fun D hD => ?_⟩
    obtain ⟨Dt, Dg⟩ := hT.at_ne hD
    refine lc_range (lo := 0) (n := m.toNat) (fun i H' => At H H' t g (n + 60 * i) ∧ ∃ ns : List Int, H' D = some (.lst (ns.map V.int)) ∧ ns.length = i ∧ ∀ x ∈ ns, 0 ≤ x ∧ x < L) ⟨A0.new hD, [], upd_same, rfl, fun _ z => absurd z (by simp)⟩ ?_ ?_
    · rintro i H' hi ⟨A, ns, hd, hl, hx⟩
      have hi6 : i < 60 := by omega
      refine ⟨rfl, yes_ite ?_⟩
      refine ⟨_, rfl, _, rfl, t, g, n + 60 * i, L, rfl, A.T, hL, lt_up hLb (by decide), hb _ (by omega), fun H2 r r0 r1 T2 k2 => ?_⟩
      have hd2 := k2 _ _ hd Dt Dg
      refine ⟨_, hd2, small1000 (by simp; omega), ((A.step T2 k2).acc hD Dt Dg).up (by omega), ns ++ [r], ?_, by simp [hl], fun x hx' => ?_⟩
      · rw [List.map_append]; exact upd_same
      · rcases List.mem_append.mp hx' with h | h
        · exact hx x h
        · rw [List.mem_singleton] at h; subst h; exact ⟨r0, r1⟩
    rintro H2 ⟨A2, ns, hd, hnl, hx⟩
    refine ⟨D, ns, rfl, SqL.of hd, by omega, fun q c hc hq => ?_⟩
    refine ⟨q, _, c, rfl, upd_same, by omega, fun ss p hpw hmem hsl hp => ?_⟩
    have A3 := (A2.new (o := SetO w q (fun j => decide (j ∈ ns)) c) hq).new (o := HO.lst (ss.map V.int)) hp
    have hpH : H p = none := (A2.new (o := SetO w q (fun j => decide (j ∈ ns)) c) hq).free hp
    obtain ⟨pt, pg⟩ := (A2.new (o := SetO w q (fun j => decide (j ∈ ns)) c) hq).T.at_ne hp
    generalize eH3 : upd (upd H2 q (SetO w q (fun j => decide (j ∈ ns)) c)) p (.lst (ss.map V.int)) = H3 at A3 ⊢
    have hp3 : H3 p = some (.lst (ss.map V.int)) := by rw [← eH3]; exact upd_same
    have hss : ∀ x ∈ ss, 0 ≤ x ∧ x < L := fun x hx' => hx x (of_decide_eq_true ((hmem x).mp hx'))
    have hss6 : ss.length ≤ m.toNat := by rw [hsl]; omega
    have hssne : ss ≠ [] := by
      cases ns with
      | nil => simp at hnl; omega
      | cons y r =>
        intro e
        have : y ∈ ss := (hmem y).mpr (by simp)
        rw [e] at this; cases this
    have A3' : At H H3 t g (n + 3600) := A3.up (by omega)
    -- begun
    have b3 : (3 * L).natAbs < 2 ^ 102 := by rw [Int.natAbs_mul]; exact Nat.lt_of_lt_of_le (Nat.mul_lt_mul_of_le_of_lt (Nat.le_refl 3) hLb (by decide)) (by decide)
    refine ⟨_, rfl, _, rfl, _, _, rfl, rfl, wide_mul (a := 10) (by decide) hLb (by decide) (by decide) (by decide), t, g, n + 3600, 3 * L, rfl, A3'.T, by omega, lt_up b3 (by decide), hb _ (by omega), fun H4 r r0 r1 T4 k4 => ?_⟩
    have A4 := A3'.step T4 k4
    have hp4 := k4 _ _ hp3 pt pg
    refine ⟨_, rfl, _, rfl, _, _, rfl, rfl, wide_mul (a := 10) (by decide) hLb (by decide) (by decide) (by decide), (by show 3 ≤ sizeLine; decide), fun p3 hp3' => ?_⟩
    obtain ⟨p3t, p3g⟩ := A4.T.at_ne hp3'
    have A5 := A4.new (o := HO.lst [V.int 0, .int L, .int (2 * L)]) hp3'
    have hp5 := (same_upd (o := HO.lst [V.int 0, .int L, .int (2 * L)]) hp3') _ _ hp4
    refine ⟨_, rfl, t, g, n + 3660, 3, rfl, A5.T, by decide, by decide, Nat.lt_trans (hb _ (by omega)) (by decide), fun H6 j j0 j1 T6 k6 => ?_⟩
    have A6 := A5.step T6 k6
    have hp6 := k6 _ _ hp5 pt pg
    obtain ⟨z, hz, hz0, hz1⟩ : ∃ z : Int, atI [V.int 0, .int L, .int (2 * L)] j = some (.int z) ∧ 0 ≤ z ∧ z ≤ 2 * L := by
      have : j = 0 ∨ j = 1 ∨ j = 2 := by omega
      rcases this with e | e | e <;> subst e
      · exact ⟨0, rfl, by omega, by omega⟩
      · exact ⟨L, rfl, by omega, by omega⟩
      · exact ⟨2 * L, rfl, by omega, by omega⟩
    refine ⟨p3, _, _, _, rfl, rfl, SqL.of (k6 _ _ upd_same p3t p3g), hz, _, _, rfl, rfl, ?_⟩
    have hbb : (r - z).natAbs < 2 ^ 104 := by
      have e1 : (2 : Nat) ^ 104 = 2 ^ 100 * 16 := by decide
      rw [e1]; clear b3; omega
    -- ends
    refine ⟨_, rfl, p, rfl, ⟨_, SqL.of hp6⟩, fun D2 hD2 => ?_⟩
    obtain ⟨D2t, D2g⟩ := A6.T.at_ne hD2
    have hD2H := A6.free hD2
    have hD2p : p ≠ D2 := ne_of_none hp6 hD2
    refine lc_list (K := K) (a := p) (xs := ss.map V.int) (fun i H' => At H H' t g (n + 3661 + 60 * i) ∧ H' p = some (.lst (ss.map V.int)) ∧ ∃ ns : List Int, H' D2 = some (.lst (ns.map V.int)) ∧ ns.length = i ∧ ∀ x ∈ ns, 0 ≤ x ∧ x ≤ L)
      ⟨(A6.new hD2).up (by omega), (upd_ne hD2p).trans hp6, [], upd_same, rfl, fun _ z => absurd z (by simp)⟩ (fun i H' _ ⟨_, h, _⟩ => SqL.of h) ?_ ?_
    · rintro i y H' hi ⟨A, hpk, ns2, hd, hl, hx2⟩
      have hi6 : i < 60 := by
        have := (List.getElem?_eq_some_iff.mp hi).1
        rw [List.length_map] at this; omega
      refine ⟨rfl, yes_ite ?_⟩
      refine ⟨_, rfl, _, rfl, _, _, rfl, rfl, t, g, n + 3661 + 60 * i, L + 1, rfl, A.T, by omega, lt_up (add_lt hLb (show (1 : Int).natAbs < 2 ^ 100 by decide)) (by decide), hb _ (by omega), fun H4 r r0 r1 T4 k4 => ?_⟩
      have hd2 := k4 _ _ hd D2t D2g
      refine ⟨_, hd2, small1000 (by simp; omega), ((A.step T4 k4).acc hD2H D2t D2g).up (by omega), (upd_ne hD2p).trans (k4 _ _ hpk pt pg), ns2 ++ [r], ?_, by simp [hl], fun x hx' => ?_⟩
      · rw [List.map_append]; exact upd_same
      · rcases List.mem_append.mp hx' with h | h
        · exact hx2 x h
        · rw [List.mem_singleton] at h; subst h; exact ⟨r0, by omega⟩
    rintro H7 ⟨A7, hp7, ns2, hd2, hnl2, hx2⟩
    rw [List.length_map] at A7 hnl2
    refine ⟨D2, ns2, rfl, SqL.of hd2, by omega, fun rs p2 hperm hsrt hp2 => ?_⟩
    have hrl : rs.length = ss.length := by rw [hperm.length_eq, hnl2]
    have hrs : ∀ x ∈ rs, 0 ≤ x ∧ x ≤ L := fun x hx' => hx2 x (hperm.mem_iff.mp hx')
    obtain ⟨p2t, p2g⟩ := A7.T.at_ne hp2
    have hp2p : p ≠ p2 := ne_of_none hp7 hp2
    have A8 : At H (upd H7 p2 (.lst (rs.map V.int))) t g (n + 8000) := (A7.new hp2).up (by omega)
    have hp8 : (upd H7 p2 (.lst (rs.map V.int))) p = some (.lst (ss.map V.int)) := (upd_ne hp2p).trans hp7
    have hq8 : (upd H7 p2 (.lst (rs.map V.int))) p2 = some (.lst (rs.map V.int)) := upd_same
    generalize upd H7 p2 (.lst (rs.map V.int)) = H8 at A8 hp8 hq8 ⊢
    refine ⟨_, rfl, p, _, rfl, .inl (SqL.of hp8), _, rfl, ?_, ?_, fun D3 hD3 => ?_⟩
    · exact Int.le_trans (by decide) (Int.natCast_nonneg _)
    · have : ((ss.map V.int).length : Int) ≤ 60 := by rw [List.length_map]; omega
      exact Int.lt_of_le_of_lt this (by decide)
    obtain ⟨D3t, D3g⟩ := A8.T.at_ne hD3
    have hD3H := A8.free hD3
    have hD3p : p ≠ D3 := ne_of_none hp8 hD3
    have hD3q : p2 ≠ D3 := ne_of_none hq8 hD3
    have hzl : (List.zipWith (fun s u => ((s, r - z + u) : Pr)) ss rs).length = ss.length := by rw [List.length_zipWith, hrl]; omega
    refine lc_range (lo := 0) (n := ((ss.map V.int).length : Int).toNat) (fun i H' => At H H' t g (n + 8000) ∧ H' p = some (.lst (ss.map V.int)) ∧ H' p2 = some (.lst (rs.map V.int)) ∧ ∃ vs, H' D3 = some (.lst vs) ∧ vs.length = i ∧ DpAll K H' vs (((List.zipWith (fun s u => ((s, r - z + u) : Pr)) ss rs).take i).map encP))
      ⟨A8.new hD3, (upd_ne hD3p).trans hp8, (upd_ne hD3q).trans hq8, [], upd_same, rfl, .nil⟩ ?_ ?_
    · rintro i H' hi ⟨A, hpk, hqk, vs, hd, hvl, hds⟩
      have hi' : i < ss.length := by simpa using hi
      have hss' : ss[i]? = some ss[i] := List.getElem?_eq_getElem hi'
      have hrs' : rs[i]? = some (rs[i]'(by omega)) := List.getElem?_eq_getElem (by omega)
      refine ⟨rfl, yes_ite ?_⟩
      refine ⟨_, rfl, _, rfl, p, _, _, .int ss[i], rfl, rfl, SqL.of hpk, at_of (j := i) (by simp) (by rw [List.getElem?_map, hss']; rfl), _, rfl, _, rfl, _, rfl, p2, _, _, .int (rs[i]'(by omega)), rfl, rfl, SqL.of hqk, at_of (j := i) (by simp) (by rw [List.getElem?_map, hrs']; rfl), _, _, rfl, rfl, (by show 2 ≤ sizeLine; decide), fun p4 hp4 => ?_⟩
      have S4 := same_upd (o := HO.tup [V.int ss[i], .int (r - z + rs[i]'(by omega))]) hp4
      have hd4 := S4 _ _ hd
      refine ⟨vs, hd4, small1000 (by omega), (A.new hp4).acc hD3H D3t D3g, (upd_ne hD3p).trans (S4 _ _ hpk), (upd_ne hD3q).trans (S4 _ _ hqk), _, upd_same, by simp [hvl], ?_⟩
      have hz : (List.zipWith (fun s u => ((s, r - z + u) : Pr)) ss rs)[i]? = some (ss[i], r - z + rs[i]'(by omega)) := by
        simp [List.getElem?_zipWith, hss', hrs']
      rw [take_snoc hz, List.map_append]
      exact acc_step hd4 (noLs_map noL_encP _) rfl (dpAll_mono S4 _ _ hds) (.tup (SqT.of upd_same) (.cons (.int _) (.cons (.int _) .nil)))
    · rintro H' ⟨A, hpk, hqk, vs, hd, hvl, hds⟩
      have e : ((ss.map V.int).length : Int).toNat = ss.length := by simp
      rw [e, List.take_of_length_le (by rw [hzl]; exact Nat.le_refl _)] at hds
      have hof : ∀ s ∈ List.zipWith (fun s u => ((s, r - z + u) : Pr)) ss rs, ∃ (i : Nat) (h1 : i < ss.length) (h2 : i < rs.length), s = (ss[i], r - z + rs[i]) := fun s hs => by
        obtain ⟨i, hi, e⟩ := List.getElem_of_mem hs
        rw [List.getElem_zipWith] at e
        rw [hzl] at hi
        exact ⟨i, hi, by omega, e.symm⟩
      refine k H' D3 _ hD3H A ⟨vs, hd, hds⟩ ⟨fun e => ?_, ?_, fun s hs => ?_, r - z, hbb, fun s hs => ?_⟩ (by rw [hzl]; omega) fun s hs => by
        obtain ⟨i, h1, h2, e⟩ := hof s hs
        have q := hrs _ (List.getElem_mem h2)
        rw [e]
        show -(2 * L) ≤ r - z + rs[i] ∧ r - z + rs[i] ≤ 4 * L
        omega
      · have := congrArg List.length e
        rw [hzl] at this
        exact hssne (List.eq_nil_of_length_eq_zero this)
      · rw [List.pairwise_iff_getElem]
        intro i j hi hj hij
        rw [List.getElem_zipWith, List.getElem_zipWith]
        rw [hzl] at hi hj
        have h1 := (List.pairwise_iff_getElem.mp hpw) i j hi hj hij
        have h2 := (List.pairwise_iff_getElem.mp hsrt) i j (by omega) (by omega) hij
        exact ⟨h1, by show r - z + rs[i]'(by omega) ≤ r - z + rs[j]'(by omega); omega⟩
      · obtain ⟨i, h1, h2, rfl⟩ := hof s hs
        exact hss _ (List.getElem_mem h1)
      · obtain ⟨i, h1, h2, rfl⟩ := hof s hs
        have h3 := hrs _ (List.getElem_mem h2)
        exact ⟨by show r - z ≤ r - z + rs[i]; omega, by show r - z + rs[i] ≤ r - z + L; omega⟩
end
end KA
namespace KA
open PySem PySem.Spec PyProof.Rows L2 DP
theorem unlK {X : Cx} {K : PySem.W.Frag} {es : List Expr} {k : Nat} {t : TGs} {n : Nat} {pos : Pos} (hc : X.calm = true) (h1 : PGs X es t) (hn : (assignEach es X.env).length = n := by rfl) (hst : (assignEach es X.env).findIdx? (·.1) = none := by rfl) (h : X.K = K := by rfl) :
    PG X (.Tuple es k pos) (gUnl K n t) := by subst h; exact pg_unl hc h1 hn hst
theorem LAt.acc {K : PySem.W.Frag} {H : Hp} {p D : Addr} {ds : List PyData} {xs : List V} {o : HO} (h : LAt K H p ds) (hD : H D = some (.lst xs)) (hne : p ≠ D) (hn : noL.noLs ds = true) : LAt K (upd H D o) p ds := by
  obtain ⟨vs, a, b⟩ := h
  exact ⟨vs, (upd_ne hne).trans a, dpAll_tups (Tups.upd_lst hD) _ _ hn b⟩
/-- a look more, or none, behind a list of looks -/
theorem ext_step {K : PySem.W.Frag} {H H1 : Hp} {t g F p q : Addr} {n : Nat} {ls : List Lk} {prs : List Pr} {l : Lk} {xs zs pvs : List V} (c : Bool) (A : At H H1 t g n) (hF : H F = none) (Ft : F ≠ t) (Fg : F ≠ g) (hFp : p ≠ F)
    (h1 : H1 F = some (.lst xs)) (h2 : DpAll K H1 xs (ls.map encL)) (hp : LAt K H1 p (prs.map encP)) (hq : SqT K H1 q [.str l.1, .int l.2.1, .int l.2.2]) (hz : zs = if c = true then [V.ref q] else []) (hpp : H1 p = some (.lst pvs)) :
    At H (upd H1 F (.lst (xs ++ zs))) t g n ∧ (∃ vs, (upd H1 F (.lst (xs ++ zs))) F = some (.lst vs) ∧ DpAll K (upd H1 F (.lst (xs ++ zs))) vs ((ls ++ if c = true then [l] else []).map encL)) ∧ LAt K (upd H1 F (.lst (xs ++ zs))) p (prs.map encP) ∧ (upd H1 F (.lst (xs ++ zs))) p = some (.lst pvs) := by
  refine ⟨A.acc hF Ft Fg, ⟨xs ++ zs, upd_same, ?_⟩, hp.acc h1 hFp (noLs_map noL_encP prs), (upd_ne hFp).trans hpp⟩
  have h3 := dpAll_tups (Tups.upd_lst (o := .lst (xs ++ zs)) h1) _ _ (noLs_map noL_encL ls) h2
  rw [List.map_append]
  refine dpAll_app h3 ?_
  subst hz
  cases c with
  | false => exact .nil
  | true =>
    have h4 : Dp K H1 (.ref q) (encL l) := .tup hq (.cons (.str _) (.cons (.int _) (.cons (.int _) .nil)))
    exact .cons (dp_tups (Tups.upd_lst h1) _ _ (noL_encL l) h4) .nil
def spLooksOf (K : PySem.W.Frag) : Sp := fun vs H Q _ => ∃ (t g p : Addr) (n : Nat) (L : Int) (prs : List Pr), vs = [.ref t, .int L, .ref p] ∧ Tray H t g n ∧ n < 2 ^ 52 ∧ 0 < L ∧ L ≤ 10 ^ 30 ∧ LAt K H p (prs.map encP) ∧ p ≠ t ∧ p ≠ g ∧ prs.length ≤ 60 ∧
  ∀ (H' : Hp) (F : Addr) (ls : List Lk), H F = none → At H H' t g (n + 8000) → LAt K H' F (ls.map encL) → (∀ l ∈ ls, Said L prs l) → ls.length ≤ 3 * prs.length → Q (.ref F) H'
theorem len_if {l : Lk} (c : Prop) [Decidable c] : (if c then [l] else []).length ≤ 1 := by split <;> simp
theorem mem_if {a b : Lk} {c : Prop} [Decidable c] (h : a ∈ if c then [b] else []) : a = b := by
  split at h
  · exact List.mem_singleton.mp h
  · cases h
theorem w_af : ¬ (("at" : Str) = "from") := by decide +kernel
theorem w_au : ¬ (("at" : Str) = "upto") := by decide +kernel
theorem w_fa : ¬ (("from" : Str) = "at") := by decide +kernel
theorem w_fu : ¬ (("from" : Str) = "upto") := by decide +kernel
theorem w_ua : ¬ (("upto" : Str) = "at") := by decide +kernel
theorem w_uf : ¬ (("upto" : Str) = "from") := by decide +kernel
theorem rep_one {x : V} (c : Bool) : (List.replicate (if c = true then (1 : Int) else 0).toNat [x]).flatten = if c = true then [x] else [] := by cases c <;> rfl
theorem one_lo (c : Prop) [Decidable c] : -(2 ^ 63) ≤ (if c then (1 : Int) else 0) := by split <;> decide
theorem one_hi (c : Prop) [Decidable c] : (if c then (1 : Int) else 0) < 2 ^ 63 := by split <;> decide
theorem one_sz (c : Prop) [Decidable c] : 1 * (if c then (1 : Int) else 0).toNat ≤ sizeLine := by split <;> decide
theorem rep_len {x : V} (c : Prop) [Decidable c] : (List.replicate (if c then (1 : Int) else 0).toNat [x]).flatten.length ≤ 1 := by split <;> simp
section
variable {P : Program} {w : World} {K : PySem.W.Frag} {mg : Str → Option Value} {base : Heap} {Z : Ad}
theorem ok_law_looks (T : Tx K w mg Z) : FnOk P w K mg base CX0 3 Z.a_law_looks Z.d_law_looks P_law_looks (spLooksOf K) := by
  refine T.F_law_looks.ok sclaw_looks (fun vs H Q E h => ?_) (fun cdv A outer s H vs Q E hr h => ?_)
  · obtain ⟨t, g, p, n, L, prs, rfl, _⟩ := h
    rfl
  · obtain ⟨t, g, p, n, L, prs, rfl, hT, hn, hL, hL30, hp, hpt, hpg, hlen, k⟩ := h
    have hLb := bigL hL hL30
    have hb : ∀ m, m ≤ n + 8000 → m < 2 ^ 59 := fun m hm => Nat.lt_of_le_of_lt hm (Nat.lt_of_lt_of_le (Nat.add_lt_add_right hn 8000) (by decide))
    have hb' : ∀ m, m ≤ n + 8000 → m < 2 ^ 60 := fun m hm => Nat.lt_trans (hb m hm) (by decide)
    have A0 : At H H t g n := ⟨hT, Keep.refl _ _ _⟩
    have nl := noLs_map noL_encP prs
    refine ⟨_, (pss_cons (ps_set (i := 3) sclaw_looks.nd rfl (Or.inl rfl) (pe_lst pa_nil))
      (pss_cons (ps_for PassesOwn.never rfl (pi_list (pv 2)) (tupK (K := K) (by rfl) (pgs_cons (pg_name (i := 4) sclaw_looks.nd rfl (Or.inl rfl)) (pgs_cons (pg_name (i := 5) sclaw_looks.nd rfl (Or.inl rfl)) pgs_nil))) (pss_cons (ps_set (i := 6) sclaw_looks.nd rfl (Or.inl rfl) (pe_call (ok_law_take T) (hr.mono (by decide)) (by rfl) T.g_law_take T.F_law_take.kp T.bb_law_take .nil pass0 (pa_cons (pv 0) (pa_cons pe_int pa_nil))))
      (pss_cons (ps_asg (pe_lc (own := [("turn", 9)]) (g := gName 9) (tt := tYes) rfl sclaw_looks.nd (pi_range1 (by rfl) T.b_range (pa_cons pe_int pa_nil)) (blkOk_by (own := [("turn", 9)]) (N := N_law_looks) (sc := defScope slaw_looks) (by decide +kernel)) (fun _ _ _ _ _ => (pg_name (i := 9) sclaw_looks.nd rfl (Or.inl rfl))) (fun _ _ _ _ _ => pts_nil) (fun _ _ _ _ _ => (pe_ix (ixL (K := K)) (pe_lst (pa_cons pe_int (pa_cons pe_int (pa_cons (pe_call (ok_law_below T) (hr.mono (by decide)) (by rfl) T.g_law_below T.F_law_below.kp T.bb_law_below .nil pass0 (pa_cons (pv 0) (pa_cons (pv 1) pa_nil))) pa_nil)))) (pe_call (ok_law_take T) (hr.mono (by decide)) (by rfl) T.g_law_take T.F_law_take.kp T.bb_law_take .nil pass0 (pa_cons (pv 0) (pa_cons pe_int pa_nil))) (fun _ _ => rfl)))) (unlK (K := K) (by rfl) (pgs_cons (pg_name (i := 7) sclaw_looks.nd rfl (Or.inl rfl)) (pgs_cons (pg_name (i := 8) sclaw_looks.nd rfl (Or.inl rfl)) pgs_nil))))
      (pss_cons (ps_expr (pe_bm PySem.F.plainAttrs_list PySem.F.slot_list_extend PySem.F.type_list_extend mt_extend (pv 3) (pa_cons (pe_op op_rep (pe_lst (pa_cons (pe_tup (pa_cons pe_str (pa_cons (pv 4) (pa_cons (pv 5) pa_nil)))) pa_nil)) (pe_callTy call_int1 (by rfl) T.b_int (by decide +kernel) (pa_cons (pe_cmpR op_lt (pv 6) pe_int (nomark _)) pa_nil))) pa_nil)))
      (pss_cons (ps_expr (pe_bm PySem.F.plainAttrs_list PySem.F.slot_list_extend PySem.F.type_list_extend mt_extend (pv 3) (pa_cons (pe_op op_rep (pe_lst (pa_cons (pe_tup (pa_cons pe_str (pa_cons (pv 4) (pa_cons (pe_op op_sub (pv 5) (pv 7)) pa_nil)))) pa_nil)) (pe_callTy call_int1 (by rfl) T.b_int (by decide +kernel) (pa_cons (pe_cmpR (inS (K := K)) (pv 6) (pe_lst (pa_cons pe_int (pa_cons pe_int pa_nil))) (by rfl)) pa_nil))) pa_nil)))
      (pss_one (ps_expr (pe_bm PySem.F.plainAttrs_list PySem.F.slot_list_extend PySem.F.type_list_extend mt_extend (pv 3) (pa_cons (pe_op op_rep (pe_lst (pa_cons (pe_tup (pa_cons pe_str (pa_cons (pv 4) (pa_cons (pe_op op_add (pv 5) (pv 8)) pa_nil)))) pa_nil)) (pe_callTy call_int1 (by rfl) T.b_int (by decide +kernel) (pa_cons (pe_cmpR (inS (K := K)) (pv 6) (pe_lst (pa_cons pe_int (pa_cons pe_int pa_nil))) (by rfl)) pa_nil))) pa_nil)))))))))
      (pss_one (ps_ret (pv 3))))), ?_⟩
    refine ⟨(by show 0 ≤ sizeLine; decide), fun F hF => ?_⟩
    obtain ⟨Ft, Fg⟩ := hT.at_ne hF
    have A1 := A0.new (o := HO.lst []) hF
    have hp1 := hp.same (same_upd (o := HO.lst []) hF)
    have hpF : p ≠ F := by
      obtain ⟨vs, e, _⟩ := hp
      exact ne_of_none e hF
    have hpx : ∃ pvs, H p = some (.lst pvs) ∧ DpAll K H pvs (prs.map encP) := hp
    obtain ⟨pvs, hpv1, hpv2⟩ := hpx
    have hpl : pvs.length = prs.length := by rw [dpAll_len hpv2, List.length_map]
    refine ⟨_, rfl, p, rfl, ⟨pvs, SqL.of ((upd_ne hpF).trans hpv1)⟩, ?_⟩
    refine for_list (K := K) (a := p) (xs := pvs) (fun i σ' H' => ∃ (u4 u5 u6 u7 u8 u9 : Option V) (ls : List Lk), σ' = [some (.ref t), some (.int L), some (.ref p), some (.ref F), u4, u5, u6, u7, u8, u9] ∧ At H H' t g (n + 130 * i) ∧ (∃ vs, H' F = some (.lst vs) ∧ DpAll K H' vs (ls.map encL)) ∧ LAt K H' p (prs.map encP) ∧ H' p = some (.lst pvs) ∧ (∀ l ∈ ls, Said L prs l) ∧ ls.length ≤ 3 * i)
      ⟨_, _, _, _, _, _, [], rfl, A1, ⟨[], upd_same, .nil⟩, hp1, (upd_ne hpF).trans hpv1, (fun _ z => absurd z (by simp)), Nat.zero_le _⟩ (fun i σ' H' _ ⟨_, _, _, _, _, _, _, _, _, _, _, e, _⟩ => SqL.of e) ?_ ?_
    · rintro i y σ' H2 hi ⟨u4, u5, u6, u7, u8, u9, ls, rfl, A2, ⟨vs2, hf2, hd2⟩, hp2, hpp2, hsaid, hlsl⟩
      have hi' : i < prs.length := by
        have := (List.getElem?_eq_some_iff.mp hi).1
        omega
      obtain ⟨pv2, hq1, hq2⟩ := id hp2
      rw [hpp2] at hq1
      obtain rfl : pvs = pv2 := by
        injection hq1 with e
        injection e
      obtain ⟨d, hdi, hdy⟩ := dpAll_get hq2 hi
      obtain ⟨s, hs, rfl⟩ := map_at hdi
      have hsm := List.mem_of_getElem? hs
      obtain ⟨a, rfl, hsq⟩ := dp_pair hdy
      refine ⟨_, _, rfl, hsq, rfl, _, _, rfl, _, _, rfl, rfl, ?_⟩
      refine ⟨_, rfl, t, g, n + 130 * i, 6, rfl, A2.T, by decide, by decide, hb' _ (by omega), fun H3 way w0 w1 T3 k3 => ?_⟩
      have A3 := A2.step T3 k3
      have hf3 := k3 _ _ hf2 Ft Fg
      have hd3 := dpAll_tups (Keep.tups A2.T k3) _ _ (noLs_map noL_encL ls) hd2
      have hp3 := hp2.keep A2.T k3 hpt hpg nl
      have hpp3 := k3 _ _ hpp2 hpt hpg
      refine ⟨2, rfl, by decide, by decide, fun D hD => ?_⟩
      obtain ⟨Dt, Dg⟩ := A3.T.at_ne hD
      have hDH := A3.free hD
      have hDF : F ≠ D := ne_of_none hf3 hD
      have hDp : p ≠ D := ne_of_none hpp3 hD
      have hDa : ∀ b zs, (Rd H3 b (.tup zs)) → Rd (upd H3 D (.lst [])) b (.tup zs) := Tups.of_same (same_upd hD)
      refine lc_range (lo := 0) (n := 2) (fun i' H' => At H H' t g (n + 130 * i + 1 + 61 * i') ∧ H' F = some (.lst vs2) ∧ DpAll K H' vs2 (ls.map encL) ∧ LAt K H' p (prs.map encP) ∧ H' p = some (.lst pvs) ∧ ∃ ns : List Int, H' D = some (.lst (ns.map V.int)) ∧ ns.length = i' ∧ ∀ x ∈ ns, 0 ≤ x ∧ x ≤ L)
        ⟨(A3.new hD).up (by omega), (upd_ne hDF).trans hf3, dpAll_mono (same_upd hD) _ _ hd3, hp3.same (same_upd hD), (upd_ne hDp).trans hpp3, [], upd_same, rfl, fun _ z => absurd z (by simp)⟩ ?_ ?_
      · rintro i' H4 hi2 ⟨A4, hf4, hd4, hp4, hpp4, ns, hn4, hnl, hnx⟩
        refine ⟨rfl, yes_ite ?_⟩
        refine ⟨_, rfl, _, rfl, t, g, n + 130 * i + 1 + 61 * i', L, rfl, A4.T, hL, lt_up hLb (by decide), hb _ (by omega), fun H5 r r0 r1 T5 k5 => ?_⟩
        have A5 := A4.step T5 k5
        refine ⟨(by show 3 ≤ sizeLine; decide), fun q hq => ?_⟩
        obtain ⟨qt, qg⟩ := A5.T.at_ne hq
        have A6 := A5.new (o := HO.lst [V.int 0, .int 1, .int r]) hq
        have Sq := same_upd (o := HO.lst [V.int 0, .int 1, .int r]) hq
        refine ⟨_, rfl, t, g, n + 130 * i + 61 + 61 * i', 3, rfl, A6.T.up (by omega), by decide, by decide, hb' _ (by omega), fun H7 j j0 j1 T7 k7 => ?_⟩
        have A7 := A6.step T7 k7
        obtain ⟨z, hz, hz0, hz1⟩ : ∃ z : Int, atI [V.int 0, .int 1, .int r] j = some (.int z) ∧ 0 ≤ z ∧ z ≤ L := by
          have : j = 0 ∨ j = 1 ∨ j = 2 := by omega
          rcases this with e | e | e <;> subst e
          · exact ⟨0, rfl, by omega, by omega⟩
          · exact ⟨1, rfl, by omega, by omega⟩
          · exact ⟨r, rfl, r0, by omega⟩
        refine ⟨q, _, _, _, rfl, rfl, SqL.of (k7 _ _ upd_same qt qg), hz, ?_⟩
        have up7 : ∀ b o, H4 b = some o → b ≠ t → b ≠ g → H7 b = some o := fun b o e n1 n2 => k7 _ _ (Sq _ _ (k5 _ _ e n1 n2)) n1 n2
        have t7 : Tups H4 H7 := (Keep.tups A4.T k5).trans ((Tups.of_same Sq).trans (Keep.tups A6.T k7))
        have hn7 := up7 _ _ hn4 Dt Dg
        have hp7 := ((hp4.keep A4.T k5 hpt hpg nl).same Sq).keep A6.T k7 hpt hpg nl
        refine ⟨_, hn7, small1000 (by simp; omega), (A7.acc hDH Dt Dg).up (by omega), (upd_ne hDF).trans (up7 _ _ hf4 Ft Fg), dpAll_tups (Tups.upd_lst hn7) _ _ (noLs_map noL_encL ls) (dpAll_tups t7 _ _ (noLs_map noL_encL ls) hd4), hp7.acc hn7 hDp nl, (upd_ne hDp).trans (up7 _ _ hpp4 hpt hpg), ns ++ [z], ?_, by simp [hnl], fun x hx' => ?_⟩
        · rw [List.map_append]; exact upd_same
        · rcases List.mem_append.mp hx' with h | h
          · exact hnx x h
          · rw [List.mem_singleton] at h; subst h; exact ⟨hz0, hz1⟩
      rintro H4 ⟨A4, hf4, hd4, hp4, hpp4, ns, hn4, hnl, hnx⟩
      obtain ⟨sh, mo, rfl⟩ : ∃ a b, ns = [a, b] := by
        cases ns with
        | nil => simp at hnl
        | cons a r =>
          cases r with
          | nil => simp at hnl
          | cons b r =>
            cases r with
            | nil => exact ⟨a, b, rfl⟩
            | cons _ _ => simp at hnl
      have hsh := hnx sh (by simp)
      have hmo := hnx mo (by simp)
      refine ⟨D, _, rfl, SqL.of hn4, rfl, _, _, rfl, _, _, rfl, rfl, ?_⟩
      have A4' : At H H4 t g (n + 130 * (i + 1)) := A4.up (by omega)
      have hlen4 : ls.length ≤ 3 * i := hlsl
      -- at
      refine ⟨_, rfl, .inl ⟨rfl, _, SqL.of hf4⟩, _, rfl, _, rfl, (by show 3 ≤ sizeLine; decide), fun q hq => ?_⟩
      have S5 := same_upd (o := HO.tup [V.str "at", .int s.1, .int (s.2)]) hq
      have gq : (upd H4 q (HO.tup [V.str "at", .int s.1, .int (s.2)])) q = some (HO.tup [V.str "at", .int s.1, .int (s.2)]) := upd_same
      generalize upd H4 q (HO.tup [V.str "at", .int s.1, .int (s.2)]) = Hq at S5 gq ⊢
      refine ⟨(by show 1 ≤ sizeLine; decide), fun l hl => ?_⟩
      have S6 := S5.trans (same_upd (o := HO.lst [V.ref q]) hl)
      have gq2 := (same_upd (o := HO.lst [V.ref q]) hl) _ _ gq
      have gl : (upd Hq l (HO.lst [V.ref q])) l = some (HO.lst [V.ref q]) := upd_same
      generalize upd Hq l (HO.lst [V.ref q]) = Hl at S6 gq2 gl ⊢
      refine ⟨_, rfl, _, _, rfl, rfl, .inr ⟨_, rfl, ?_⟩⟩
      refine ⟨l, _, [.ref q], rfl, rfl, gl, one_lo _, one_hi _, one_sz _, fun r hr => ?_⟩
      have S8 := S6.trans (same_upd (o := HO.lst (List.replicate (if decide (way < 3) = true then (1 : Int) else 0).toNat [V.ref q]).flatten) hr)
      have gq4 := (same_upd (o := HO.lst (List.replicate (if decide (way < 3) = true then (1 : Int) else 0).toNat [V.ref q]).flatten) hr) _ _ gq2
      have gr : (upd Hl r (HO.lst (List.replicate (if decide (way < 3) = true then (1 : Int) else 0).toNat [V.ref q]).flatten)) r = some (HO.lst (List.replicate (if decide (way < 3) = true then (1 : Int) else 0).toNat [V.ref q]).flatten) := upd_same
      generalize upd Hl r (HO.lst (List.replicate (if decide (way < 3) = true then (1 : Int) else 0).toNat [V.ref q]).flatten) = Hr at S8 gq4 gr ⊢
      have A5 := A4'.sm S8
      have hf5 := S8 _ _ hf4
      have hd5 := dpAll_mono S8 _ _ hd4
      have hp5 := hp4.same S8
      have hpp5 := S8 _ _ hpp4
      refine ⟨F, r, _, _, rfl, rfl, hf5, gr, ?_, ?_⟩
      · have e1 := dpAll_len hd5
        have e2 : ((List.replicate (if decide (way < 3) = true then (1 : Int) else 0).toNat [V.ref q]).flatten).length ≤ 1 := rep_len _
        rw [List.length_map] at e1
        have e3 := hlen4
        exact Nat.le_of_lt (small1000 (by omega))
      have E6 := ext_step (l := ("at", s.1, s.2)) (decide (way < 3)) A5 hF Ft Fg hpF hf5 hd5 hp5 (SqT.of gq4) (rep_one _) hpp5
      have A6 := E6.1
      have hfd := E6.2.1
      have hp6 := E6.2.2.1
      have hpp6 := E6.2.2.2
      generalize upd Hr F (HO.lst (vs2 ++ (List.replicate (if decide (way < 3) = true then (1 : Int) else 0).toNat [V.ref q]).flatten)) = H6 at E6 A6 hfd hp6 hpp6 ⊢
      obtain ⟨vs6, hf6, hd6⟩ := hfd
      have hlen6 : (ls ++ (if decide (way < 3) = true then [(("at", s.1, s.2) : Lk)] else [])).length ≤ 3 * i + 1 := by
        rw [List.length_append]
        have e3 := hlen4
        have e4 := len_if (l := ("at", s.1, s.2)) (decide (way < 3) = true)
        omega
      -- from
      refine ⟨_, rfl, .inl ⟨rfl, _, SqL.of hf6⟩, _, rfl, _, rfl, _, rfl, _, _, rfl, rfl, (by show 3 ≤ sizeLine; decide), fun q hq => ?_⟩
      dsimp only
      have S5 := same_upd (o := HO.tup [V.str "from", .int s.1, .int (s.2 - sh)]) hq
      have gq : (upd H6 q (HO.tup [V.str "from", .int s.1, .int (s.2 - sh)])) q = some (HO.tup [V.str "from", .int s.1, .int (s.2 - sh)]) := upd_same
      generalize upd H6 q (HO.tup [V.str "from", .int s.1, .int (s.2 - sh)]) = Hq at S5 gq ⊢
      refine ⟨(by show 1 ≤ sizeLine; decide), fun l hl => ?_⟩
      have S6 := S5.trans (same_upd (o := HO.lst [V.ref q]) hl)
      have gq2 := (same_upd (o := HO.lst [V.ref q]) hl) _ _ gq
      have gl : (upd Hq l (HO.lst [V.ref q])) l = some (HO.lst [V.ref q]) := upd_same
      generalize upd Hq l (HO.lst [V.ref q]) = Hl at S6 gq2 gl ⊢
      refine ⟨_, rfl, (by show 2 ≤ sizeLine; decide), fun w2 hw2 => ?_⟩
      have S7 := S6.trans (same_upd (o := HO.lst [V.int 3, .int 5]) hw2)
      have gq3 := (same_upd (o := HO.lst [V.int 3, .int 5]) hw2) _ _ gq2
      have gl3 := (same_upd (o := HO.lst [V.int 3, .int 5]) hw2) _ _ gl
      have gw : (upd Hl w2 (HO.lst [V.int 3, .int 5])) w2 = some (HO.lst [V.int 3, .int 5]) := upd_same
      generalize upd Hl w2 (HO.lst [V.int 3, .int 5]) = Hw at S7 gq3 gl3 gw ⊢
      refine ⟨w2, _, rfl, .inl (SqL.of gw), rfl, rfl, .inr ⟨_, rfl, ?_⟩⟩
      refine ⟨l, _, [.ref q], rfl, rfl, gl3, one_lo _, one_hi _, one_sz _, fun r hr => ?_⟩
      have S8 := S7.trans (same_upd (o := HO.lst (List.replicate (if (if false = true then !inV (V.int way) [V.int 3, V.int 5] else inV (V.int way) [V.int 3, V.int 5]) = true then (1 : Int) else 0).toNat [V.ref q]).flatten) hr)
      have gq4 := (same_upd (o := HO.lst (List.replicate (if (if false = true then !inV (V.int way) [V.int 3, V.int 5] else inV (V.int way) [V.int 3, V.int 5]) = true then (1 : Int) else 0).toNat [V.ref q]).flatten) hr) _ _ gq3
      have gr : (upd Hw r (HO.lst (List.replicate (if (if false = true then !inV (V.int way) [V.int 3, V.int 5] else inV (V.int way) [V.int 3, V.int 5]) = true then (1 : Int) else 0).toNat [V.ref q]).flatten)) r = some (HO.lst (List.replicate (if (if false = true then !inV (V.int way) [V.int 3, V.int 5] else inV (V.int way) [V.int 3, V.int 5]) = true then (1 : Int) else 0).toNat [V.ref q]).flatten) := upd_same
      generalize upd Hw r (HO.lst (List.replicate (if (if false = true then !inV (V.int way) [V.int 3, V.int 5] else inV (V.int way) [V.int 3, V.int 5]) = true then (1 : Int) else 0).toNat [V.ref q]).flatten) = Hr at S8 gq4 gr ⊢
      have A5 := A6.sm S8
      have hf5 := S8 _ _ hf6
      have hd5 := dpAll_mono S8 _ _ hd6
      have hp5 := hp6.same S8
      have hpp5 := S8 _ _ hpp6
      refine ⟨F, r, _, _, rfl, rfl, hf5, gr, ?_, ?_⟩
      · have e1 := dpAll_len hd5
        have e2 : ((List.replicate (if (if false = true then !inV (V.int way) [V.int 3, V.int 5] else inV (V.int way) [V.int 3, V.int 5]) = true then (1 : Int) else 0).toNat [V.ref q]).flatten).length ≤ 1 := rep_len _
        rw [List.length_map] at e1
        have e3 := hlen6
        exact Nat.le_of_lt (small1000 (by omega))
      have E8 := ext_step (l := ("from", s.1, s.2 - sh)) ((if false = true then !inV (V.int way) [V.int 3, V.int 5] else inV (V.int way) [V.int 3, V.int 5])) A5 hF Ft Fg hpF hf5 hd5 hp5 (SqT.of gq4) (rep_one _) hpp5
      have A8 := E8.1
      have hfd := E8.2.1
      have hp8 := E8.2.2.1
      have hpp8 := E8.2.2.2
      generalize upd Hr F (HO.lst (vs6 ++ (List.replicate (if (if false = true then !inV (V.int way) [V.int 3, V.int 5] else inV (V.int way) [V.int 3, V.int 5]) = true then (1 : Int) else 0).toNat [V.ref q]).flatten)) = H8 at E8 A8 hfd hp8 hpp8 ⊢
      obtain ⟨vs8, hf8, hd8⟩ := hfd
      have hlen8 : ((ls ++ (if decide (way < 3) = true then [(("at", s.1, s.2) : Lk)] else [])) ++ (if (if false = true then !inV (V.int way) [V.int 3, V.int 5] else inV (V.int way) [V.int 3, V.int 5]) = true then [(("from", s.1, s.2 - sh) : Lk)] else [])).length ≤ 3 * i + 2 := by
        rw [List.length_append]
        have e3 := hlen6
        have e4 := len_if (l := ("from", s.1, s.2 - sh)) ((if false = true then !inV (V.int way) [V.int 3, V.int 5] else inV (V.int way) [V.int 3, V.int 5]) = true)
        omega
      -- upto
      refine ⟨_, rfl, .inl ⟨rfl, _, SqL.of hf8⟩, _, rfl, _, rfl, _, rfl, _, _, rfl, rfl, (by show 3 ≤ sizeLine; decide), fun q hq => ?_⟩
      dsimp only
      have S5 := same_upd (o := HO.tup [V.str "upto", .int s.1, .int (s.2 + mo)]) hq
      have gq : (upd H8 q (HO.tup [V.str "upto", .int s.1, .int (s.2 + mo)])) q = some (HO.tup [V.str "upto", .int s.1, .int (s.2 + mo)]) := upd_same
      generalize upd H8 q (HO.tup [V.str "upto", .int s.1, .int (s.2 + mo)]) = Hq at S5 gq ⊢
      refine ⟨(by show 1 ≤ sizeLine; decide), fun l hl => ?_⟩
      have S6 := S5.trans (same_upd (o := HO.lst [V.ref q]) hl)
      have gq2 := (same_upd (o := HO.lst [V.ref q]) hl) _ _ gq
      have gl : (upd Hq l (HO.lst [V.ref q])) l = some (HO.lst [V.ref q]) := upd_same
      generalize upd Hq l (HO.lst [V.ref q]) = Hl at S6 gq2 gl ⊢
      refine ⟨_, rfl, (by show 2 ≤ sizeLine; decide), fun w2 hw2 => ?_⟩
      have S7 := S6.trans (same_upd (o := HO.lst [V.int 4, .int 5]) hw2)
      have gq3 := (same_upd (o := HO.lst [V.int 4, .int 5]) hw2) _ _ gq2
      have gl3 := (same_upd (o := HO.lst [V.int 4, .int 5]) hw2) _ _ gl
      have gw : (upd Hl w2 (HO.lst [V.int 4, .int 5])) w2 = some (HO.lst [V.int 4, .int 5]) := upd_same
      generalize upd Hl w2 (HO.lst [V.int 4, .int 5]) = Hw at S7 gq3 gl3 gw ⊢
      refine ⟨w2, _, rfl, .inl (SqL.of gw), rfl, rfl, .inr ⟨_, rfl, ?_⟩⟩
      refine ⟨l, _, [.ref q], rfl, rfl, gl3, one_lo _, one_hi _, one_sz _, fun r hr => ?_⟩
      have S8 := S7.trans (same_upd (o := HO.lst (List.replicate (if (if false = true then !inV (V.int way) [V.int 4, V.int 5] else inV (V.int way) [V.int 4, V.int 5]) = true then (1 : Int) else 0).toNat [V.ref q]).flatten) hr)
      have gq4 := (same_upd (o := HO.lst (List.replicate (if (if false = true then !inV (V.int way) [V.int 4, V.int 5] else inV (V.int way) [V.int 4, V.int 5]) = true then (1 : Int) else 0).toNat [V.ref q]).flatten) hr) _ _ gq3
      have gr : (upd Hw r (HO.lst (List.replicate (if (if false = true then !inV (V.int way) [V.int 4, V.int 5] else inV (V.int way) [V.int 4, V.int 5]) = true then (1 : Int) else 0).toNat [V.ref q]).flatten)) r = some (HO.lst (List.replicate (if (if false = true then !inV (V.int way) [V.int 4, V.int 5] else inV (V.int way) [V.int 4, V.int 5]) = true then (1 : Int) else 0).toNat [V.ref q]).flatten) := upd_same
      generalize upd Hw r (HO.lst (List.replicate (if (if false = true then !inV (V.int way) [V.int 4, V.int 5] else inV (V.int way) [V.int 4, V.int 5]) = true then (1 : Int) else 0).toNat [V.ref q]).flatten) = Hr at S8 gq4 gr ⊢
      have A5 := A8.sm S8
      have hf5 := S8 _ _ hf8
      have hd5 := dpAll_mono S8 _ _ hd8
      have hp5 := hp8.same S8
      have hpp5 := S8 _ _ hpp8
      refine ⟨F, r, _, _, rfl, rfl, hf5, gr, ?_, ?_⟩
      · have e1 := dpAll_len hd5
        have e2 : ((List.replicate (if (if false = true then !inV (V.int way) [V.int 4, V.int 5] else inV (V.int way) [V.int 4, V.int 5]) = true then (1 : Int) else 0).toNat [V.ref q]).flatten).length ≤ 1 := rep_len _
        rw [List.length_map] at e1
        have e3 := hlen8
        exact Nat.le_of_lt (small1000 (by omega))
      have E10 := ext_step (l := ("upto", s.1, s.2 + mo)) ((if false = true then !inV (V.int way) [V.int 4, V.int 5] else inV (V.int way) [V.int 4, V.int 5])) A5 hF Ft Fg hpF hf5 hd5 hp5 (SqT.of gq4) (rep_one _) hpp5
      have A10 := E10.1
      have hfd := E10.2.1
      have hp10 := E10.2.2.1
      have hpp10 := E10.2.2.2
      generalize upd Hr F (HO.lst (vs8 ++ (List.replicate (if (if false = true then !inV (V.int way) [V.int 4, V.int 5] else inV (V.int way) [V.int 4, V.int 5]) = true then (1 : Int) else 0).toNat [V.ref q]).flatten)) = H10 at E10 A10 hfd hp10 hpp10 ⊢
      obtain ⟨vs10, hf10, hd10⟩ := hfd
      have hlen10 : (((ls ++ (if decide (way < 3) = true then [(("at", s.1, s.2) : Lk)] else [])) ++ (if (if false = true then !inV (V.int way) [V.int 3, V.int 5] else inV (V.int way) [V.int 3, V.int 5]) = true then [(("from", s.1, s.2 - sh) : Lk)] else [])) ++ (if (if false = true then !inV (V.int way) [V.int 4, V.int 5] else inV (V.int way) [V.int 4, V.int 5]) = true then [(("upto", s.1, s.2 + mo) : Lk)] else [])).length ≤ 3 * i + 3 := by
        rw [List.length_append]
        have e3 := hlen8
        have e4 := len_if (l := ("upto", s.1, s.2 + mo)) ((if false = true then !inV (V.int way) [V.int 4, V.int 5] else inV (V.int way) [V.int 4, V.int 5]) = true)
        omega
      refine ⟨_, _, _, _, _, _, _, rfl, A10, ⟨vs10, hf10, hd10⟩, hp10, hpp10, fun l hl => ?_, by omega⟩
      rcases List.mem_append.mp hl with hl | hl
      · rcases List.mem_append.mp hl with hl | hl
        · rcases List.mem_append.mp hl with hl | hl
          · exact hsaid l hl
          · rw [mem_if hl]
            exact ⟨.inl rfl, s, hsm, rfl, fun _ => rfl, fun e => absurd e w_af, fun e => absurd e w_au⟩
        · rw [mem_if hl]
          exact ⟨.inr (.inl rfl), s, hsm, rfl, fun e => absurd e w_fa, fun _ => ⟨by show s.2 - sh ≤ s.2; omega, by show s.2 ≤ s.2 - sh + L; omega⟩, fun e => absurd e w_fu⟩
      · rw [mem_if hl]
        exact ⟨.inr (.inr rfl), s, hsm, rfl, fun e => absurd e w_ua, fun e => absurd e w_uf, fun _ => ⟨by show s.2 ≤ s.2 + mo; omega, by show s.2 + mo ≤ s.2 + L; omega⟩⟩
    · rintro σ' H' ⟨u4, u5, u6, u7, u8, u9, ls, rfl, A2, ⟨vs2, hf2, hd2⟩, hp2, hpp2, hsaid, hlsl⟩
      refine ⟨_, rfl, k H' F ls hF (A2.up (by omega)) ⟨vs2, hf2, hd2⟩ hsaid (by omega)⟩
end
end KA
namespace KA
open PySem PySem.Spec PyProof.Rows L2 DP
/-- several Darks -/
def DarksAt (Z : Ad) (K : PySem.W.Frag) (H : Hp) (ds : List Addr) (L : Int) (hs : List (List Lk)) (t g : Addr) : Prop := Darks Z K H ds L hs ∧ ∀ d ∈ ds, Off Z H d L t g
theorem DarksAt.keep {Z : Ad} {K : PySem.W.Frag} {H H' : Hp} {t g : Addr} {ds : List Addr} {n : Nat} {L : Int} {hs : List (List Lk)} (D : DarksAt Z K H ds L hs t g) (T : Tray H t g n) (k : Keep t g H H') : DarksAt Z K H' ds L hs t g :=
  ⟨⟨D.1.1, fun i d ls h1 h2 => ((D.1.2 i d ls h1 h2).keep T k (D.2 d (List.mem_of_getElem? h1))).1⟩, fun d hd => by
    obtain ⟨i, hi, rfl⟩ := List.getElem_of_mem hd
    obtain ⟨ls, _, DD⟩ := D.1.get (List.getElem?_eq_getElem hi)
    exact (DD.keep T k (D.2 _ hd)).2⟩
theorem DarksAt.same {Z : Ad} {K : PySem.W.Frag} {H H' : Hp} {t g : Addr} {ds : List Addr} {L : Int} {hs : List (List Lk)} (D : DarksAt Z K H ds L hs t g) (S : Same H H') : DarksAt Z K H' ds L hs t g :=
  ⟨D.1.same S, fun d hd => by
    obtain ⟨i, hi, rfl⟩ := List.getElem_of_mem hd
    obtain ⟨ls, _, DD⟩ := D.1.get (List.getElem?_eq_getElem hi)
    exact (D.2 _ hd).same DD S⟩
theorem DarksAt.acc {Z : Ad} {K : PySem.W.Frag} {H : Hp} {t g D : Addr} {ds : List Addr} {L : Int} {hs : List (List Lk)} {xs : List V} {o : HO} (h : DarksAt Z K H ds L hs t g) (hD : H D = some (.lst xs)) (hne : ∀ d ∈ ds, ∀ la dx, H d = some (.ins Z.C dx (df L la)) → la ≠ D) : DarksAt Z K (upd H D o) ds L hs t g ∧ ∀ d ∈ ds, ∀ la dx, (upd H D o) d = some (.ins Z.C dx (df L la)) → la ≠ D := by
  have hdD : ∀ d ∈ ds, d ≠ D := fun d hd e => by
    obtain ⟨i, hi, e1⟩ := List.getElem_of_mem hd
    obtain ⟨ls, _, DD⟩ := h.1.get (show ds[i]? = some d by rw [List.getElem?_eq_getElem hi, e1])
    obtain ⟨dx', la', _, h1, _⟩ := DD.ex
    rw [e, hD] at h1; cases h1
  refine ⟨⟨⟨h.1.1, fun i d ls h1 h2 => ?_⟩, fun d hd la dx e => ?_⟩, fun d hd la dx e => ?_⟩
  · have DD := h.1.2 i d ls h1 h2
    have hm := List.mem_of_getElem? h1
    obtain ⟨dx, la, vs, e1, e2, e3⟩ := DD.ex
    exact ⟨⟨dx, la, vs, (upd_ne (hdD d hm)).trans e1, (upd_ne (hne d hm la dx e1)).trans e2, dpAll_tups (Tups.upd_lst hD) _ _ (noLs_map noL_encL ls) e3⟩, DD.pos, DD.big, DD.ok, DD.len⟩
  · rw [upd_ne (hdD d hd)] at e
    exact h.2 d hd la dx e
  · rw [upd_ne (hdD d hd)] at e
    exact hne d hd la dx e
def spDarkOf (Z : Ad) (K : PySem.W.Frag) : Sp := fun vs H Q _ => ∃ (t g : Addr) (v : V) (n : Nat) (L : Int) (ls : List Lk), vs = [.ref t, .int L, v] ∧ Tray H t g n ∧ n < 2 ^ 55 ∧ Dp K H v (.list (ls.map encL)) ∧ v ≠ .ref t ∧ v ≠ .ref g ∧ 0 < L ∧ L.natAbs < 2 ^ 100 ∧ (∀ l ∈ ls, WordOk l.1 ∧ Sized 270 l) ∧ (∀ a ∈ ls, ∀ b ∈ ls, clashB a b L = false) ∧ ls.length ≤ 58 ∧
  ∀ (H' : Hp) (d : Addr), H d = none → At H H' t g (n + ls.length) → DarkAt Z K H' d L (ls.foldl (heard L) []) → (∀ la dx, H' d = some (.ins Z.C dx (df L la)) → H la = none) → Q (.ref d) H'
/-- a list, not the deck, under the deck's draws -/
theorem sqL_keep {K : PySem.W.Frag} {H H' : Hp} {t g a : Addr} {n : Nat} {xs : List V} (h : SqL K H a xs) (k : Keep t g H H') (h1 : a ≠ t) (h2 : a ≠ g) : SqL K H' a xs := by
  rcases h with h | h
  · rcases h with e | ⟨z, e⟩
    · exact .inl (.inl (k _ _ e h1 h2))
    · exact .inl (.inr ⟨z, k _ _ e h1 h2⟩)
  · exact .inr h
section
variable {P : Program} {w : World} {K : PySem.W.Frag} {mg : Str → Option Value} {base : Heap} {Z : Ad}
theorem ok_law_dark (T : Tx K w mg Z) : FnOk P w K mg base CX0 6 Z.a_law_dark Z.d_law_dark P_law_dark (spDarkOf Z K) := by
  refine T.F_law_dark.ok sclaw_dark (fun vs H Q E h => ?_) (fun cdv A outer s H vs Q E hr h => ?_)
  · obtain ⟨t, g, v, n, L, ls, rfl, _⟩ := h
    rfl
  · obtain ⟨t, g, v, n, L, ls, rfl, hT, hn, hv, hvt, hvg, hL, hLb, htr, hnc, hlen, k⟩ := h
    obtain ⟨a, xs, rfl, ha, hd⟩ := dp_list hv
    have hat : a ≠ t := fun e => hvt (by rw [e])
    have hag : a ≠ g := fun e => hvg (by rw [e])
    have hxl : xs.length = ls.length := by rw [dpAll_len hd, List.length_map]
    have A0 : At H H t g n := ⟨hT, Keep.refl _ _ _⟩
    refine ⟨_, (pss_cons (ps_set (i := 3) sclaw_dark.nd rfl (Or.inl rfl) (pe_make T.mk_Dark (ok_Dark_init T) (hr.mono (by decide)) (by rfl) T.g_Dark T.bb_Dark_init .nil pass0 (pa_cons (pv 1) pa_nil)))
      (pss_cons (ps_for PassesOwn.never rfl (pi_list (pv 2)) (tupK (K := K) (by rfl) (pgs_cons (pg_name (i := 4) sclaw_dark.nd rfl (Or.inl rfl)) (pgs_cons (pg_name (i := 5) sclaw_dark.nd rfl (Or.inl rfl)) (pgs_cons (pg_name (i := 6) sclaw_dark.nd rfl (Or.inl rfl)) pgs_nil)))) (pss_cons (ps_set (i := 7) sclaw_dark.nd rfl (Or.inl rfl) (pe_op op_mulW (pe_op op_sub (pe_call (ok_law_take T) (hr.mono (by decide)) (by rfl) T.g_law_take T.F_law_take.kp T.bb_law_take .nil pass0 (pa_cons (pv 0) (pa_cons pe_int pa_nil))) pe_int) (pv 1)))
      (pss_one (ps_expr (pe_meth (pv 3) T.cl T.m_Dark_hear (ok_Dark_hear T) (hr.mono (by decide)) T.bb_Dark_hear .nil pass0 (pa_cons (pv 4) (pa_cons (pe_op op_add (pv 5) (pv 7)) (pa_cons (pe_op op_add (pv 6) (pv 7)) pa_nil))))))))
      (pss_one (ps_ret (pv 3))))), ?_⟩
    refine ⟨_, rfl, fun d dx hdn hdx hne => ?_⟩
    have S0 : Same H (upd (upd H dx (.own d)) d (.ins Z.C dx [])) := same_made hdn hdx
    refine ⟨d, dx, L, rfl, upd_same, hL, lt_up hLb (by decide), fun H1 D1 f1 k1 => ⟨rfl, ?_⟩⟩
    have S1 : Same H H1 := fun b o e => k1 b o (S0 b o e) (ne_of_none e hdn)
    refine ⟨_, rfl, a, rfl, ⟨_, Same.sqL S1 ha⟩, ?_⟩
    refine for_list (K := K) (a := a) (xs := xs) (fun i σ' H' => ∃ u4 u5 u6 u7, σ' = [some (.ref t), some (.int L), some (.ref a), some (.ref d), u4, u5, u6, u7] ∧ At H H' t g (n + i) ∧ DarkAt Z K H' d L ((ls.take i).foldl (heard L) []) ∧ ∀ la dx, H' d = some (.ins Z.C dx (df L la)) → H la = none)
      ⟨_, _, _, _, rfl, A0.sm S1, D1, fun la dx e => S0.free (f1 la dx e)⟩ (fun i σ' H' _ ⟨_, _, _, _, _, A, _⟩ => sqL_keep (n := n) ha A.k hat hag) ?_ ?_
    · rintro i y σ' H' hi ⟨u4, u5, u6, u7, rfl, A, D, F⟩
      obtain ⟨e, hdi, hdy⟩ := dpAll_get hd hi
      obtain ⟨l, hl, rfl⟩ := map_at hdi
      have hlm := List.mem_of_getElem? hl
      have hi' : i < ls.length := (List.getElem?_eq_some_iff.mp hl).1
      have hdy2 := dp_tups (Keep.tups hT A.k) _ _ (noL_encL l) hdy
      obtain ⟨p, rfl, hp⟩ := dp_look hdy2
      refine ⟨_, _, rfl, hp, rfl, _, _, rfl, _, _, rfl, _, _, rfl, rfl, ?_⟩
      have off : Off Z H' d L t g := fun la dx e => hT.at_ne (F la dx e)
      refine ⟨_, rfl, t, g, n + i, 7, rfl, A.T, by decide, by decide, by omega, fun H2 r r0 r1 T2 k2 => ?_⟩
      have A2 := A.step T2 k2
      obtain ⟨D2, off2⟩ := D.keep A.T k2 off
      obtain ⟨dx2, la2, vs2, h1, h2, h3⟩ := id D2.ex
      have hr3 : (r - 3).natAbs < 2 ^ 10 := Nat.lt_of_le_of_lt (by omega : (r - 3).natAbs ≤ 7) (by decide)
      refine ⟨_, _, rfl, rfl, _, rfl, _, _, rfl, rfl, wide_mul hr3 hLb (by decide) (by decide) (by decide), ?_⟩
      have hkL : ((r - 3) * L).natAbs < 2 ^ 110 := wide_lt hr3 hLb
      have hsz : Sized 300 ((l.1, l.2.1 + (r - 3) * L, l.2.2 + (r - 3) * L) : Lk) := ⟨lt_up (add_lt (htr l hlm).2.1 (lt_up hkL (by decide))) (by decide), lt_up (add_lt (htr l hlm).2.2 (lt_up hkL (by decide))) (by decide)⟩
      refine ⟨_, rfl, d, dx2, _, rfl, h1, df_no _ _ (by decide +kernel) (by decide +kernel), _, rfl, _, rfl, _, rfl, _, _, rfl, rfl, _, rfl, _, rfl, _, _, rfl, rfl, d, L, (ls.take i).foldl (heard L) [], (l.1, l.2.1 + (r - 3) * L, l.2.2 + (r - 3) * L), rfl, D2, (htr l hlm).1, hsz, ?_, fun o ho => ?_, fun H3 D3 f3 k3 => ?_⟩
      · have h5 := fold_len (L := L) (ls.take i) []
        rw [List.length_take] at h5
        simp only [List.length_nil] at h5; omega
      · rw [home_turned hL]
        rcases (fold_mem _ _ _).mp ho with h | ⟨q, hq, rfl⟩
        · cases h
        · rw [show home L (l.1, l.2.1, l.2.2) = home L l from rfl, clash_home hL]
          exact hnc l hlm q (List.mem_of_mem_take hq)
      · rw [heard_turned hL] at D3
        have hdn' : H d = none := hdn
        refine ⟨_, _, _, _, rfl, ?_, ?_, fun la dx e => ?_⟩
        · have hdt : d ≠ t ∧ d ≠ g := hT.at_ne hdn
          refine ⟨?_, fun b o e n1 n2 => k3 b o (A2.k b o e n1 n2) (ne_of_none e hdn)⟩
          obtain ⟨⟨gs, f, c, e1, e2, r'⟩, hne'⟩ := A2.T
          obtain ⟨rl, rg, rf, rf2, rc, rc2⟩ := r'
          exact ⟨⟨gs, f, c, k3 _ _ e1 (Ne.symm hdt.1), k3 _ _ e2 (Ne.symm hdt.2), rl, rg, rf, rf2, rc, by omega⟩, hne'⟩
        · rw [take_snoc hl, List.foldl_append]
          exact D3
        · rcases f3 la dx e with ⟨dx', e'⟩ | e'
          · have e1 : H' d = some (.ins Z.C dx' (df L la)) := by
              obtain ⟨dx0, la0, vs0, q1, _⟩ := D.ex
              have q2 := k2 _ _ q1 (hT.at_ne hdn).1 (hT.at_ne hdn).2
              rw [e'] at q2
              have q3 := df_inj q2
              rw [q1, q3]
              injection q2 with q4
              injection q4 with q5 q6
              rw [q6]
            exact F la _ e1
          · exact A2.free e'
    · rintro σ' H' ⟨u4, u5, u6, u7, rfl, A, D, F⟩
      rw [List.take_of_length_le (by rw [hxl]; exact Nat.le_refl _)] at D
      rw [hxl] at A
      exact ⟨_, rfl, k H' d hdn A D F⟩
end
end KA
namespace KA
open PySem PySem.Spec PyProof.Rows L2 DP
/-! ### the fewest uses, the most uses -/
/-- whether so many uses lead so far: surely, or perhaps -/
def comesB (f : Nat → Option Int) (all : Bool) (y : Int) (n : Nat) : Bool := match f n with
  | none => !all
  | some m => decide (y ≤ m)
def LeastN (p : Nat → Bool) : Option Nat → Prop
  | none => ∀ n, p n = false
  | some n => p n = true ∧ ∀ k, k < n → p k = false
theorem it_before {sd : Str} {L : Int} {kn : List (List Lk)} {x : Int} {n : Nat} {m : Int} (h : it sd L kn x n = some m) {k : Nat} (hk : k ≤ n) : ∃ m', it sd L kn x k = some m' := by
  cases c : it sd L kn x k with
  | some m' => exact ⟨m', rfl⟩
  | none =>
    have := it_none c (n - k)
    rw [show k + (n - k) = n by omega, h] at this
    cases this
theorem least_slow {L x y : Int} {kn : List (List Lk)} : ∀ {r : Option Nat}, IsReach (it "slow" L kn x) y r → LeastN (comesB (it "slow" L kn x) true y) r
  | none, h => fun n => by
    unfold comesB
    cases c : it "slow" L kn x n with
    | none => rfl
    | some m => exact decide_eq_false (by have := h n m c; omega)
  | some n, ⟨⟨m, e, h1⟩, h2⟩ => by
    refine ⟨by unfold comesB; rw [e]; exact decide_eq_true h1, fun k hk => ?_⟩
    unfold comesB
    cases c : it "slow" L kn x k with
    | none => rfl
    | some m => exact decide_eq_false (by have := h2 k hk m c; omega)
theorem least_fast {L x y : Int} {kn : List (List Lk)} {n : Nat} (h : IsReach (it "fast" L kn x) y (some n)) : LeastN (comesB (it "fast" L kn x) false y) (some n) := by
  obtain ⟨⟨m, e, h1⟩, h2⟩ := h
  refine ⟨by unfold comesB; rw [e]; exact decide_eq_true h1, fun k hk => ?_⟩
  unfold comesB
  obtain ⟨m', e'⟩ := it_before e (Nat.le_of_lt hk)
  rw [e']
  exact decide_eq_false (by have := h2 k hk m' e'; omega)
section
variable {sd : Str} {L : Int} {kn : List (List Lk)} {x y : Int} {ps : List Int} {tl : List Lk}
theorem least_off (W : WalkOk "fast" L kn x ps tl) (h : EndOk L kn ps tl none) (hb : IsReach (it "fast" L kn x) y none) : LeastN (comesB (it "fast" L kn x) false y) (some ps.length) := by
  refine ⟨by unfold comesB; rw [behind_none W h (Nat.le_refl _)]; rfl, fun k hk => ?_⟩
  unfold comesB
  rw [behind_in W hk]
  exact decide_eq_false (by have := hb k _ (behind_in W hk); omega)
theorem least_never (hs : SideOk "fast") (hL : 0 < L) (W : WalkOk "fast" L kn x ps tl) {s : Nat} (h : EndOk L kn ps tl (some s)) (hb : IsReach (it "fast" L kn x) y none) : LeastN (comesB (it "fast" L kn x) false y) none := fun n => by
  have hl := W.len
  have h1 := h.1
  obtain ⟨m, e⟩ : ∃ m, it "fast" L kn x n = some m := by
    by_cases hn : n < ps.length
    · exact ⟨_, behind_in W hn⟩
    · obtain ⟨t, r, _, _, e⟩ := walk_at hs hL W h (by omega : s ≤ n)
      exact ⟨_, e⟩
  unfold comesB
  rw [e]
  exact decide_eq_false (by have := hb n m e; omega)
/-- places of a walk by looks that are not great -/
theorem walk_near (hL : 0 < L) (hLb : L.natAbs < 2 ^ 110) (hk : ∀ ls ∈ kn, ∀ l ∈ ls, Sized 114 l) (W : WalkOk sd L kn x ps tl) : ∀ (i : Nat) (z : Int), ps[i]? = some z → z.natAbs ≤ x.natAbs + i * 2 ^ 116
  | 0, z, h => by
    rw [W.zero] at h
    rw [← Option.some.inj h]; omega
  | i + 1, z, h => by
    have hi := (List.getElem?_eq_some_iff.mp h).1
    have hl := W.len
    obtain ⟨hm, y0, z', h1, h2, h3, _⟩ := W.step i _ (List.getElem?_eq_getElem (by omega : i < tl.length))
    rw [h2] at h
    rw [← Option.some.inj h, ← h3]
    have q1 := walk_near hL hLb hk W i y0 h1
    have hsz : Sized 114 (tl[i]'(by omega)) := by
      by_cases c : i % kn.length < kn.length
      · rw [List.getD_eq_getElem?_getD, List.getElem?_eq_getElem c] at hm
        exact hk _ (List.getElem_mem c) _ hm
      · rw [List.getD_eq_getElem?_getD, List.getElem?_eq_none (by omega)] at hm
        cases hm
    have q2 := plc_near hL sd (tl[i]'(by omega)) y0
    have q3 : ((tl[i]'(by omega)).2.2 - (tl[i]'(by omega)).2.1).natAbs < 2 ^ 115 := sub_lt hsz.2 hsz.1
    rw [Nat.add_mul, Nat.one_mul]
    have p1 : (2 : Nat) ^ 116 = 2 ^ 115 + 2 ^ 115 := by rw [Nat.pow_succ, Nat.mul_two]
    have p2 : (2 : Nat) ^ 115 = 2 ^ 110 * 32 := by decide
    have p3 : 1 ≤ (2 : Nat) ^ 110 := Nat.one_le_two_pow
    generalize i * 2 ^ 116 = c at q1 ⊢
    rw [p1]
    generalize plc sd (tl[i]'(by omega)) y0 L = v at q2 ⊢
    generalize (tl[i]'(by omega)).2.2 - (tl[i]'(by omega)).2.1 = u at q2 q3
    omega
/-- a first use that comes so far is none beyond all bounds -/
theorem reach_bound (hs : SideOk sd) (hL : 0 < L) (hLb : L.natAbs < 2 ^ 110) (hk : ∀ ls ∈ kn, ∀ l ∈ ls, Sized 114 l) (W : WalkOk sd L kn x ps tl) {st : Option Nat} (E : EndOk L kn ps tl st) (hN : tl.length < 4000) (hx : x.natAbs < 2 ^ 200) (hy : y.natAbs < 2 ^ 200) {n : Nat} (hr : IsReach (it sd L kn x) y (some n)) : n < 2 ^ 260 := by
  have hl := W.len
  obtain ⟨⟨m, e, h1⟩, h2⟩ := hr
  by_cases hn : n < ps.length
  · exact Nat.lt_of_lt_of_le (by omega : n < 4001) (by decide)
  cases st with
  | none => rw [behind_none W E (by omega)] at e; cases e
  | some s =>
    have hs1 := E.1
    by_cases c : ps.getD tl.length 0 - ps.getD s 0 ≤ 0
    · exfalso
      obtain ⟨t, r, hr, _, e'⟩ := walk_at hs hL W E (by omega : s ≤ n)
      rw [e] at e'
      have e2 := Option.some.inj e'
      have h3 := h2 (s + r) (by omega) _ (behind_in W (by omega))
      have h4 : (t : Int) * (ps.getD tl.length 0 - ps.getD s 0) ≤ 0 := Int.mul_nonpos_of_nonneg_of_nonpos (by omega) c
      omega
    · have hps : (ps.getD s 0).natAbs ≤ x.natAbs + s * 2 ^ 116 := walk_near hL hLb hk W s _ (by rw [List.getD_eq_getElem?_getD, List.getElem?_eq_getElem (by omega)]; rfl)
      obtain ⟨T, hT⟩ : ∃ T, T = (y - ps.getD s 0).natAbs := ⟨_, rfl⟩
      have e3 := behind_laps hs hL W E T 0 (by omega)
      rw [Nat.add_zero] at e3
      have h5 : (T : Int) * 1 ≤ (T : Int) * (ps.getD tl.length 0 - ps.getD s 0) := Int.mul_le_mul_of_nonneg_left (by omega) (by omega)
      have h6 : n ≤ s + T * (tl.length - s) := by
        by_cases c2 : n ≤ s + T * (tl.length - s)
        · exact c2
        · exfalso
          have := h2 _ (by omega) _ e3
          omega
      have h7 : T * (tl.length - s) ≤ T * 4000 := Nat.mul_le_mul_left _ (by omega)
      have h8 : s * 2 ^ 116 ≤ 4000 * 2 ^ 116 := Nat.mul_le_mul_right _ (by omega)
      have h8' : s * 2 ^ 116 ≤ 2 ^ 200 := Nat.le_trans h8 (by decide +kernel)
      clear h8
      have h10 : T < 2 ^ 202 := by
        have h9 : T ≤ y.natAbs + (x.natAbs + s * 2 ^ 116) := by rw [hT]; exact Nat.le_trans (Int.natAbs_sub_le _ _) (Nat.add_le_add_left hps _)
        exact Nat.lt_of_le_of_lt h9 (Nat.lt_of_lt_of_le (Nat.add_lt_add_of_lt_of_le hy (Nat.add_le_add (Nat.le_of_lt hx) h8')) (by decide +kernel))
      have h11 : 4000 + 2 ^ 202 * 4000 < (2 : Nat) ^ 260 := by decide +kernel
      generalize (2 : Nat) ^ 260 = A at h11 ⊢
      generalize (2 : Nat) ^ 202 = B at h10 h11
      omega
end
def natsL (n : Nat) : List Int := (List.range n).map Int.ofNat
theorem natsL_snoc (n : Nat) : natsL (n + 1) = natsL n ++ [(n : Int)] := by unfold natsL; rw [List.range_succ, List.map_append]; rfl
theorem natsL_mem {n : Nat} {z : Int} : z ∈ natsL n ↔ 0 ≤ z ∧ z < n := by
  unfold natsL
  rw [List.mem_map]
  constructor
  · rintro ⟨k, hk, rfl⟩
    have := List.mem_range.mp hk
    exact ⟨Int.natCast_nonneg _, by show (k : Int) < n; omega⟩
  · rintro ⟨a, b⟩
    exact ⟨z.toNat, List.mem_range.mpr (by omega), Int.toNat_of_nonneg a⟩
theorem at_intsL {hs : List Int} {i : Nat} {y : V} (h : (hs.map V.int)[i]? = some y) : ∃ z, hs[i]? = some z ∧ y = V.int z := by
  rw [List.getElem?_map] at h
  cases c : hs[i]? with
  | none => rw [c] at h; cases h
  | some z => rw [c] at h; exact ⟨z, rfl, (Option.some.inj h).symm⟩
def spFew (Z : Ad) (K : PySem.W.Frag) : Sp := fun vs H Q _ => ∃ (hp : Addr) (ds : List Addr) (L x y : Int) (hs : List (List Lk)), vs = [.ref hp, .int x, .int y] ∧ SqL K H hp (refs ds) ∧ Darks Z K H ds L hs ∧ 0 < ds.length ∧ ds.length ≤ 60 ∧ x.natAbs < 2 ^ 200 ∧ y.natAbs < 2 ^ 200 ∧ L.natAbs < 2 ^ 110 ∧ (∀ ls ∈ hs, ∀ l ∈ ls, Sized 114 l) ∧
  ∀ H' r, Same H H' → LeastN (comesB (it "fast" L (hs.map (sideOf "fast")) x) false y) r → (∀ n, r = some n → n < 2 ^ 260) → Q (uV r) H'
section
variable {P : Program} {w : World} {K : PySem.W.Frag} {mg : Str → Option Value} {base : Heap} {Z : Ad}
theorem ok_fewest_uses (T : Tx K w mg Z) : FnOk P w K mg base CX0 6 Z.a_fewest_uses Z.d_fewest_uses P_fewest_uses (spFew Z K) := by
  refine T.F_fewest_uses.ok scfewest_uses (fun vs H Q E h => ?_) (fun cdv A outer s H vs Q E hr h => ?_)
  · obtain ⟨hp, ds, L, x, y, hs, rfl, _⟩ := h
    rfl
  · obtain ⟨hp, ds, L, x, y, hs, rfl, hh, hD, hd0, hd1, hx, hyb, hLb, hsz, k⟩ := h
    refine ⟨_, (pss_cons (ps_expr (pe_call (ok_check_round T) (hr.mono (by decide)) (by rfl) T.g_check_round T.F_check_round.kp T.bb_check_round .nil pass0 (pa_cons (pv 0) pa_nil)))
      (pss_cons (ps_set (i := 3) scfewest_uses.nd rfl (Or.inl rfl) (pe_make T.mk_Walk (ok_Walk_init T) (hr.mono (by decide)) (by rfl) T.g_Walk T.bb_Walk_init .nil pass0 (pa_cons (pv 0) (pa_cons (pe_glob rfl T.g_FAST T.r_FAST) (pa_cons (pv 1) pa_nil)))))
      (pss_cons (ps_set (i := 4) scfewest_uses.nd rfl (Or.inl rfl) (pe_meth (pv 3) T.cl_Walk T.m_Walk_reach (ok_Walk_reach T) (hr.mono (by decide)) T.bb_Walk_reach .nil pass0 (pa_cons (pv 2) pa_nil)))
      (C8.pss_cut (ps_if (PW.pt (pw_and (pt_cmpR op_isN (pv 4) pe_non (nomark _)) (pw_and1 (pt_cmpR op_isN (fldK (K := K) (pv 3) rfl) pe_non (nomark _))))) (pss_one (ps_ret (pe_callB (lenK (K := K)) (by rfl) T.b_len (by decide +kernel) (pa_cons (fldK (K := K) (pv 3) rfl) pa_nil)))) pss_nil)
      (pss_one (ps_ret (pv 4))))))), ?_⟩
    refine ⟨_, rfl, hp, ds, L, hs, rfl, hh, hD, hd0, fun H1 S1 => ?_⟩
    refine ⟨_, rfl, _, rfl, fun w dx hwn hdx hne => ?_⟩
    have S2 := S1.trans (same_made (o := HO.ins Z.C_Walk dx []) hwn hdx)
    have hD2 := hD.same S2
    have hdw : ∀ d ∈ ds, d ≠ w := fun d hd e => by
      obtain ⟨i, hi, e1⟩ := List.getElem_of_mem hd
      have hi' : ds[i]? = some d := by rw [List.getElem?_eq_getElem hi, e1]
      obtain ⟨ls, _, DD⟩ := (hD.same S1).get hi'
      obtain ⟨dx', la, vs, q1, _⟩ := DD.ex
      rw [e, hwn] at q1; cases q1
    refine ⟨w, hp, dx, ds, "fast", L, x, hs, rfl, upd_same, Same.sqL S2 hh, hD2, hd0, hd1, .inr rfl, lt_up hx (by decide), hdw, fun H3 pl tb ps tl st W E hm WA k3 => ⟨rfl, ?_⟩⟩
    have S3 : Same H H3 := fun b o e => k3 b o (S2 b o e) (fun e' => by
      subst e'
      rw [S1 _ _ e] at hwn; cases hwn)
    obtain ⟨dxw, tvs, q1, q2, q3, q4⟩ := id WA.ex
    have hl := hD.1
    have hkn := knOk hD "fast"
    have hN : tl.length < 4000 := by
      have h1 := marks_le (by rw [List.length_map]; omega) W (n := tl.length) (by have := W.len; omega) hm
      have h2 := cand_len hkn (L := L) x
      have h3 : (hs.map (sideOf "fast")).length * 60 ≤ 60 * 60 := Nat.mul_le_mul_right 60 (by rw [List.length_map]; omega)
      omega
    obtain ⟨d0, hd00⟩ : ∃ d0, ds[0]? = some d0 := ⟨ds[0], List.getElem?_eq_getElem hd0⟩
    obtain ⟨ls0, hls0, D0⟩ := hD.get hd00
    have hszS : ∀ ls ∈ hs.map (sideOf "fast"), ∀ l ∈ ls, Sized 114 l := fun ls hls l hl' => by
      obtain ⟨q, hq, rfl⟩ := List.mem_map.mp hls
      exact hsz q hq l (mem_side.mp hl').1
    have hw := W.len
    refine ⟨_, rfl, w, dxw, _, rfl, q1, wf_no _ _ _ (by decide +kernel) (by decide +kernel) (by decide +kernel), _, rfl, w, pl, tb, "fast", L, x, y, hs.map (sideOf "fast"), ps, tl, st, rfl, WA, W, E, .inr rfl, D0.pos, D0.big, hkn, lt_up hx (by decide), hN, lt_up hyb (by decide), fun H4 r S4 hr4 => ?_⟩
    have S34 := S3.trans S4
    cases r with
    | some n =>
      refine ⟨fun σ' H' => σ' = [some (.ref hp), some (.int x), some (.int y), some (.ref w), some (.int (n : Int))] ∧ H' = H4, ?_, ?_⟩
      · exact ⟨_, rfl, rfl, _, rfl, iteF (iteF ⟨rfl, rfl⟩)⟩
      rintro σ5 H5 ⟨rfl, rfl⟩
      exact ⟨_, rfl, k H5 (some n) S34 (least_fast hr4) fun n' e => by
        obtain rfl := Option.some.inj e
        exact reach_bound (.inr rfl) D0.pos hLb hszS W E hN hx hyb hr4⟩
    | none =>
      cases st with
      | none =>
        refine ⟨fun σ' H' => False, ?_, fun _ _ z => z.elim⟩
        refine ⟨_, rfl, rfl, _, rfl, iteT ⟨_, rfl, w, Z.C_Walk, dxw, _, _, rfl, S4 _ _ q1, T.cl_Walk, T.nWalk_start, wf_start _ _ _, rfl, _, rfl, iteT ?_⟩⟩
        refine ⟨_, rfl, w, Z.C_Walk, dxw, _, _, rfl, S4 _ _ q1, T.cl_Walk, T.nWalk_places, wf_places _ _ _, pl, ps.map V.int, rfl, .inl (SqL.of (S4 _ _ q2)), ?_⟩
        rw [List.length_map]
        exact k H4 (some ps.length) S34 (least_off W E hr4) fun n' e => by
          obtain rfl := Option.some.inj e
          exact Nat.lt_of_lt_of_le (by omega : ps.length < 4001) (by decide)
      | some s =>
        refine ⟨fun σ' H' => σ' = [some (.ref hp), some (.int x), some (.int y), some (.ref w), some .non] ∧ H' = H4, ?_, ?_⟩
        · exact ⟨_, rfl, rfl, _, rfl, iteT ⟨_, rfl, w, Z.C_Walk, dxw, _, _, rfl, S4 _ _ q1, T.cl_Walk, T.nWalk_start, wf_start _ _ _, rfl, _, rfl, iteF ⟨rfl, rfl⟩⟩⟩
        rintro σ5 H5 ⟨rfl, rfl⟩
        exact ⟨_, rfl, k H5 none S34 (least_never (.inr rfl) D0.pos W E hr4) fun n' e => by cases e⟩
end
end KA
namespace KA
open PySem PySem.Spec PyProof.Rows L2 DP
/-! ### rounds of a law's own making -/
theorem cut_take {xs : List V} {k : Nat} : cutV xs none (some (k : Int)) = xs.take k := by
  unfold cutV
  rw [HT.sIx_none, HT.sIx_nat, List.drop_zero, Nat.sub_zero, List.take_eq_take_iff]
  omega
theorem dpAll_take {K : PySem.W.Frag} {H : Hp} : ∀ {vs : List V} {ds : List PyData} (k : Nat), DpAll K H vs ds → DpAll K H (vs.take k) (ds.take k)
  | _, _, 0, _ => by rw [List.take_zero, List.take_zero]; exact .nil
  | _, _, k + 1, .nil => by rw [List.take_nil, List.take_nil]; exact .nil
  | _, _, k + 1, .cons a b => .cons a (dpAll_take k b)
/-- looks that some hand under which nobody overtakes fits -/
structure Good (L : Int) (ls : List Lk) : Prop where
  ex : ∃ f, Hand L f ∧ ∀ l ∈ ls, Fits f l
  ok : ∀ l ∈ ls, WordOk l.1 ∧ Sized 110 l
  len : ls.length ≤ 24
theorem Good.clash {L : Int} (hL : 0 < L) {ls : List Lk} (G : Good L ls) : ∀ a ∈ ls, ∀ b ∈ ls, clashB a b L = false := fun a ha b hb => by
  obtain ⟨f, F, h⟩ := G.ex
  exact fit_clash hL F (h a ha) (h b hb)
theorem said_good {L : Int} (hL : 0 < L) (hLb : L.natAbs < 2 ^ 100) {prs : List (Int × Int)} (R : Rises L prs) {ls : List Lk} (h : ∀ l ∈ ls, Said L prs l) (k : Nat) (hk : k ≤ 24) : Good L (ls.take k) := by
  obtain ⟨f, F, hf⟩ := R.lead hL
  exact ⟨⟨f, F, fun l hl => (h l (List.mem_of_mem_take hl)).fits hf⟩, fun l hl => ⟨(h l (List.mem_of_mem_take hl)).1, (h l (List.mem_of_mem_take hl)).sized hL hLb R⟩, Nat.le_trans (List.length_take_le _ _) hk⟩
/-- what is heard tells what the looks tell -/
theorem stp_heard {sd : Str} (hs : SideOk sd) {L : Int} (hL : 0 < L) (ls : List Lk) (y : Int) : stp sd L (sideOf sd (heardAll L ls)) y = stp sd L (sideOf sd ls) y := by
  by_cases h : sideOf sd (heardAll L ls) = []
  · rw [h, (side_nil heardAll_mem).mp h]
  · have b := bst_is hs h y L
    rw [stp_best b, stp_best (best_home hL heardAll_mem b)]
theorem it_heard {sd : Str} (hs : SideOk sd) {L : Int} (hL : 0 < L) {lots : List (List Lk)} (h0 : 0 < lots.length) (x : Int) (n : Nat) : it sd L ((lots.map (heardAll L)).map (sideOf sd)) x n = it sd L (lots.map (sideOf sd)) x n := by
  refine it_alike (by simp) (fun i y hi => ?_) (by simpa using h0) n
  rw [List.length_map, List.length_map] at hi
  have e1 : ((lots.map (heardAll L)).map (sideOf sd)).getD i [] = sideOf sd (heardAll L lots[i]) := by
    rw [List.getD_eq_getElem?_getD, List.getElem?_map, List.getElem?_map, List.getElem?_eq_getElem hi]; rfl
  have e2 : (lots.map (sideOf sd)).getD i [] = sideOf sd lots[i] := by
    rw [List.getD_eq_getElem?_getD, List.getElem?_map, List.getElem?_eq_getElem hi]; rfl
  rw [e1, e2, stp_heard hs hL]
def dO : Option Int → PyData
  | none => .none
  | some i => .int i
theorem dp_oV {K : PySem.W.Frag} {H : Hp} : ∀ o, Dp K H (oV o) (dO o)
  | none => .non
  | some i => .int i
theorem shaped_dO : ∀ o, SeqAt.shaped (dO o) = true
  | none => rfl
  | some i => rfl
theorem eqv_dO (o : Option Int) : PyData.eqv (dO o) (dO o) = true := by
  cases o <;> simp [dO, PyData.eqv]
/-- lists of looks, not the deck -/
def LotsAt (K : PySem.W.Frag) (H : Hp) (as : List Addr) (lots : List (List Lk)) (t g : Addr) : Prop := Lots K H as lots ∧ ∀ a ∈ as, a ≠ t ∧ a ≠ g
theorem LotsAt.keep {K : PySem.W.Frag} {H H' : Hp} {t g : Addr} {as : List Addr} {n : Nat} {lots : List (List Lk)} (D : LotsAt K H as lots t g) (T : Tray H t g n) (k : Keep t g H H') : LotsAt K H' as lots t g :=
  ⟨D.1.to (Keep.tups T k) fun a ha o e => k _ _ e (D.2 a ha).1 (D.2 a ha).2, D.2⟩
theorem LotsAt.same {K : PySem.W.Frag} {H H' : Hp} {t g : Addr} {as : List Addr} {lots : List (List Lk)} (D : LotsAt K H as lots t g) (S : Same H H') : LotsAt K H' as lots t g := ⟨D.1.same S, D.2⟩
theorem LotsAt.acc {K : PySem.W.Frag} {H : Hp} {t g F : Addr} {as : List Addr} {lots : List (List Lk)} {xs : List V} {o : HO} (D : LotsAt K H as lots t g) (hF : H F = some (.lst xs)) (hne : ∀ a ∈ as, a ≠ F) : LotsAt K (upd H F o) as lots t g :=
  ⟨D.1.to (Tups.upd_lst hF) fun a ha o e => (upd_ne (hne a ha)).trans e, D.2⟩
theorem at_set {α : Type} {l : List α} {i j : Nat} {a x : α} (h : (l.set j a)[i]? = some x) : (i = j ∧ x = a ∧ j < l.length) ∨ (i ≠ j ∧ l[i]? = some x) := by
  rw [List.getElem?_set] at h
  by_cases e : j = i
  · rw [if_pos e] at h
    split at h
    · refine .inl ⟨e.symm, (Option.some.inj h).symm, by assumption⟩
    · cases h
  · rw [if_neg e] at h
    exact .inr ⟨fun q => e q.symm, h⟩
theorem LotsAt.set {K : PySem.W.Frag} {H : Hp} {t g a : Addr} {as : List Addr} {lots : List (List Lk)} {ls : List Lk} (D : LotsAt K H as lots t g) {i j : Nat} (h1 : as[i]? = some a) (h2 : lots[i]? = some ls) : LotsAt K H (as.set j a) (lots.set j ls) t g := by
  refine ⟨⟨by rw [List.length_set, List.length_set]; exact D.1.1, fun i' b l e1 e2 => ?_⟩, fun b hb => ?_⟩
  · rcases at_set e1 with ⟨q1, q2, _⟩ | ⟨q1, q2⟩
    · rcases at_set e2 with ⟨p1, p2, _⟩ | ⟨p1, p2⟩
      · rw [q2, p2]; exact D.1.2 i a ls h1 h2
      · exact absurd q1 p1
    · rcases at_set e2 with ⟨p1, p2, _⟩ | ⟨p1, p2⟩
      · exact absurd p1 q1
      · exact D.1.2 i' b l q2 p2
  · rcases List.mem_or_eq_of_mem_set hb with h | h
    · exact D.2 b h
    · rw [h]; exact D.2 a (List.mem_of_getElem? h1)
theorem DarksAt.set {Z : Ad} {K : PySem.W.Frag} {H : Hp} {t g d : Addr} {ds : List Addr} {L : Int} {hs : List (List Lk)} {ls : List Lk} (D : DarksAt Z K H ds L hs t g) {i j : Nat} (h1 : ds[i]? = some d) (h2 : hs[i]? = some ls) : DarksAt Z K H (ds.set j d) L (hs.set j ls) t g := by
  refine ⟨⟨by rw [List.length_set, List.length_set]; exact D.1.1, fun i' b l e1 e2 => ?_⟩, fun b hb => ?_⟩
  · rcases at_set e1 with ⟨q1, q2, _⟩ | ⟨q1, q2⟩
    · rcases at_set e2 with ⟨p1, p2, _⟩ | ⟨p1, p2⟩
      · rw [q2, p2]; exact D.1.2 i d ls h1 h2
      · exact absurd q1 p1
    · rcases at_set e2 with ⟨p1, p2, _⟩ | ⟨p1, p2⟩
      · exact absurd p1 q1
      · exact D.1.2 i' b l q2 p2
  · rcases List.mem_or_eq_of_mem_set hb with h | h
    · exact D.2 b h
    · rw [h]; exact D.2 d (List.mem_of_getElem? h1)
theorem DarksAt.snoc {Z : Ad} {K : PySem.W.Frag} {H : Hp} {t g d : Addr} {ds : List Addr} {L : Int} {hs : List (List Lk)} {ls : List Lk} (D : DarksAt Z K H ds L hs t g) (h : DarkAt Z K H d L ls) (o : Off Z H d L t g) : DarksAt Z K H (ds ++ [d]) L (hs ++ [ls]) t g := by
  have hl := D.1.1
  refine ⟨⟨by simp [hl], fun i b l h1 h2 => ?_⟩, fun b hb => ?_⟩
  · by_cases hi : i < ds.length
    · rw [List.getElem?_append_left hi] at h1
      rw [List.getElem?_append_left (by omega)] at h2
      exact D.1.2 i b l h1 h2
    · have h3 := (List.getElem?_eq_some_iff.mp h1).1
      rw [List.length_append, List.length_singleton] at h3
      have e : i = ds.length := by omega
      subst e
      rw [List.getElem?_append_right (Nat.le_refl _), Nat.sub_self] at h1
      rw [List.getElem?_append_right (by omega), hl, Nat.sub_self] at h2
      have e1 : d = b := Option.some.inj h1
      have e2 : ls = l := Option.some.inj h2
      subst e1 e2
      exact h
  · rcases List.mem_append.mp hb with h' | h'
    · exact D.2 b h'
    · rw [List.mem_singleton] at h'; subst h'; exact o
theorem LotsAt.snoc {K : PySem.W.Frag} {H : Hp} {t g a : Addr} {as : List Addr} {lots : List (List Lk)} {ls : List Lk} (D : LotsAt K H as lots t g) (h : LkAt K H a ls) (o : a ≠ t ∧ a ≠ g) : LotsAt K H (as ++ [a]) (lots ++ [ls]) t g := ⟨D.1.snoc h, fun b hb => by
  rcases List.mem_append.mp hb with h' | h'
  · exact D.2 b h'
  · rw [List.mem_singleton] at h'; subst h'; exact o⟩
theorem refs_set (as : List Addr) (j : Nat) (a : Addr) : (refs as).set j (.ref a) = refs (as.set j a) := by
  unfold refs; rw [List.map_set]
theorem atI_refs {as : List Addr} {i : Nat} {j : Int} {a : Addr} (e : j = (i : Int)) (h : as[i]? = some a) : atI (refs as) j = some (.ref a) := by
  refine at_of (j := i) e ?_
  show (as.map V.ref)[i]? = _
  rw [List.getElem?_map, h]; rfl
theorem ixN_last {n : Nat} (h : 0 < n) : ixN n (-1) = some (n - 1) := by
  unfold ixN
  rw [if_neg (by decide), if_pos (by omega)]
  congr 1
  omega
end KA
namespace KA
open PySem PySem.Spec PyProof.Rows L2 DP
/-! ### tables: hands of few places, as lists of where they lead each place -/
noncomputable def rowL (r : List Int) (x : Int) : Int := r.getD (x % (r.length : Int)).toNat 0 + x / (r.length : Int) * (r.length : Int)
structure IsRow (w : Nat) (r : List Int) : Prop where
  len : r.length = w
  up : r.Pairwise (· ≤ ·)
  near : ∀ z ∈ r, z ≤ r.getD 0 0 + w
theorem getD_at {r : List Int} {i : Nat} (h : i < r.length) : r.getD i 0 = r[i] := by rw [List.getD_eq_getElem?_getD, List.getElem?_eq_getElem h]; rfl
theorem IsRow.hand {w : Nat} (hw : 0 < w) {r : List Int} (R : IsRow w r) : Hand (w : Int) (rowL r) := by
  have hl : (r.length : Int) = (w : Int) := by rw [R.len]
  have hw' : (0 : Int) < (w : Int) := by omega
  have hm : ∀ i j (hi : i < r.length) (hj : j < r.length), i ≤ j → r[i] ≤ r[j] := fun i j hi hj h => by
    rcases Nat.lt_or_eq_of_le h with c | c
    · exact List.pairwise_iff_getElem.mp R.up i j hi hj c
    · subst c; exact Int.le_refl _
  have h0 : ∀ i (hi : i < r.length), r[0]'(by omega) ≤ r[i] ∧ r[i] ≤ r[0]'(by omega) + w := fun i hi => by
    refine ⟨hm 0 i (by omega) hi (by omega), ?_⟩
    have := R.near _ (List.getElem_mem hi)
    rwa [getD_at (by omega)] at this
  refine ⟨fun x y hxy => ?_, fun x k => ?_⟩
  · unfold rowL
    rw [hl]
    have a1 := Int.emod_nonneg x (Int.ne_of_gt hw')
    have a2 := Int.emod_lt_of_pos x hw'
    have b1 := Int.emod_nonneg y (Int.ne_of_gt hw')
    have b2 := Int.emod_lt_of_pos y hw'
    have a3 := Int.mul_ediv_add_emod x w
    have b3 := Int.mul_ediv_add_emod y w
    have hxi : (x % (w : Int)).toNat < r.length := by rw [R.len]; omega
    have hyi : (y % (w : Int)).toNat < r.length := by rw [R.len]; omega
    rw [getD_at hxi, getD_at hyi, Int.mul_comm (x / w), Int.mul_comm (y / w)]
    have hq : x / (w : Int) ≤ y / (w : Int) := Int.ediv_le_ediv hw' hxy
    rcases Int.lt_or_eq_of_le hq with c | c
    · have h1 := (h0 _ hxi).2
      have h2 := (h0 _ hyi).1
      have h3 : (w : Int) * (x / w) + w ≤ w * (y / w) := by
        have : (w : Int) * (x / w + 1) ≤ w * (y / w) := Int.mul_le_mul_of_nonneg_left (by omega) (by omega)
        rw [Int.mul_add, Int.mul_one] at this
        exact this
      omega
    · rw [c] at a3 ⊢
      have := hm _ _ hxi hyi (by omega)
      omega
  · unfold rowL
    rw [hl, Int.add_mul_emod_self_right, Int.add_mul_ediv_right _ _ (Int.ne_of_gt hw'), Int.add_mul]
    omega
/-- a hand's table -/
def tabOf (w : Nat) (f : Int → Int) : List Int := (List.range w).map fun (i : Nat) => f (i : Int)
theorem tabOf_at {w : Nat} {f : Int → Int} {i : Nat} (h : i < w) : (tabOf w f).getD i 0 = f i := by
  unfold tabOf
  rw [getD_at (by simpa using h)]
  simp
theorem tabOf_row {w : Nat} (hw : 0 < w) {f : Int → Int} (F : Hand (w : Int) f) : IsRow w (tabOf w f) := by
  refine ⟨by simp [tabOf], ?_, fun z hz => ?_⟩
  · unfold tabOf
    rw [List.pairwise_iff_getElem]
    intro i j hi hj h
    simp only [List.getElem_map, List.getElem_range]
    exact F.mono _ _ (by omega)
  · obtain ⟨i, hi, rfl⟩ := List.mem_map.mp hz
    have hi := List.mem_range.mp hi
    rw [tabOf_at hw]
    have h1 := F.mono (i : Int) ((0 : Nat) + 1 * (w : Int)) (by omega)
    rw [F.turn] at h1
    omega
theorem tabOf_led {w : Nat} (hw : 0 < w) {f : Int → Int} (F : Hand (w : Int) f) (x : Int) : rowL (tabOf w f) x = f x := by
  have hw' : (0 : Int) < (w : Int) := by omega
  unfold rowL
  rw [(tabOf_row hw F).len]
  have a1 := Int.emod_nonneg x (Int.ne_of_gt hw')
  have a2 := Int.emod_lt_of_pos x hw'
  rw [tabOf_at (by omega), ← F.turn]
  congr 1
  have a3 := Int.mul_ediv_add_emod x w
  rw [Int.mul_comm] at a3
  omega
/-! ### all tables that begin within bounds -/
def rng (a b : Int) : List Int := (List.range (b + 1 - a).toNat).map fun (i : Nat) => a + (i : Int)
theorem rng_mem {a b z : Int} : z ∈ rng a b ↔ a ≤ z ∧ z ≤ b := by
  unfold rng
  rw [List.mem_map]
  constructor
  · rintro ⟨i, hi, rfl⟩
    have := List.mem_range.mp hi
    omega
  · rintro ⟨h1, h2⟩
    exact ⟨(z - a).toNat, List.mem_range.mpr (by omega), by omega⟩
def more (w : Int) (r : List Int) : List (List Int) := (rng (r.getLast?.getD 0) (r.getD 0 0 + w)).map fun z => r ++ [z]
def grow (w : Int) (rs : List (List Int)) : List (List Int) := rs.flatMap (more w)
def tabs (w a b : Int) : Nat → List (List Int)
  | 0 => (rng a b).map fun z => [z]
  | n + 1 => grow w (tabs w a b n)
/-- the beginning of a table -/
structure Begun (w a b : Int) (n : Nat) (r : List Int) : Prop where
  len : r.length = n + 1
  up : r.Pairwise (· ≤ ·)
  near : ∀ z ∈ r, z ≤ r.getD 0 0 + w
  lo : a ≤ r.getD 0 0
  hi : r.getD 0 0 ≤ b
theorem getD_snoc {r : List Int} {z : Int} (h : 0 < r.length) : (r ++ [z]).getD 0 0 = r.getD 0 0 := by
  rw [List.getD_eq_getElem?_getD, List.getD_eq_getElem?_getD, List.getElem?_append_left h]
theorem last_mem {r : List Int} (h : 0 < r.length) : ∃ l, r.getLast? = some l ∧ l ∈ r := by
  have hne : r ≠ [] := fun e => by rw [e] at h; simp at h
  exact ⟨r.getLast hne, List.getLast?_eq_getLast hne, List.getLast_mem hne⟩
theorem le_last {r : List Int} (up : r.Pairwise (· ≤ ·)) {l : Int} (hl : r.getLast? = some l) : ∀ z ∈ r, z ≤ l := fun z hz => by
  obtain ⟨s, rfl⟩ := List.getLast?_eq_some_iff.mp hl
  rcases List.mem_append.mp hz with h | h
  · exact (List.pairwise_append.mp up).2.2 z h l (List.mem_singleton.mpr rfl)
  · rw [List.mem_singleton.mp h]; exact Int.le_refl _
theorem tabs_mem {w a b : Int} (hw : 0 ≤ w) : ∀ (n : Nat) (r : List Int), r ∈ tabs w a b n ↔ Begun w a b n r
  | 0, r => by
    unfold tabs
    rw [List.mem_map]
    constructor
    · rintro ⟨z, hz, rfl⟩
      have := rng_mem.mp hz
      exact ⟨rfl, List.pairwise_singleton _ _, fun y hy => by rw [List.mem_singleton.mp hy]; show z ≤ z + w; omega, this.1, this.2⟩
    · rintro ⟨h1, h2, h3, h4, h5⟩
      obtain ⟨z, rfl⟩ := List.length_eq_one_iff.mp h1
      exact ⟨z, rng_mem.mpr ⟨h4, h5⟩, rfl⟩
  | n + 1, r => by
    unfold tabs grow
    rw [List.mem_flatMap]
    constructor
    · rintro ⟨q, hq, hr⟩
      have B := (tabs_mem hw n q).mp hq
      unfold more at hr
      obtain ⟨z, hz, rfl⟩ := List.mem_map.mp hr
      have hz := rng_mem.mp hz
      have hl := B.len
      obtain ⟨l, e, hlm⟩ := last_mem (r := q) (by omega)
      rw [e] at hz
      have e0 := getD_snoc (z := z) (r := q) (by omega)
      refine ⟨by simp [hl], ?_, fun y hy => ?_, by rw [e0]; exact B.lo, by rw [e0]; exact B.hi⟩
      · rw [List.pairwise_append]
        refine ⟨B.up, List.pairwise_singleton _ _, fun y hy c hc => ?_⟩
        rw [List.mem_singleton.mp hc]
        have := le_last B.up e y hy
        have : l ≤ z := hz.1
        omega
      · rw [e0]
        rcases List.mem_append.mp hy with h | h
        · exact B.near y h
        · rw [List.mem_singleton.mp h]; exact hz.2
    · intro B
      have hl := B.len
      obtain ⟨q, z, rfl⟩ := snoc_of (l := r) (fun e => by rw [e] at hl; simp at hl)
      have hql : q.length = n + 1 := by simpa using hl
      have e0 := getD_snoc (z := z) (r := q) (by omega)
      have hup := List.pairwise_append.mp B.up
      obtain ⟨l, e, hlm⟩ := last_mem (r := q) (by omega)
      refine ⟨q, (tabs_mem hw n q).mpr ⟨hql, hup.1, fun y hy => ?_, by rw [← e0]; exact B.lo, by rw [← e0]; exact B.hi⟩, ?_⟩
      · have := B.near y (List.mem_append_left _ hy)
        rwa [e0] at this
      · unfold more
        refine List.mem_map.mpr ⟨z, rng_mem.mpr ⟨?_, ?_⟩, rfl⟩
        · rw [e]; exact hup.2.2 l hlm z (List.mem_singleton.mpr rfl)
        · have := B.near z (List.mem_append_right _ (List.mem_singleton.mpr rfl))
          rwa [e0] at this
theorem more_len {w a b : Int} (hw : 0 ≤ w) {n : Nat} {r : List Int} (B : Begun w a b n r) : (more w r).length ≤ w.toNat + 1 := by
  have hl := B.len
  obtain ⟨l, e, hlm⟩ := last_mem (r := r) (by omega)
  have h0 : r.getD 0 0 ≤ l := le_last B.up e _ (by rw [getD_at (by omega)]; exact List.getElem_mem _)
  unfold more rng
  rw [e, List.length_map, List.length_map, List.length_range]
  show (r.getD 0 0 + w + 1 - l).toNat ≤ _
  omega
theorem flat_len {α β : Type} {f : α → List β} {c : Nat} : ∀ (l : List α), (∀ x ∈ l, (f x).length ≤ c) → (l.flatMap f).length ≤ l.length * c
  | [], _ => by simp
  | x :: l, h => by
    rw [List.flatMap_cons, List.length_append, List.length_cons, Nat.add_mul, Nat.one_mul]
    have := flat_len l fun y hy => h y (List.mem_cons_of_mem _ hy)
    have := h x List.mem_cons_self
    omega
theorem tabs_len {w a b : Int} (hw : 0 ≤ w) : ∀ n, (tabs w a b n).length ≤ (b + 1 - a).toNat * (w.toNat + 1) ^ n
  | 0 => by simp [tabs, rng]
  | n + 1 => by
    unfold tabs grow
    have h1 := flat_len (tabs w a b n) fun r hr => more_len hw ((tabs_mem hw n r).mp hr)
    refine Nat.le_trans h1 ?_
    rw [Nat.pow_succ, ← Nat.mul_assoc]
    exact Nat.mul_le_mul_right _ (tabs_len hw n)
theorem grow_snoc {w : Int} {rs : List (List Int)} {r : List Int} : grow w (rs ++ [r]) = grow w rs ++ more w r := by unfold grow; rw [List.flatMap_append]; simp
/-! ### tables and looks -/
/-- a table is as a look says -/
noncomputable def isSo (r : List Int) (l : Lk) : Bool := if l.1 = "from" then decide (l.2.2 ≤ rowL r l.2.1) else if l.1 = "upto" then decide (rowL r l.2.1 ≤ l.2.2) else decide (rowL r l.2.1 = l.2.2)
theorem isSo_fits {r : List Int} {l : Lk} (h : WordOk l.1) : isSo r l = true ↔ Fits (rowL r) l := by
  obtain ⟨u, x, y⟩ := l
  unfold isSo Fits
  rcases h with e | e | e <;> (have e' : u = _ := e) <;> subst e'
  · rw [if_neg w_af, if_neg w_au, decide_eq_true_iff]
    exact ⟨fun h => ⟨fun _ => Int.le_of_eq h.symm, fun _ => Int.le_of_eq h⟩, fun h => Int.le_antisymm (h.2 (show onSide "fast" "at" = true by decide +kernel)) (h.1 (show onSide "slow" "at" = true by decide +kernel))⟩
  · rw [if_pos rfl, decide_eq_true_iff]
    exact ⟨fun h => ⟨fun _ => h, fun c => absurd (show onSide "fast" "from" = true from c) (by decide +kernel)⟩, fun h => h.1 (show onSide "slow" "from" = true by decide +kernel)⟩
  · rw [if_neg w_uf, if_pos rfl, decide_eq_true_iff]
    exact ⟨fun h => ⟨fun c => absurd (show onSide "slow" "upto" = true from c) (by decide +kernel), fun _ => h⟩, fun h => h.2 (show onSide "fast" "upto" = true by decide +kernel)⟩
end KA
namespace KA
open PySem PySem.Spec PyProof.Rows L2 DP
/-! ### rounds of tables -/
def pickR (rs : List (List Int)) (k : Int) : List Int := rs.getD k.toNat []
noncomputable def goneR (rs : List (List Int)) (ks : List Int) (x : Int) : Nat → Int
  | 0 => x
  | n + 1 => rowL (pickR rs (ks.getD (n % ks.length) 0)) (goneR rs ks x n)
def pickL (lots : List (List Lk)) (k : Int) : List Lk := lots.getD k.toNat []
def knOf (sd : Str) (lots : List (List Lk)) (ks : List Int) : List (List Lk) := ks.map fun k => sideOf sd (pickL lots k)
/-- as near as can be, by a side -/
def sle (sd : Str) (a b : Int) : Prop := (sd = "slow" → a ≤ b) ∧ (sd = "fast" → b ≤ a)
theorem sle_refl {sd : Str} (a : Int) : sle sd a a := ⟨fun _ => Int.le_refl _, fun _ => Int.le_refl _⟩
theorem sle_anti {sd : Str} (hs : SideOk sd) {a b : Int} (h1 : sle sd a b) (h2 : sle sd b a) : a = b := by
  rcases hs with e | e
  · exact Int.le_antisymm (h1.1 e) (h2.1 e)
  · exact Int.le_antisymm (h2.2 e) (h1.2 e)
theorem sle_trans {sd : Str} {a b c : Int} (h1 : sle sd a b) (h2 : sle sd b c) : sle sd a c := ⟨fun e => Int.le_trans (h1.1 e) (h2.1 e), fun e => Int.le_trans (h2.2 e) (h1.2 e)⟩
theorem sle_mono {sd : Str} {L : Int} {f : Int → Int} (F : Hand L f) {a b : Int} (h : sle sd a b) : sle sd (f a) (f b) := ⟨fun e => F.mono _ _ (h.1 e), fun e => F.mono _ _ (h.2 e)⟩
theorem bst_sle {sd : Str} (hs : SideOk sd) {L : Int} (hL : 0 < L) {f : Int → Int} (F : Hand L f) {ls : List Lk} (h : ∀ l ∈ ls, Fits f l) (hne : sideOf sd ls ≠ []) (x : Int) : sle sd (bst sd (sideOf sd ls) x L) (f x) := by
  have b := bst_is hs hne x L
  obtain ⟨⟨l, hl, e⟩, _⟩ := b
  obtain ⟨h1, h2⟩ := mem_side.mp hl
  rw [← e]
  refine ⟨fun e => ?_, fun e => ?_⟩ <;> subst e
  · exact fit_low hL F (h l h1) h2 x
  · exact fit_high hL F (h l h1) h2 x
theorem knOf_at (sd : Str) (lots : List (List Lk)) {ks : List Int} {i : Nat} (h : i < ks.length) : (knOf sd lots ks).getD i [] = sideOf sd (pickL lots (ks.getD i 0)) := by
  unfold knOf
  rw [List.getD_eq_getElem?_getD, List.getD_eq_getElem?_getD, List.getElem?_map, List.getElem?_eq_getElem h]; rfl
theorem getD_mem {ks : List Int} {i : Nat} (h : i < ks.length) : ks.getD i 0 ∈ ks := by rw [getD_at h]; exact List.getElem_mem h
theorem stp_one {sd : Str} (hs : SideOk sd) {L y z : Int} {ls : List Lk} (h : stp sd L ls y = some z) : ls ≠ [] ∧ bst sd ls y L = z := by
  by_cases c : ls = []
  · rw [c, stp_nil] at h; cases h
  · rw [stp_some hs c] at h
    exact ⟨c, Option.some.inj h⟩
theorem it_last {sd : Str} (hs : SideOk sd) {L : Int} {lots : List (List Lk)} {ks : List Int} (h0 : 0 < ks.length) {x z : Int} {n : Nat} (h : it sd L (knOf sd lots ks) x (n + 1) = some z) : ∃ y, it sd L (knOf sd lots ks) x n = some y ∧ sideOf sd (pickL lots (ks.getD (n % ks.length) 0)) ≠ [] ∧ bst sd (sideOf sd (pickL lots (ks.getD (n % ks.length) 0))) y L = z := by
  rw [it_succ] at h
  cases e : it sd L (knOf sd lots ks) x n with
  | none => rw [e] at h; cases h
  | some y =>
    rw [e] at h
    have h2 : stp sd L ((knOf sd lots ks).getD (n % (knOf sd lots ks).length) []) y = some z := h
    have hl : (knOf sd lots ks).length = ks.length := by unfold knOf; rw [List.length_map]
    rw [hl, knOf_at sd lots (Nat.mod_lt _ h0)] at h2
    exact ⟨y, rfl, stp_one hs h2⟩
/-- no tables that fit lead beyond -/
theorem gone_beyond {sd : Str} (hs : SideOk sd) {L : Int} (hL : 0 < L) {lots : List (List Lk)} {rs : List (List Int)} {ks : List Int} (h0 : 0 < ks.length) (hf : ∀ k ∈ ks, Hand L (rowL (pickR rs k)) ∧ ∀ l ∈ pickL lots k, Fits (rowL (pickR rs k)) l) (x : Int) : ∀ (n : Nat) (m : Int), it sd L (knOf sd lots ks) x n = some m → sle sd m (goneR rs ks x n)
  | 0, m, h => by
    have e : x = m := Option.some.inj h
    rw [e]; exact sle_refl _
  | n + 1, m, h => by
    obtain ⟨y, h1, h2, h3⟩ := it_last hs h0 h
    have ih := gone_beyond hs hL h0 hf x n y h1
    obtain ⟨F, hfit⟩ := hf _ (getD_mem (Nat.mod_lt n h0))
    rw [← h3]
    exact sle_trans (bst_sle hs hL F hfit h2 y) (sle_mono F ih)
theorem gone_is {sd : Str} (hs : SideOk sd) {L : Int} {lots : List (List Lk)} {rs : List (List Int)} {ks : List Int} (h0 : 0 < ks.length) (hb : ∀ k ∈ ks, sideOf sd (pickL lots k) ≠ [] → ∀ y, rowL (pickR rs k) y = bst sd (sideOf sd (pickL lots k)) y L) (x : Int) : ∀ (n : Nat) (m : Int), it sd L (knOf sd lots ks) x n = some m → goneR rs ks x n = m
  | 0, m, h => Option.some.inj h
  | n + 1, m, h => by
    obtain ⟨y, h1, h2, h3⟩ := it_last hs h0 h
    show rowL (pickR rs (ks.getD (n % ks.length) 0)) (goneR rs ks x n) = m
    rw [gone_is hs h0 hb x n y h1, hb _ (getD_mem (Nat.mod_lt n h0)) h2, h3]
/-- a hand without a look of the side is used -/
def Barred (sd : Str) (lots : List (List Lk)) (ks : List Int) (n : Nat) : Prop := ∃ k ∈ ks.take n, sideOf sd (pickL lots k) = []
theorem it_barred {sd : Str} (hs : SideOk sd) {L : Int} {lots : List (List Lk)} {ks : List Int} (h0 : 0 < ks.length) (x : Int) : ∀ n, it sd L (knOf sd lots ks) x n = none ↔ Barred sd lots ks n
  | 0 => by
    constructor
    · intro h; cases h
    · rintro ⟨k, hk, _⟩; simp at hk
  | n + 1 => by
    have ih := it_barred (L := L) (lots := lots) hs h0 x n
    have hi := Nat.mod_lt n h0
    constructor
    · intro h
      rw [it_succ] at h
      cases e : it sd L (knOf sd lots ks) x n with
      | none =>
        obtain ⟨k, hk, h2⟩ := ih.mp e
        exact ⟨k, List.take_subset_take_left _ (by omega) hk, h2⟩
      | some y =>
        rw [e] at h
        have h2 : stp sd L ((knOf sd lots ks).getD (n % (knOf sd lots ks).length) []) y = none := h
        have hl : (knOf sd lots ks).length = ks.length := by unfold knOf; rw [List.length_map]
        rw [hl, knOf_at sd lots hi] at h2
        refine ⟨ks.getD (n % ks.length) 0, ?_, ?_⟩
        · rw [getD_at hi]
          have hle : n % ks.length ≤ n := Nat.mod_le _ _
          exact List.mem_take_iff_getElem.mpr ⟨n % ks.length, by omega, rfl⟩
        · by_cases c : sideOf sd (pickL lots (ks.getD (n % ks.length) 0)) = []
          · exact c
          · rw [stp_some hs c] at h2; cases h2
    · rintro ⟨k, hk, h2⟩
      by_cases c : Barred sd lots ks n
      · exact it_none (ih.mpr c) 1
      · rw [it_succ]
        cases e : it sd L (knOf sd lots ks) x n with
        | none => rfl
        | some y =>
          show stp sd L ((knOf sd lots ks).getD (n % (knOf sd lots ks).length) []) y = none
          have hl : (knOf sd lots ks).length = ks.length := by unfold knOf; rw [List.length_map]
          rw [hl, knOf_at sd lots hi]
          obtain ⟨i, hi1, rfl⟩ := List.mem_take_iff_getElem.mp hk
          have hin : i = n := by
            by_cases q : i < n
            · exact absurd ⟨ks[i], List.mem_take_iff_getElem.mpr ⟨i, by omega, rfl⟩, h2⟩ c
            · omega
          subst hin
          rw [Nat.mod_eq_of_lt (by omega), getD_at (by omega), h2, stp_nil]
/-- what is due: the least place, or the greatest one, over all choices -/
def DueIs (sd : Str) (CL : List (List (List Int))) (lots : List (List Lk)) (ks : List Int) (x : Int) (n : Nat) : Option Int → Prop
  | none => Barred sd lots ks n
  | some m => ¬ Barred sd lots ks n ∧ (∃ rs ∈ CL, goneR rs ks x n = m) ∧ ∀ rs ∈ CL, sle sd m (goneR rs ks x n)
theorem due_it {sd : Str} (hs : SideOk sd) {L : Int} (hL : 0 < L) {CL : List (List (List Int))} {lots : List (List Lk)} {ks : List Int} (h0 : 0 < ks.length) (hall : ∀ rs ∈ CL, ∀ k ∈ ks, Hand L (rowL (pickR rs k)) ∧ ∀ l ∈ pickL lots k, Fits (rowL (pickR rs k)) l)
    (hbest : ∃ rs ∈ CL, ∀ k ∈ ks, sideOf sd (pickL lots k) ≠ [] → ∀ y, rowL (pickR rs k) y = bst sd (sideOf sd (pickL lots k)) y L) {x : Int} {n : Nat} : ∀ {d : Option Int}, DueIs sd CL lots ks x n d → it sd L (knOf sd lots ks) x n = d
  | none, h => (it_barred hs h0 x n).mpr h
  | some m, ⟨h1, ⟨rs, hrs, e⟩, h3⟩ => by
    cases c : it sd L (knOf sd lots ks) x n with
    | none => exact absurd ((it_barred hs h0 x n).mp c) h1
    | some m' =>
      obtain ⟨qs, hqs, hb⟩ := hbest
      have e1 := gone_is hs h0 hb x n m' c
      have q1 := h3 qs hqs
      rw [e1] at q1
      have q2 := gone_beyond hs hL h0 (hall rs hrs) x n m' c
      rw [e] at q2
      rw [sle_anti hs q2 q1]
/-! ### the best table -/
theorem bst_hand {sd : Str} (hs : SideOk sd) {L : Int} (hL : 0 < L) {ls : List Lk} (hne : ls ≠ []) : Hand L (fun x => bst sd ls x L) :=
  ⟨fun x y h => best_mono hL (bst_is hs hne x L) (bst_is hs hne y L) h, fun x k => bst_of (best_shift hL k (bst_is hs hne x L))⟩
theorem plc_own {L : Int} (sd : Str) (hs : SideOk sd) (l : Lk) : plc sd l l.2.1 L = l.2.2 := by
  rcases hs with e | e <;> subst e
  · rw [plc_slow, Int.sub_self]; simp
  · rw [plc_fast, Int.sub_self]; simp
theorem bst_fits {sd : Str} (hs : SideOk sd) {L : Int} (hL : 0 < L) {ls : List Lk} (hne : sideOf sd ls ≠ []) (hex : ∃ f, Hand L f ∧ ∀ l ∈ ls, Fits f l) : ∀ l ∈ ls, Fits (fun x => bst sd (sideOf sd ls) x L) l := fun l hl => by
  obtain ⟨f, F, hf⟩ := hex
  have h1 := bst_sle hs hL F hf hne l.2.1
  have h2 := hf l hl
  have b := bst_is hs hne l.2.1 L
  rcases hs with e | e <;> subst e
  · refine ⟨fun c => ?_, fun c => Int.le_trans (h1.1 rfl) (h2.2 c)⟩
    have h3 := b.2 l (mem_side.mpr ⟨hl, c⟩)
    rw [if_pos rfl, plc_own "slow" (.inl rfl)] at h3
    exact h3
  · refine ⟨fun c => Int.le_trans (h2.1 c) (h1.2 rfl), fun c => ?_⟩
    have h3 := b.2 l (mem_side.mpr ⟨hl, c⟩)
    rw [if_neg (by decide +kernel), plc_own "fast" (.inr rfl)] at h3
    exact h3
theorem rises_lo {L : Int} {prs : List (Int × Int)} (R : Rises L prs) {s0 : Int × Int} (h0 : prs[0]? = some s0) : ∀ s ∈ prs, s0.2 ≤ s.2 ∧ s.2 ≤ s0.2 + L := fun s hs => by
  obtain ⟨b, _, hb⟩ := R.turn
  have h1 := hb s hs
  have h2 := hb s0 (List.mem_of_getElem? h0)
  refine ⟨?_, by omega⟩
  cases prs with
  | nil => cases hs
  | cons a r =>
    have e : a = s0 := Option.some.inj h0
    subst e
    rcases List.mem_cons.mp hs with e | e
    · rw [e]; exact Int.le_refl _
    · exact ((List.pairwise_cons.mp R.ord).1 s e).2
theorem bst_head {sd : Str} (hs : SideOk sd) {L : Int} (hL : 0 < L) {prs : List (Int × Int)} (R : Rises L prs) {s0 : Int × Int} (h0 : prs[0]? = some s0) {ls : List Lk} (hsaid : ∀ l ∈ ls, Said L prs l) (hne : sideOf sd ls ≠ []) : s0.2 - 2 * L ≤ bst sd (sideOf sd ls) 0 L ∧ bst sd (sideOf sd ls) 0 L ≤ s0.2 + 2 * L := by
  obtain ⟨⟨l, hl, e⟩, _⟩ := bst_is hs hne 0 L
  rw [← e]
  obtain ⟨hl1, hl2⟩ := mem_side.mp hl
  obtain ⟨_, s, hsm, e1, a1, a2, a3⟩ := hsaid l hl1
  obtain ⟨b1, b2⟩ := rises_lo R h0 s hsm
  obtain ⟨c1, c2⟩ := R.on s hsm
  rcases hs with e | e <;> subst e
  · rw [plc_slow, e1]
    have d1 := Int.mul_ediv_add_emod (0 - s.1) L
    have d2 := Int.emod_nonneg (0 - s.1) (Int.ne_of_gt hL)
    have d3 := Int.emod_lt_of_pos (0 - s.1) hL
    rw [Int.mul_comm] at d1
    have hlow : l.2.2 ≤ s.2 ∧ s.2 ≤ l.2.2 + L := by
      rcases side_low hl2 with e | e
      · have := a1 e; omega
      · exact a2 e
    have d4 : -1 ≤ (0 - s.1) / L := by
      have := Int.ediv_le_ediv hL (show -1 * L ≤ 0 - s.1 by omega)
      rwa [Int.mul_ediv_cancel _ (Int.ne_of_gt hL)] at this
    have d5 : -1 * L ≤ (0 - s.1) / L * L := Int.mul_le_mul_of_nonneg_right d4 (by omega)
    omega
  · rw [plc_fast, e1, show (s.1 - 0) / L = 0 from Int.ediv_eq_zero_of_lt (by omega) (by omega)]
    have hhigh : s.2 ≤ l.2.2 ∧ l.2.2 ≤ s.2 + L := by
      rcases side_high hl2 with e | e
      · have := a1 e; omega
      · exact a3 e
    omega
/-- of all tables one is the nearest -/
theorem best_row {sd : Str} (hs : SideOk sd) {w : Nat} (hw : 0 < w) {prs : List (Int × Int)} (R : Rises (w : Int) prs) {s0 : Int × Int} (h0 : prs[0]? = some s0) {ls : List Lk} (hsaid : ∀ l ∈ ls, Said (w : Int) prs l) :
    ∃ r, r ∈ tabs (w : Int) (s0.2 - 2 * w) (s0.2 + 2 * w) (w - 1) ∧ (∀ l ∈ ls, isSo r l = true) ∧ (sideOf sd ls ≠ [] → ∀ y, rowL r y = bst sd (sideOf sd ls) y w) := by
  have hL : (0 : Int) < (w : Int) := by omega
  obtain ⟨f0, F0, hf0⟩ := R.lead hL
  have hex : ∃ f, Hand (w : Int) f ∧ ∀ l ∈ ls, Fits f l := ⟨f0, F0, fun l hl => (hsaid l hl).fits hf0⟩
  have mk : ∀ f : Int → Int, Hand (w : Int) f → (∀ l ∈ ls, Fits f l) → s0.2 - 2 * w ≤ f 0 → f 0 ≤ s0.2 + 2 * w → tabOf w f ∈ tabs (w : Int) (s0.2 - 2 * w) (s0.2 + 2 * w) (w - 1) ∧ (∀ l ∈ ls, isSo (tabOf w f) l = true) := fun f F hf h1 h2 => by
    have RR := tabOf_row hw F
    refine ⟨(tabs_mem (by omega) _ _).mpr ⟨by rw [RR.len]; omega, RR.up, RR.near, ?_, ?_⟩, fun l hl => ?_⟩
    · rw [tabOf_at hw]; exact h1
    · rw [tabOf_at hw]; exact h2
    · rw [isSo_fits (hsaid l hl).1]
      have := hf l hl
      unfold Fits at this ⊢
      rw [tabOf_led hw F]
      exact this
  have two : ∀ sd' : Str, SideOk sd' → sideOf sd' ls ≠ [] → tabOf w (fun x => bst sd' (sideOf sd' ls) x w) ∈ tabs (w : Int) (s0.2 - 2 * w) (s0.2 + 2 * w) (w - 1) ∧ (∀ l ∈ ls, isSo (tabOf w (fun x => bst sd' (sideOf sd' ls) x w)) l = true) := fun sd' hs' hne => by
    have hh := bst_head hs' hL R h0 hsaid hne
    exact mk _ (bst_hand hs' hL hne) (bst_fits hs' hL hne hex) hh.1 hh.2
  by_cases c : sideOf sd ls = []
  · by_cases c1 : sideOf "slow" ls = []
    · by_cases c2 : sideOf "fast" ls = []
      · have hno : ∀ l ∈ ls, False := fun l hl => by
          have hw := (hsaid l hl).1
          rcases hw with e | e | e
          · have : l ∈ sideOf "slow" ls := mem_side.mpr ⟨hl, by rw [e]; decide +kernel⟩
            rw [c1] at this; cases this
          · have : l ∈ sideOf "slow" ls := mem_side.mpr ⟨hl, by rw [e]; decide +kernel⟩
            rw [c1] at this; cases this
          · have : l ∈ sideOf "fast" ls := mem_side.mpr ⟨hl, by rw [e]; decide +kernel⟩
            rw [c2] at this; cases this
        obtain ⟨h1, h2⟩ := mk (fun x => s0.2 + x / (w : Int) * (w : Int)) ⟨fun x y h => by
            have : x / (w : Int) * w ≤ y / (w : Int) * w := Int.mul_le_mul_of_nonneg_right (Int.ediv_le_ediv hL h) (by omega)
            show s0.2 + x / (w : Int) * w ≤ s0.2 + y / (w : Int) * w
            omega, fun x k => by
            show s0.2 + (x + k * (w : Int)) / (w : Int) * (w : Int) = s0.2 + x / (w : Int) * (w : Int) + k * (w : Int)
            rw [Int.add_mul_ediv_right _ _ (Int.ne_of_gt hL), Int.add_mul]; omega⟩ (fun l hl => (hno l hl).elim) (by simp; omega) (by simp; omega)
        exact ⟨_, h1, h2, fun h => absurd c h⟩
      · obtain ⟨h1, h2⟩ := two "fast" (.inr rfl) c2
        exact ⟨_, h1, h2, fun h => absurd c h⟩
    · obtain ⟨h1, h2⟩ := two "slow" (.inl rfl) c1
      exact ⟨_, h1, h2, fun h => absurd c h⟩
  · obtain ⟨h1, h2⟩ := two sd hs c
    exact ⟨_, h1, h2, fun _ y => tabOf_led hw (bst_hand hs hL c) y⟩
end KA
namespace KA
open PySem PySem.Spec PyProof.Rows L2 DP
/-! ### looks in order, each once -/
def leL (a b : Lk) : Bool := PySem.W.dataLe false encL a b
theorem leL_iff {a b : Lk} : leL a b = true ↔ (listOrd itemOrd).kle (PySem.W.keyToks (encL a)) (PySem.W.keyToks (encL b)) := by
  show (!PyProof.Rows.lexLt itemOrd (PySem.W.keyToks (encL b)) (PySem.W.keyToks (encL a))) = true ↔ PyProof.Rows.lexLt itemOrd (PySem.W.keyToks (encL b)) (PySem.W.keyToks (encL a)) = false
  cases PyProof.Rows.lexLt itemOrd (PySem.W.keyToks (encL b)) (PySem.W.keyToks (encL a)) <;> simp
theorem leL_trans (a b c : Lk) (h1 : leL a b = true) (h2 : leL b c = true) : leL a c = true := leL_iff.mpr (KeyOrd.kle_trans (leL_iff.mp h1) (leL_iff.mp h2))
theorem leL_total (a b : Lk) : (leL a b || leL b a) = true := by
  rw [Bool.or_eq_true]
  cases e : (listOrd itemOrd).blt (PySem.W.keyToks (encL b)) (PySem.W.keyToks (encL a)) with
  | false => exact .inl (leL_iff.mpr e)
  | true => exact .inr (leL_iff.mpr (KeyOrd.kle_of_klt (O := listOrd itemOrd) e))
theorem toks_inj {a b : Lk} (h : PySem.W.keyToks (encL a) = PySem.W.keyToks (encL b)) : a = b := by
  obtain ⟨⟨a1⟩, a2, a3⟩ := a
  obtain ⟨⟨b1⟩, b2, b3⟩ := b
  simp [encL, PySem.W.keyToks, PySem.W.keyToksAll] at h
  obtain ⟨h1, h2, h3⟩ := h
  rw [h1, h2, h3]
theorem leL_anti (a b : Lk) (h1 : leL a b = true) (h2 : leL b a = true) : a = b := toks_inj (KeyOrd.kle_antisymm (leL_iff.mp h1) (leL_iff.mp h2))
structure Canon (ms : List Lk) (S : Lk → Prop) : Prop where
  nd : ms.Nodup
  srt : ms.Pairwise (fun a b => leL a b = true)
  mem : ∀ o, o ∈ ms ↔ S o
theorem Canon.eq {ms ns : List Lk} {S S' : Lk → Prop} (a : Canon ms S) (b : Canon ns S') (h : ∀ o, S o ↔ S' o) : ms = ns :=
  List.Perm.eq_of_pairwise (fun x y _ _ h1 h2 => leL_anti x y h1 h2) a.srt b.srt ((List.perm_ext_iff_of_nodup a.nd b.nd).mpr fun o => (a.mem o).trans ((h o).trans (b.mem o).symm))
theorem Canon.iff {ms : List Lk} {S S' : Lk → Prop} (a : Canon ms S) (h : ∀ o, S o ↔ S' o) : Canon ms S' := ⟨a.nd, a.srt, fun o => (a.mem o).trans (h o)⟩
theorem canon_nil : Canon [] (fun _ => False) := ⟨.nil, .nil, fun o => by simp⟩
theorem canon_sort {ms : List Lk} (nd : ms.Nodup) : Canon (ms.mergeSort leL) (fun o => o ∈ ms) := ⟨(List.mergeSort_perm _ _).nodup_iff.mpr nd, List.pairwise_mergeSort leL_trans leL_total _, fun o => (List.mergeSort_perm _ _).mem_iff⟩
theorem heard_canon {L : Int} {hs : List Lk} {S : Lk → Prop} (c : Canon hs S) (l : Lk) : Canon (heard L hs l) (fun o => S o ∨ o = home L l) := by
  refine ⟨?_, ?_, fun o => ?_⟩
  · unfold heard
    split
    · exact c.nd
    · rename_i h
      exact (List.mergeSort_perm _ _).nodup_iff.mpr (List.nodup_append.mpr ⟨c.nd, List.pairwise_singleton _ _, fun a ha b hb e => h (by rw [List.mem_singleton] at hb; rw [← hb, ← e]; exact ha)⟩)
  · unfold heard
    split
    · exact c.srt
    · exact List.pairwise_mergeSort leL_trans leL_total _
  · rw [heard_mem, c.mem]
theorem fold_canon {L : Int} : ∀ (ls hs : List Lk) {S : Lk → Prop}, Canon hs S → Canon (ls.foldl (heard L) hs) (fun o => S o ∨ ∃ l ∈ ls, o = home L l)
  | [], hs, S, c => c.iff fun o => by simp
  | l :: ls, hs, S, c => (fold_canon ls _ (heard_canon c l)).iff fun o => by
    constructor
    · rintro ((h | h) | ⟨q, hq, h⟩)
      · exact .inl h
      · exact .inr ⟨l, List.mem_cons_self, h⟩
      · exact .inr ⟨q, List.mem_cons_of_mem _ hq, h⟩
    · rintro (h | ⟨q, hq, h⟩)
      · exact .inl (.inl h)
      · rcases List.mem_cons.mp hq with e | e
        · exact .inl (.inr (e ▸ h))
        · exact .inr ⟨q, e, h⟩
theorem fold0_canon (L : Int) (ls : List Lk) : Canon (ls.foldl (heard L) []) (fun o => ∃ l ∈ ls, o = home L l) := (fold_canon ls [] canon_nil).iff fun o => by simp
theorem filter_canon {hs : List Lk} {S : Lk → Prop} (c : Canon hs S) (q : Lk → Bool) : Canon (hs.filter q) (fun o => S o ∧ q o = true) := ⟨c.nd.filter _, c.srt.filter _, fun o => by rw [List.mem_filter, c.mem]⟩
/-! ### a set of looks, sorted -/
def keyL (l : Lk) : List Key := [.inr l.1, .inl l.2.1, .inl l.2.2]
theorem keyL_inj {a b : Lk} (h : keyL a = keyL b) : a = b := by
  obtain ⟨a1, a2, a3⟩ := a
  obtain ⟨b1, b2, b3⟩ := b
  simp [keyL] at h
  obtain ⟨h1, h2, h3⟩ := h
  rw [h1, h2, h3]
section
variable {K : PySem.W.Frag} {H : Hp}
theorem look_rows : ∀ {ls : List Lk} {xs : List V}, DpAll K H xs (ls.map encL) → ∃ ks : List (Addr × List Key), xs = ks.map (fun p => V.ref p.1) ∧ ks.map Prod.snd = ls.map keyL ∧ SD.Stand K H ks
  | [], xs, h => by
    have h' : DpAll K H xs [] := h
    cases h'
    exact ⟨[], rfl, rfl, fun p hp => by cases hp⟩
  | l :: ls, xs, h => by
    have h' : DpAll K H xs (encL l :: ls.map encL) := h
    cases h' with
    | cons h1 h2 =>
      obtain ⟨ks, e1, e2, st⟩ := look_rows h2
      obtain ⟨a, rfl, ha⟩ := dp_look h1
      refine ⟨(a, keyL l) :: ks, by rw [e1]; rfl, by rw [List.map_cons, e2]; rfl, fun p hp => ?_⟩
      rcases List.mem_cons.mp hp with e | e
      · rw [e]; exact ha
      · exact st p e
theorem rows_look : ∀ {ms : List Lk} {M : List (Addr × List Key)}, M.map Prod.snd = ms.map keyL → SD.Stand K H M → DpAll K H (M.map fun p => V.ref p.1) (ms.map encL)
  | [], [], _, _ => .nil
  | [], _ :: _, e, _ => by cases e
  | _ :: _, [], e, _ => by cases e
  | l :: ms, p :: M, e, st => by
    injection e with e1 e2
    have h1 := st p List.mem_cons_self
    rw [e1] at h1
    exact .cons (.tup h1 (.cons (.str _) (.cons (.int _) (.cons (.int _) .nil)))) (rows_look e2 fun q hq => st q (List.mem_cons_of_mem _ hq))
theorem keys_back : ∀ {ks : List (List Key)} {ls : List Lk}, (∀ k ∈ ks, ∃ l ∈ ls, k = keyL l) → ∃ ms : List Lk, ks = ms.map keyL ∧ ∀ m ∈ ms, m ∈ ls
  | [], _, _ => ⟨[], rfl, fun _ h => by cases h⟩
  | k :: ks, ls, h => by
    obtain ⟨l, hl, e⟩ := h k List.mem_cons_self
    obtain ⟨ms, e2, h2⟩ := keys_back (ks := ks) (ls := ls) fun q hq => h q (List.mem_cons_of_mem _ hq)
    refine ⟨l :: ms, by rw [e, e2]; rfl, fun m hm => ?_⟩
    rcases List.mem_cons.mp hm with z | z
    · rw [z]; exact hl
    · exact h2 m z
/-- sorted(set(looks)) -/
theorem set_sorted {P : Program} {w : World} {l : Addr} {xs : List V} {ls : List Lk} (hl : SqL K H l xs) (hd : DpAll K H xs (ls.map encL)) (hlen : ls.length < 64) {Q : VK}
    (q : ∀ p ys H' ms, Same H H' → H p = none → H' p = some (.lst ys) → DpAll K H' ys (ms.map encL) → Canon ms (fun o => o ∈ ls) → Q (.ref p) H') :
    SD.rSetD K P w [.ref l] H (fun v H' => SD.rSortSetD K P w [v] H' Q) := by
  obtain ⟨ks, e1, e2, st⟩ := look_rows hd
  have hkl : ks.length = ls.length := by rw [← List.length_map (f := Prod.snd), e2, List.length_map]
  subst e1
  refine ⟨l, ks, rfl, hl, st, by rw [hkl]; exact hlen, fun a M ha hM hall hone => ?_⟩
  have S1 := same_upd (o := SD.SetDO P w a M) ha
  have stM : SD.Stand K (upd H a (SD.SetDO P w a M)) M := SD.Stand.same (fun p hp => st p (hM p hp)) S1
  have inl : ∀ p ∈ M, ∃ l ∈ ls, p.2 = keyL l := fun p hp => by
    have h1 : p.2 ∈ ks.map Prod.snd := List.mem_map.mpr ⟨p, hM p hp, rfl⟩
    rw [e2] at h1
    obtain ⟨l, hl, e⟩ := List.mem_map.mp h1
    exact ⟨l, hl, e.symm⟩
  refine ⟨a, M, rfl, upd_same, stM, ⟨fun p hp p2 hp2 => ?_, fun p hp => ?_⟩, fun N p pm hp => ?_⟩
  · obtain ⟨l1, _, e1⟩ := inl p hp
    obtain ⟨l2, _, e2⟩ := inl p2 hp2
    unfold SD.encK
    rw [e1, e2]
    simp [keyL, SD.kD, PySem.W.alike, PySem.W.alikeAll]
  · obtain ⟨l1, _, e1⟩ := inl p hp
    rw [e1]; simp [keyL]
  · obtain ⟨ms, em, hms⟩ := keys_back (ks := N.map Prod.snd) (ls := ls) fun k hk => by
      obtain ⟨p, hp, e⟩ := List.mem_map.mp hk
      obtain ⟨l, hl, e2⟩ := inl p (pm.mem_iff.mp hp)
      exact ⟨l, hl, by rw [← e, e2]⟩
    have ndk : (ms.map keyL).Nodup := by rw [← em]; exact (pm.map Prod.snd).nodup_iff.mpr hone
    have nd : ms.Nodup := List.Pairwise.of_map keyL (fun _ _ hne e => hne (congrArg keyL e)) ndk
    have hsort : (N.mergeSort (PySem.W.dataLe false SD.encK)).map Prod.snd = (ms.mergeSort leL).map keyL := by
      rw [List.map_mergeSort (f := Prod.snd) (r := PySem.W.dataLe false SD.encK) (s := fun a b => PySem.W.dataLe false SD.encK (0, a) (0, b)) (fun a _ b _ => rfl), em]
      rw [List.map_mergeSort (f := keyL) (r := leL) (s := fun a b => PySem.W.dataLe false SD.encK (0, a) (0, b)) (fun a _ b _ => rfl)]
    have S2 := same_upd (o := HO.lst ((N.mergeSort (PySem.W.dataLe false SD.encK)).map fun q => V.ref q.1)) hp
    refine q p _ _ (ms.mergeSort leL) (S1.trans S2) (S1.free hp) upd_same (rows_look hsort (SD.Stand.same (fun r hr => stM r (pm.mem_iff.mp ((List.mergeSort_perm _ _).mem_iff.mp hr))) S2)) ((canon_sort nd).iff fun o => ⟨hms o, fun ho => ?_⟩)
    have h1 : keyL o ∈ ks.map Prod.snd := by rw [e2]; exact List.mem_map.mpr ⟨o, ho, rfl⟩
    obtain ⟨p2, hp2, e3⟩ := List.mem_map.mp h1
    have h2 := hall p2 hp2
    rw [e3, ← (pm.map Prod.snd).mem_iff, em] at h2
    obtain ⟨m, hm, e4⟩ := List.mem_map.mp h2
    rw [← keyL_inj e4]; exact hm
end
end KA
namespace KA
open PySem PySem.Spec PyProof.Rows L2 DP
/-! ### lists of tables -/
abbrev Ro := Addr × List Int
def RosAt (H : Hp) (es : List Ro) : Prop := ∀ e ∈ es, H e.1 = some (.lst (e.2.map V.int))
def adr (es : List Ro) : List Addr := es.map Prod.fst
def vals (es : List Ro) : List (List Int) := es.map Prod.snd
theorem RosAt.same {H H' : Hp} {es : List Ro} (h : RosAt H es) (S : Same H H') : RosAt H' es := fun e he => S _ _ (h e he)
structure Grown (H0 H : Hp) (D : Addr) (es : List Ro) : Prop where
  sm : Same H0 H
  gD : H D = some (.lst (refs (adr es)))
  ro : ∀ e ∈ es, H e.1 = some (.lst (e.2.map V.int)) ∧ H0 e.1 = none ∧ e.1 ≠ D
theorem Grown.nil {H : Hp} {D : Addr} (hD : H D = none) : Grown H (upd H D (.lst [])) D [] := ⟨same_upd hD, upd_same, fun _ z => by cases z⟩
theorem Grown.same {H0 H H' : Hp} {D : Addr} {es : List Ro} (G : Grown H0 H D es) (S : Same H H') : Grown H0 H' D es := ⟨G.sm.trans S, S _ _ G.gD, fun e he => ⟨S _ _ (G.ro e he).1, (G.ro e he).2⟩⟩
theorem Grown.add {H0 H : Hp} {D q : Addr} {es : List Ro} {r : List Int} (G : Grown H0 H D es) (hD : H0 D = none) (hq : H0 q = none) (gq : H q = some (.lst (r.map V.int))) (hqD : q ≠ D) : Grown H0 (upd H D (.lst (refs (adr es) ++ [.ref q]))) D (es ++ [(q, r)]) := by
  refine ⟨same_set G.sm hD, ?_, fun e he => ?_⟩
  · rw [upd_same]; simp [refs, adr]
  · rcases List.mem_append.mp he with h | h
    · exact ⟨(upd_ne (G.ro e h).2.2).trans (G.ro e h).1, (G.ro e h).2⟩
    · rw [List.mem_singleton] at h; subst h
      exact ⟨(upd_ne hqD).trans gq, hq, hqD⟩
/-- a list of them more, put behind -/
theorem Grown.app {H0 H H' : Hp} {D D2 : Addr} {es fs : List Ro} (G : Grown H0 H D es) (hD : H0 D = none) (F : Grown H H' D2 fs) : Grown H0 (upd H' D (.lst (refs (adr es) ++ refs (adr fs)))) D (es ++ fs) := by
  refine ⟨same_set (G.sm.trans F.sm) hD, ?_, fun e he => ?_⟩
  · rw [upd_same]; simp [refs, adr]
  · rcases List.mem_append.mp he with h | h
    · exact ⟨(upd_ne (G.ro e h).2.2).trans (F.sm _ _ (G.ro e h).1), (G.ro e h).2⟩
    · obtain ⟨a1, a2, a3⟩ := F.ro e h
      have hne : e.1 ≠ D := fun c => by rw [c, G.gD] at a2; cases a2
      exact ⟨(upd_ne hne).trans a1, G.sm.free a2, hne⟩
theorem Grown.ros {H0 H : Hp} {D : Addr} {es : List Ro} (G : Grown H0 H D es) : RosAt H es := fun e he => (G.ro e he).1
theorem adr_len (es : List Ro) : (refs (adr es)).length = es.length := by simp [refs, adr]
theorem adr_at {es : List Ro} {i : Nat} {y : V} (h : (refs (adr es))[i]? = some y) : ∃ e, es[i]? = some e ∧ y = .ref e.1 := by
  obtain ⟨q, hq, rfl⟩ := map_at h
  obtain ⟨e, he, rfl⟩ := map_at hq
  exact ⟨e, he, rfl⟩
theorem at_zero {r : List Int} (h : 0 < r.length) : atI (r.map V.int) 0 = some (.int (r.getD 0 0)) := at_of (j := 0) rfl (by rw [List.getElem?_map, List.getElem?_eq_getElem h, getD_at h]; rfl)
theorem at_row {r : List Int} {i : Int} (h0 : 0 ≤ i) (h : i < r.length) : atI (r.map V.int) i = some (.int (r.getD i.toNat 0)) := at_of (j := i.toNat) (by omega) (by rw [List.getElem?_map, List.getElem?_eq_getElem (by omega : i.toNat < r.length), getD_at (by omega)]; rfl)
theorem at_last {r : List Int} (h : 0 < r.length) : atI (r.map V.int) (-1) = some (.int (r.getLast?.getD 0)) := by
  obtain ⟨q, z, rfl⟩ := snoc_of (l := r) (fun e => by rw [e] at h; simp at h)
  rw [neg1]; simp
def spTables : Sp := fun vs H Q _ => ∃ (w : Nat) (a b : Int), vs = [.int w, .int a, .int b] ∧ 0 < w ∧ w ≤ 4 ∧ a.natAbs < 2 ^ 60 ∧ b.natAbs < 2 ^ 60 ∧ (b + 1 - a).toNat ≤ 20 ∧
  ∀ (H' : Hp) (p : Addr) (es : List Ro), Same H H' → H p = none → H' p = some (.lst (refs (adr es))) → RosAt H' es → vals es = tabs w a b (w - 1) → (∀ e ∈ es, H e.1 = none) → Q (.ref p) H'
def spLed (K : PySem.W.Frag) : Sp := fun vs H Q _ => ∃ (q : Addr) (r : List Int) (x : Int), vs = [.ref q, .int x] ∧ H q = some (.lst (r.map V.int)) ∧ 0 < r.length ∧ r.length ≤ 40 ∧ x.natAbs < 2 ^ 150 ∧ Q (.int (rowL r x)) H
def spIsSo (K : PySem.W.Frag) : Sp := fun vs H Q _ => ∃ (q : Addr) (v : V) (r : List Int) (l : Lk), vs = [.ref q, v] ∧ H q = some (.lst (r.map V.int)) ∧ 0 < r.length ∧ r.length ≤ 40 ∧ Dp K H v (encL l) ∧ l.2.1.natAbs < 2 ^ 150 ∧ Q (.bl (isSo r l)) H
section
variable {P : Program} {w : World} {K : PySem.W.Frag} {mg : Str → Option Value} {base : Heap} {Z : Ad}
theorem ok_law_tables (T : Tx K w mg Z) : FnOk P w K mg base CX0 1 Z.a_law_tables Z.d_law_tables P_law_tables (spTables) := by
  refine T.F_law_tables.ok sclaw_tables (fun vs H Q E h => ?_) (fun cdv A outer s H vs Q E hr h => ?_)
  · obtain ⟨w', a, b, rfl, _⟩ := h
    rfl
  · obtain ⟨n, a, b, rfl, hn0, hn4, ha, hb, hab, k⟩ := h
    refine ⟨_, (pss_cons (ps_setLc (i := 3) (own := [("worth", 4)]) (g := gName 4) (tt := tYes) rfl sclaw_tables.nd rfl rfl (sw_true rfl rfl rfl (by decide +kernel)) (pi_range2 (by rfl) T.b_range (pa_cons (pv 1) (pa_cons (pe_op op_add (pv 2) pe_int) pa_nil))) (blkOk_by (own := [("worth", 4)]) (N := N_law_tables) (sc := defScope slaw_tables) (by decide +kernel)) (fun _ _ _ _ _ => (pg_name (i := 4) sclaw_tables.nd rfl (Or.inl rfl))) (fun _ _ _ _ _ => pts_nil) (fun _ _ _ _ _ => (pe_lst (pa_cons (pv 4) pa_nil))))
      (pss_cons (ps_for PassesOwn.never rfl (pi_range2 (by rfl) T.b_range (pa_cons pe_int (pa_cons (pv 0) pa_nil))) (pg_name (i := 5) sclaw_tables.nd rfl (Or.inl rfl)) (pss_cons (ps_set (i := 6) sclaw_tables.nd rfl (Or.inl rfl) (pe_lst pa_nil))
      (pss_cons (ps_for PassesOwn.never rfl (pi_list (pv 3)) (pg_name (i := 7) sclaw_tables.nd rfl (Or.inr rfl)) (pss_one (ps_expr (pe_bm PySem.F.plainAttrs_list PySem.F.slot_list_extend PySem.F.type_list_extend mt_extend (pv 6) (pa_cons (pe_lc (own := [("worth", 4)]) (g := gName 4) (tt := tYes) rfl sclaw_tables.nd (pi_range2 (by rfl) T.b_range (pa_cons (pe_ix (ixL (K := K)) (pv 7) (pe_un un_neg pe_int) (fun _ _ => rfl)) (pa_cons (pe_op op_add (pe_op op_add (pe_ix (ixL (K := K)) (pv 7) pe_int (fun _ _ => rfl)) (pv 0)) pe_int) pa_nil))) (blkOk_by (own := [("worth", 4)]) (N := N_law_tables) (sc := defScope slaw_tables) (by decide +kernel)) (fun _ _ _ _ _ => (pg_name (i := 4) sclaw_tables.nd rfl (Or.inl rfl))) (fun _ _ _ _ _ => pts_nil) (fun _ _ _ _ _ => (pe_op op_cat (pv 7) (pe_lst (pa_cons (pv 4) pa_nil))))) pa_nil)))))
      (pss_one (ps_set (i := 3) sclaw_tables.nd rfl (Or.inl rfl) (pv 6))))))
      (pss_one (ps_ret (pv 3))))), ?_⟩
    have e60 : (2 : Nat) ^ 60 = 1152921504606846976 := by decide
    rw [e60] at ha hb
    refine ⟨_, rfl, _, rfl, _, _, rfl, rfl, a, b + 1, rfl, ⟨by omega, by omega, by omega, by omega⟩, fun D hD => ?_⟩
    refine lc_range (lo := a) (n := (b + 1 - a).toNat) (fun i H' => ∃ es : List Ro, Grown H H' D es ∧ vals es = ((List.range i).map fun (j : Nat) => a + (j : Int)).map fun z => [z]) ⟨[], Grown.nil hD, rfl⟩ ?_ ?_
    · rintro i H' hi ⟨es, G, hv⟩
      have hel : es.length = i := by have := congrArg List.length hv; simpa [vals] using this
      refine ⟨rfl, yes_ite ?_⟩
      refine ⟨_, rfl, (by show 1 ≤ sizeLine; decide), fun q hq => ?_⟩
      have Sq := same_upd (o := HO.lst [V.int (a + (i : Nat))]) hq
      have G2 := G.same Sq
      have gq : (upd H' q (HO.lst [V.int (a + (i : Nat))])) q = some (.lst (([a + (i : Nat)] : List Int).map V.int)) := upd_same
      have hqD : q ≠ D := fun e => by rw [e, G.gD] at hq; cases hq
      generalize upd H' q (HO.lst [V.int (a + (i : Nat))]) = H2 at G2 gq ⊢
      refine ⟨_, G2.gD, Nat.lt_of_lt_of_le (by rw [adr_len]; omega : _ < 1000) (by decide), es ++ [(q, [a + (i : Nat)])], G2.add hD (G.sm.free hq) gq hqD, ?_⟩
      unfold vals at hv ⊢
      rw [List.map_append, hv, List.range_succ, List.map_append, List.map_append]; rfl
    rintro H1 ⟨es, G, hv⟩
    refine ⟨_, rfl, 1, (n : Int), rfl, ⟨by decide, by decide, by omega, by omega⟩, ?_⟩
    refine for_range (lo := 1) (n := ((n : Int) - 1).toNat) (fun j σ' H' => ∃ (u4 u5 u6 u7 : Option V) (p : Addr) (es : List Ro), σ' = [some (.int n), some (.int a), some (.int b), some (.ref p), u4, u5, u6, u7] ∧ Same H H' ∧ H p = none ∧ H' p = some (.lst (refs (adr es))) ∧ RosAt H' es ∧ vals es = tabs n a b j ∧ ∀ e ∈ es, H e.1 = none) ⟨_, _, _, _, D, es, rfl, G.sm, hD, G.gD, G.ros, hv, fun e he => (G.ro e he).2.1⟩ ?_ ?_
    · rintro j σ' H2 hj ⟨u4, u5, u6, u7, p, es, rfl, S2, hp, gp, ro, hv, hfr⟩
      have hj3 : j < 3 := by omega
      have hel : es.length = (tabs n a b j).length := by rw [← hv]; simp [vals]
      have hes : es.length ≤ 2500 := by
        have h1 := tabs_len (w := (n : Int)) (a := a) (b := b) (by omega) j
        rw [← hel] at h1
        have h2 : ((n : Int).toNat + 1) ^ j ≤ 5 ^ j := Nat.pow_le_pow_left (by omega) j
        have h3 : 5 ^ j ≤ 5 ^ 3 := Nat.pow_le_pow_right (by decide) (by omega)
        exact Nat.le_trans h1 (Nat.le_trans (Nat.mul_le_mul hab (Nat.le_trans h2 h3)) (by decide))
      have hbg : ∀ e ∈ es, Begun n a b j e.2 := fun e he => (tabs_mem (by omega) j e.2).mp (by rw [← hv]; exact List.mem_map.mpr ⟨e, he, rfl⟩)
      refine ⟨(by show 0 ≤ sizeLine; decide), fun Lg hLg => ?_⟩
      have hpL : p ≠ Lg := ne_of_none gp hLg
      have G0 : Grown H2 (upd H2 Lg (.lst [])) Lg [] := Grown.nil hLg
      generalize upd H2 Lg (.lst []) = H3 at G0 ⊢
      refine ⟨_, rfl, p, rfl, ⟨_, SqL.of (G0.sm _ _ gp)⟩, ?_⟩
      refine for_list (K := K) (a := p) (xs := refs (adr es)) (fun i σ' H' => ∃ (u4 u7 : Option V) (fs : List Ro), σ' = [some (.int n), some (.int a), some (.int b), some (.ref p), u4, some (.int (1 + (j : Nat))), some (.ref Lg), u7] ∧ Grown H2 H' Lg fs ∧ vals fs = grow n ((vals es).take i)) ⟨_, _, [], rfl, G0, by rw [List.take_zero]; rfl⟩ (fun i σ' H' _ ⟨_, _, _, _, G, _⟩ => SqL.of (G.sm _ _ gp)) ?_ ?_
      · rintro i y σ' H4 hi ⟨u4', u7', fs, rfl, G, hvf⟩
        obtain ⟨e, he, rfl⟩ := adr_at hi
        have hem := List.mem_of_getElem? he
        have B := hbg e hem
        have hrl := B.len
        have ge := G.sm _ _ (ro e hem)
        have hfl : fs.length ≤ 12500 := by
          have h1 : fs.length = (grow n ((vals es).take i)).length := by rw [← hvf]; simp [vals]
          rw [h1]
          have h2 := flat_len (f := more (n : Int)) (c := 5) ((vals es).take i) fun r hr => by
            obtain ⟨e', he', rfl⟩ := List.mem_map.mp (List.mem_of_mem_take hr)
            exact Nat.le_trans (more_len (by omega) (hbg e' he')) (by omega)
          refine Nat.le_trans h2 ?_
          have h3 : ((vals es).take i).length ≤ 2500 := Nat.le_trans (List.length_take_le' _ _) (by simp [vals]; exact hes)
          exact Nat.le_trans (Nat.mul_le_mul_right 5 h3) (by decide)
        have hbl : (e.2.getLast?.getD 0).natAbs < 2 ^ 61 ∧ (e.2.getD 0 0 + n + 1).natAbs < 2 ^ 61 := by
          obtain ⟨l, el, hlm⟩ := last_mem (r := e.2) (by omega)
          rw [el]
          have h1 := B.near l hlm
          have h2 : e.2.getD 0 0 ≤ l := le_last B.up el _ (by rw [getD_at (by omega)]; exact List.getElem_mem _)
          have h3 := B.lo
          have h4 := B.hi
          have e61 : (2 : Nat) ^ 61 = 2305843009213693952 := by decide
          rw [e61]
          show l.natAbs < _ ∧ _
          omega
        have e61 : (2 : Nat) ^ 61 = 2305843009213693952 := by decide
        rw [e61] at hbl
        refine ⟨_, rfl, .inl ⟨rfl, _, SqL.of G.gD⟩, ?_⟩
        refine ⟨_, rfl, _, rfl, e.1, _, _, _, rfl, rfl, SqL.of ge, at_last (by omega), ?_⟩
        refine ⟨_, rfl, e.1, _, _, _, rfl, rfl, SqL.of ge, at_zero (by omega), _, rfl, _, _, rfl, rfl, _, _, rfl, rfl, ?_⟩
        refine ⟨e.2.getLast?.getD 0, e.2.getD 0 0 + n + 1, rfl, ⟨by omega, by omega, by omega, by omega⟩, fun D2 hD2 => ?_⟩
        refine lc_range (lo := e.2.getLast?.getD 0) (n := (e.2.getD 0 0 + n + 1 - e.2.getLast?.getD 0).toNat) (fun i2 H' => ∃ gs : List Ro, Grown H4 H' D2 gs ∧ vals gs = ((List.range i2).map fun (j : Nat) => e.2.getLast?.getD 0 + (j : Int)).map fun z => e.2 ++ [z]) ⟨[], Grown.nil hD2, rfl⟩ ?_ ?_
        · rintro i2 H5 hi2 ⟨gs, G5, hvg⟩
          have hgl : gs.length = i2 := by have := congrArg List.length hvg; simpa [vals] using this
          have hi5 : i2 < 5 := by
            have := more_len (w := (n : Int)) (by omega) B
            unfold more rng at this
            rw [List.length_map, List.length_map, List.length_range] at this
            omega
          refine ⟨rfl, yes_ite ?_⟩
          refine ⟨_, rfl, _, rfl, (by show 1 ≤ sizeLine; decide), fun q hq => ?_⟩
          have Sq := same_upd (o := HO.lst [V.int (e.2.getLast?.getD 0 + (i2 : Nat))]) hq
          have gq : (upd H5 q (HO.lst [V.int (e.2.getLast?.getD 0 + (i2 : Nat))])) q = some (.lst [V.int (e.2.getLast?.getD 0 + (i2 : Nat))]) := upd_same
          have G6 := G5.same Sq
          have ge6 := Sq _ _ (G5.sm _ _ ge)
          generalize upd H5 q (HO.lst [V.int (e.2.getLast?.getD 0 + (i2 : Nat))]) = H6 at G6 gq ge6 ⊢
          refine ⟨e.1, q, _, _, rfl, rfl, ge6, gq, ?_, fun c hc => ?_⟩
          · refine Nat.le_trans (?_ : _ ≤ 1000) (by decide)
            rw [List.length_map, hrl]; simp; omega
          have Sc := same_upd (o := HO.lst (e.2.map V.int ++ [V.int (e.2.getLast?.getD 0 + (i2 : Nat))])) hc
          have gc : (upd H6 c (HO.lst (e.2.map V.int ++ [V.int (e.2.getLast?.getD 0 + (i2 : Nat))]))) c = some (.lst ((e.2 ++ [e.2.getLast?.getD 0 + (i2 : Nat)]).map V.int)) := by rw [List.map_append]; exact upd_same
          have hcD : c ≠ D2 := fun z => by rw [z, G6.gD] at hc; cases hc
          have G7 := G6.same Sc
          generalize upd H6 c (HO.lst (e.2.map V.int ++ [V.int (e.2.getLast?.getD 0 + (i2 : Nat))])) = H7 at G7 gc ⊢
          refine ⟨_, G7.gD, Nat.lt_of_lt_of_le (by rw [adr_len]; omega : _ < 1000) (by decide), gs ++ [(c, e.2 ++ [e.2.getLast?.getD 0 + (i2 : Nat)])], G7.add hD2 (G6.sm.free hc) gc hcD, ?_⟩
          unfold vals at hvg ⊢
          rw [List.map_append, hvg, List.range_succ, List.map_append, List.map_append]; rfl
        rintro H5 ⟨gs, G5, hvg⟩
        have hvg' : vals gs = more n e.2 := hvg
        have hgl : gs.length ≤ 5 := by
          have h1 : gs.length = (more n e.2).length := by rw [← hvg']; simp [vals]
          rw [h1]
          exact Nat.le_trans (more_len (by omega) B) (by omega)
        refine ⟨Lg, D2, _, _, rfl, rfl, G5.sm _ _ G.gD, G5.gD, Nat.le_trans (by rw [adr_len, adr_len]; omega : _ ≤ 20000) (by decide), ?_⟩
        refine ⟨_, _, fs ++ gs, rfl, G.app hLg G5, ?_⟩
        have hvi : (vals es)[i]? = some e.2 := by unfold vals; rw [List.getElem?_map, he]; rfl
        rw [take_snoc hvi, grow_snoc, ← hvf, ← hvg']
        unfold vals; rw [List.map_append]
      · rintro σ' H4 ⟨u4', u7', fs, rfl, G, hvf⟩
        rw [adr_len, List.take_of_length_le (by simp [vals]), hv] at hvf
        refine ⟨_, rfl, _, _, _, _, Lg, fs, rfl, S2.trans G.sm, S2.free hLg, G.gD, G.ros, hvf, fun e he => S2.free (G.ro e he).2.1⟩
    · rintro σ' H2 ⟨u4, u5, u6, u7, p, es, rfl, S2, hp, gp, ro, hv, hfr⟩
      have e : ((n : Int) - 1).toNat = n - 1 := by omega
      rw [e] at hv
      exact ⟨_, rfl, k H2 p es S2 hp gp ro hv hfr⟩
theorem ok_law_led (T : Tx K w mg Z) : FnOk P w K mg base CX0 1 Z.a_law_led Z.d_law_led P_law_led (spLed K) := by
  refine T.F_law_led.ok sclaw_led (fun vs H Q E h => ?_) (fun cdv A outer s H vs Q E hr h => ?_)
  · obtain ⟨q, r, x, rfl, _⟩ := h
    rfl
  · obtain ⟨q, r, x, rfl, hq, h0, h40, hx, k⟩ := h
    refine ⟨_, (pss_one (ps_ret (pe_op op_add (pe_ix (ixL (K := K)) (pv 0) (pe_op op_mod (pv 1) (pe_callB (lenK (K := K)) (by rfl) T.b_len (by decide +kernel) (pa_cons (pv 0) pa_nil))) (fun _ _ => rfl)) (pe_op op_mulW (pe_op op_fdivW (pv 1) (pe_callB (lenK (K := K)) (by rfl) T.b_len (by decide +kernel) (pa_cons (pv 0) pa_nil))) (pe_callB (lenK (K := K)) (by rfl) T.b_len (by decide +kernel) (pa_cons (pv 0) pa_nil)))))), ?_⟩
    have hl : ((r.map V.int).length : Int) = (r.length : Int) := by rw [List.length_map]
    have hl0 : (0 : Int) < ((r.map V.int).length : Int) := by rw [hl]; omega
    have hlb : ((r.map V.int).length : Int).natAbs < 2 ^ 10 := by rw [hl]; exact Nat.lt_of_le_of_lt (by omega : _ ≤ 40) (by decide)
    have m0 := Int.emod_nonneg x (Int.ne_of_gt hl0)
    have m1 := Int.emod_lt_of_pos x hl0
    have hd : (x / ((r.map V.int).length : Int)).natAbs < 2 ^ 151 := Nat.lt_of_le_of_lt (Int.natAbs_ediv_le_natAbs _ _) (lt_up hx (by decide))
    refine ⟨_, rfl, _, rfl, _, rfl, q, _, rfl, .inl (SqL.of hq), _, _, rfl, rfl, hl0, q, _, _, _, rfl, rfl, SqL.of hq, at_row m0 (by rw [← hl]; exact m1), ?_⟩
    refine ⟨_, rfl, _, rfl, q, _, rfl, .inl (SqL.of hq), _, _, rfl, rfl, wide_div hl0 hlb (by decide) (by decide), ?_⟩
    refine ⟨_, rfl, q, _, rfl, .inl (SqL.of hq), _, _, rfl, rfl, wide_mul hd hlb (by decide) (by decide) (by decide), _, _, rfl, rfl, ?_⟩
    unfold rowL at k
    rw [← hl] at k
    exact k
theorem ok_law_is_so (T : Tx K w mg Z) : FnOk P w K mg base CX0 2 Z.a_law_is_so Z.d_law_is_so P_law_is_so (spIsSo K) := by
  refine T.F_law_is_so.ok sclaw_is_so (fun vs H Q E h => ?_) (fun cdv A outer s H vs Q E hr h => ?_)
  · obtain ⟨q, v, r, l, rfl, _⟩ := h
    rfl
  · obtain ⟨q, v, r, l, rfl, hq, h0, h40, hv, hx, k⟩ := h
    refine ⟨_, (pss_cons (ps_asg (pv 1) (tupK (K := K) (by rfl) (pgs_cons (pg_name (i := 2) sclaw_is_so.nd rfl (Or.inl rfl)) (pgs_cons (pg_name (i := 3) sclaw_is_so.nd rfl (Or.inl rfl)) (pgs_cons (pg_name (i := 4) sclaw_is_so.nd rfl (Or.inl rfl)) pgs_nil)))))
      (C8.pss_cut (ps_if (pt_cmpR op_eq (pv 2) pe_str (nomark _)) (pss_one (ps_ret (pe_cmpR op_ge (pe_call (ok_law_led T) (hr.mono (by decide)) (by rfl) T.g_law_led T.F_law_led.kp T.bb_law_led .nil pass0 (pa_cons (pv 0) (pa_cons (pv 3) pa_nil))) (pv 4) (nomark _)))) pss_nil)
      (pss_one (ps_ret (pe_ifExp (pt_cmpR op_eq (pv 2) pe_str (nomark _)) (pe_cmpR op_le (pe_call (ok_law_led T) (hr.mono (by decide)) (by rfl) T.g_law_led T.F_law_led.kp T.bb_law_led .nil pass0 (pa_cons (pv 0) (pa_cons (pv 3) pa_nil))) (pv 4) (nomark _)) (pe_cmpR op_eq (pe_call (ok_law_led T) (hr.mono (by decide)) (by rfl) T.g_law_led T.F_law_led.kp T.bb_law_led .nil pass0 (pa_cons (pv 0) (pa_cons (pv 3) pa_nil))) (pv 4) (nomark _))))))), ?_⟩
    obtain ⟨p, rfl, hp⟩ := dp_look hv
    refine ⟨_, rfl, p, _, rfl, hp, rfl, _, _, rfl, _, _, rfl, _, _, rfl, rfl, ?_⟩
    unfold isSo at k
    refine ⟨fun σ' H' => σ' = [some (.ref q), some (.ref p), some (.str l.1), some (.int l.2.1), some (.int l.2.2)] ∧ H' = H ∧ ¬ l.1 = "from", ?_, ?_⟩
    · refine ⟨_, rfl, rfl, _, rfl, ite2 (fun c => ?_) (fun c => ⟨rfl, rfl, ?_⟩)⟩
      · have c1 : l.1 = "from" := by simpa using c
        rw [if_pos c1] at k
        exact ⟨_, rfl, _, rfl, q, r, _, rfl, hq, h0, h40, hx, _, rfl, _, _, rfl, rfl, k⟩
      · exact fun e => c (by simpa using e)
    rintro σ1 H1 ⟨rfl, rfl, c1⟩
    rw [if_neg c1] at k
    refine ⟨_, rfl, rfl, _, rfl, ?_⟩
    by_cases c2 : l.1 = "upto"
    · rw [if_pos c2] at k
      refine ite2 (fun c => ?_) (fun c => absurd (by simpa using c2) c)
      exact ⟨_, rfl, _, rfl, q, r, _, rfl, hq, h0, h40, hx, _, rfl, _, _, rfl, rfl, k⟩
    · rw [if_neg c2] at k
      refine ite2 (fun c => absurd (by simpa using c) c2) (fun c => ?_)
      exact ⟨_, rfl, _, rfl, q, r, _, rfl, hq, h0, h40, hx, _, rfl, rfl, by
        show Q (V.bl (decide (V.int (rowL r l.2.1) = V.int l.2.2))) H1
        rw [show decide (V.int (rowL r l.2.1) = V.int l.2.2) = decide (rowL r l.2.1 = l.2.2) by simp]
        exact k⟩
end
end KA
namespace KA
open PySem PySem.Spec PyProof.Rows L2 DP
/-! ### rounds of tables, by the program -/
def RowOk (r : List Int) : Prop := 0 < r.length ∧ r.length ≤ 40 ∧ ∀ z ∈ r, z.natAbs < 2 ^ 70
theorem rowL_near {r : List Int} (h : RowOk r) (x : Int) : (rowL r x).natAbs ≤ x.natAbs + 2 ^ 71 := by
  obtain ⟨h0, h1, h2⟩ := h
  have hl : (0 : Int) < (r.length : Int) := by omega
  have m0 := Int.emod_nonneg x (Int.ne_of_gt hl)
  have m1 := Int.emod_lt_of_pos x hl
  have m2 := Int.mul_ediv_add_emod x r.length
  rw [Int.mul_comm] at m2
  have hi : (x % (r.length : Int)).toNat < r.length := by omega
  have h3 := h2 _ (List.getElem_mem hi)
  unfold rowL
  rw [getD_at hi]
  have p1 : (2 : Nat) ^ 71 = 2 * 2 ^ 70 := by decide
  have p2 : 100 ≤ (2 : Nat) ^ 70 := by decide
  rw [p1]
  generalize (2 : Nat) ^ 70 = B at h3 p2 ⊢
  generalize x / (r.length : Int) * r.length = c at m2 ⊢
  generalize r[(x % (r.length : Int)).toNat] = d at h3 ⊢
  omega
theorem gone_near {rs : List (List Int)} {ks : List Int} (h0 : 0 < ks.length) (h : ∀ k ∈ ks, RowOk (pickR rs k)) (x : Int) : ∀ n, (goneR rs ks x n).natAbs ≤ x.natAbs + n * 2 ^ 71
  | 0 => by show x.natAbs ≤ _; omega
  | n + 1 => by
    have ih := gone_near h0 h x n
    have h1 := rowL_near (h _ (getD_mem (Nat.mod_lt n h0))) (goneR rs ks x n)
    show (rowL (pickR rs (ks.getD (n % ks.length) 0)) (goneR rs ks x n)).natAbs ≤ _
    rw [Nat.add_mul, Nat.one_mul, ← Nat.add_assoc]
    exact Nat.le_trans h1 (Nat.add_le_add_right ih _)
theorem gone_big {rs : List (List Int)} {ks : List Int} (h0 : 0 < ks.length) (h : ∀ k ∈ ks, RowOk (pickR rs k)) {x : Int} (hx : x.natAbs < 2 ^ 70) {n : Nat} (hn : n ≤ 100) : (goneR rs ks x n).natAbs < 2 ^ 150 := by
  have h1 := gone_near h0 h x n
  have h2 : n * 2 ^ 71 ≤ 100 * 2 ^ 71 := Nat.mul_le_mul_right _ hn
  exact Nat.lt_of_le_of_lt (Nat.le_trans h1 (Nat.add_le_add (Nat.le_of_lt hx) h2)) (by decide +kernel)
theorem pick_vals {es : List Ro} {k : Int} (h : k.toNat < es.length) : ∃ e, e ∈ es ∧ es[k.toNat]? = some e ∧ pickR (vals es) k = e.2 := by
  refine ⟨es[k.toNat], List.getElem_mem h, List.getElem?_eq_getElem h, ?_⟩
  unfold pickR vals
  rw [List.getD_eq_getElem?_getD, List.getElem?_map, List.getElem?_eq_getElem h]; rfl
abbrev Ch := Addr × (Ro × Ro)
def chRef (c : Ch) : List V := [.ref c.2.1.1, .ref c.2.2.1]
def chRows (c : Ch) : List (List Int) := [c.2.1.2, c.2.2.2]
def ChAt (H : Hp) (c : Ch) : Prop := H c.1 = some (.lst (chRef c)) ∧ H c.2.1.1 = some (.lst (c.2.1.2.map V.int)) ∧ H c.2.2.1 = some (.lst (c.2.2.2.map V.int))
theorem ChAt.same {H H' : Hp} {c : Ch} (h : ChAt H c) (S : Same H H') : ChAt H' c := ⟨S _ _ h.1, S _ _ h.2.1, S _ _ h.2.2⟩
def cadr (cs : List Ch) : List Addr := cs.map Prod.fst
theorem cadr_len (cs : List Ch) : (refs (cadr cs)).length = cs.length := by simp [refs, cadr]
theorem cadr_at {es : List Ch} {i : Nat} {y : V} (h : (refs (cadr es))[i]? = some y) : ∃ e, es[i]? = some e ∧ y = .ref e.1 := by
  obtain ⟨q, hq, rfl⟩ := map_at h
  obtain ⟨e, he, rfl⟩ := map_at hq
  exact ⟨e, he, rfl⟩
structure GrownC (H0 H : Hp) (D : Addr) (es : List Ch) : Prop where
  sm : Same H0 H
  gD : H D = some (.lst (refs (cadr es)))
  ro : ∀ e ∈ es, H e.1 = some (.lst (chRef e)) ∧ H0 e.1 = none ∧ e.1 ≠ D
theorem GrownC.nil {H : Hp} {D : Addr} (hD : H D = none) : GrownC H (upd H D (.lst [])) D [] := ⟨same_upd hD, upd_same, fun _ z => by cases z⟩
theorem GrownC.same {H0 H H' : Hp} {D : Addr} {es : List Ch} (G : GrownC H0 H D es) (S : Same H H') : GrownC H0 H' D es := ⟨G.sm.trans S, S _ _ G.gD, fun e he => ⟨S _ _ (G.ro e he).1, (G.ro e he).2⟩⟩
theorem GrownC.add {H0 H : Hp} {D : Addr} {es : List Ch} {c : Ch} (G : GrownC H0 H D es) (hD : H0 D = none) (hq : H0 c.1 = none) (gq : H c.1 = some (.lst (chRef c))) (hqD : c.1 ≠ D) : GrownC H0 (upd H D (.lst (refs (cadr es) ++ [.ref c.1]))) D (es ++ [c]) := by
  refine ⟨same_set G.sm hD, ?_, fun e he => ?_⟩
  · rw [upd_same]; simp [refs, cadr]
  · rcases List.mem_append.mp he with h | h
    · exact ⟨(upd_ne (G.ro e h).2.2).trans (G.ro e h).1, (G.ro e h).2⟩
    · rw [List.mem_singleton] at h; subst h
      exact ⟨(upd_ne hqD).trans gq, hq, hqD⟩
theorem GrownC.app {H0 H H' : Hp} {D D2 : Addr} {es fs : List Ch} (G : GrownC H0 H D es) (hD : H0 D = none) (F : GrownC H H' D2 fs) : GrownC H0 (upd H' D (.lst (refs (cadr es) ++ refs (cadr fs)))) D (es ++ fs) := by
  refine ⟨same_set (G.sm.trans F.sm) hD, ?_, fun e he => ?_⟩
  · rw [upd_same]; simp [refs, cadr]
  · rcases List.mem_append.mp he with h | h
    · exact ⟨(upd_ne (G.ro e h).2.2).trans (F.sm _ _ (G.ro e h).1), (G.ro e h).2⟩
    · obtain ⟨a1, a2, a3⟩ := F.ro e h
      have hne : e.1 ≠ D := fun c => by rw [c, G.gD] at a2; cases a2
      exact ⟨(upd_ne hne).trans a1, G.sm.free a2, hne⟩
/-- all choices -/
def pairsOf (ks : List Int) (es fs : List Ro) : List (Ro × Ro) := if (1 : Int) ∈ ks then es.flatMap fun e => fs.map fun f => (e, f) else es.map fun e => (e, e)
theorem inV_int (z : Int) (ks : List Int) : inV (V.int z) (ks.map V.int) = decide (z ∈ ks) := by
  unfold inV
  induction ks with
  | nil => rfl
  | cons a r ih =>
    rw [List.map_cons, List.any_cons, ih]
    by_cases c : z = a
    · subst c; simp [eqV]
    · have : ¬ a = z := fun e => c e.symm
      simp [eqV, c, this]
theorem flat_ints (ks : List Int) : (ks.map V.int).all flatV = true := List.all_eq_true.mpr fun v hv => by
  obtain ⟨z, _, rfl⟩ := List.mem_map.mp hv
  rfl
def spGone (K : PySem.W.Frag) : Sp := fun vs H Q _ => ∃ (p lp : Addr) (es : List Ro) (ks : List Int) (x n : Int), vs = [.ref p, .ref lp, .int x, .int n] ∧ H p = some (.lst (refs (adr es))) ∧ RosAt H es ∧ H lp = some (.lst (ks.map V.int)) ∧ 0 < ks.length ∧ (∀ k ∈ ks, 0 ≤ k ∧ k.toNat < es.length ∧ RowOk (pickR (vals es) k)) ∧ ks.length ≤ 100 ∧ x.natAbs < 2 ^ 70 ∧ 0 ≤ n ∧ n ≤ 100 ∧ Q (.int (goneR (vals es) ks x n.toNat)) H
def spPairs (K : PySem.W.Frag) : Sp := fun vs H Q _ => ∃ (ev lp p0 p1 : Addr) (es fs : List Ro) (ks : List Int), vs = [.ref ev, .ref lp] ∧ H ev = some (.lst [.ref p0, .ref p1]) ∧ H p0 = some (.lst (refs (adr es))) ∧ H p1 = some (.lst (refs (adr fs))) ∧ H lp = some (.lst (ks.map V.int)) ∧ es.length ≤ 3000 ∧ fs.length ≤ 3000 ∧ ((1 : Int) ∈ ks → es.length * fs.length ≤ 1000000) ∧
  ∀ (H' : Hp) (p : Addr) (cs : List Ch), Same H H' → H p = none → H' p = some (.lst (refs (cadr cs))) → (∀ c ∈ cs, H' c.1 = some (.lst (chRef c)) ∧ H c.1 = none) → cs.map Prod.snd = pairsOf ks es fs → Q (.ref p) H'
def sdOf (b : Bool) : Str := if b then "slow" else "fast"
def barOf (b : Bool) : Str := if b then "upto" else "from"
theorem bar_side {b : Bool} {x : Str} (h : WordOk x) : onSide (sdOf b) x = true ↔ ¬ x = barOf b := by
  rcases h with e | e | e <;> subst e <;> cases b
  · exact ⟨fun _ => w_af, fun _ => by decide +kernel⟩
  · exact ⟨fun _ => w_au, fun _ => by decide +kernel⟩
  · exact ⟨fun h => absurd h (by decide +kernel), fun h => absurd rfl h⟩
  · exact ⟨fun _ => w_fu, fun _ => by decide +kernel⟩
  · exact ⟨fun _ => w_uf, fun _ => by decide +kernel⟩
  · exact ⟨fun h => absurd h (by decide +kernel), fun h => absurd rfl h⟩
theorem at_intsT {hs : List Int} {i : Nat} {y : V} (h : (hs.map V.int)[i]? = some y) : ∃ z, hs[i]? = some z ∧ y = V.int z := by
  rw [List.getElem?_map] at h
  cases c : hs[i]? with
  | none => rw [c] at h; cases h
  | some z => rw [c] at h; exact ⟨z, rfl, (Option.some.inj h).symm⟩
def spDue (K : PySem.W.Frag) : Sp := fun vs H Q _ => ∃ (cp Lp lp : Addr) (cs : List Ch) (as : List Addr) (lots : List (List Lk)) (ks : List Int) (x n : Int) (b : Bool), vs = [.ref cp, .ref Lp, .ref lp, .int x, .int n, .bl b] ∧ H cp = some (.lst (refs (cadr cs))) ∧ (∀ c ∈ cs, ChAt H c) ∧ H Lp = some (.lst (refs as)) ∧ Lots K H as lots ∧ (∀ ls ∈ lots, ∀ l ∈ ls, WordOk l.1) ∧ (∀ ls ∈ lots, ls.length ≤ 100) ∧ H lp = some (.lst (ks.map V.int)) ∧ 0 < ks.length ∧ ks.length ≤ 100 ∧ (∀ k ∈ ks, 0 ≤ k ∧ k.toNat < 2 ∧ k.toNat < lots.length) ∧ (∀ c ∈ cs, ∀ k ∈ ks, RowOk (pickR (chRows c) k)) ∧ 0 < cs.length ∧ cs.length ≤ 1000000 ∧ x.natAbs < 2 ^ 70 ∧ 0 ≤ n ∧ n ≤ 100 ∧
  ∀ (H' : Hp) (d : Option Int), Same H H' → DueIs (sdOf b) (cs.map chRows) lots ks x n.toNat d → Q (oV d) H'
section
variable {P : Program} {w : World} {K : PySem.W.Frag} {mg : Str → Option Value} {base : Heap} {Z : Ad}
theorem ok_law_gone (T : Tx K w mg Z) : FnOk P w K mg base CX0 2 Z.a_law_gone Z.d_law_gone P_law_gone (spGone K) := by
  refine T.F_law_gone.ok sclaw_gone (fun vs H Q E h => ?_) (fun cdv A outer s H vs Q E hr h => ?_)
  · obtain ⟨p, lp, es, ks, x, n, rfl, _⟩ := h
    rfl
  · obtain ⟨p, lp, es, ks, x, n, rfl, gp, ro, gl, h0, hk, h100, hx, hn0, hn, k⟩ := h
    refine ⟨_, (pss_cons (ps_for PassesOwn.never rfl (pi_range1 (by rfl) T.b_range (pa_cons (pv 3) pa_nil)) (pg_name (i := 4) sclaw_gone.nd rfl (Or.inl rfl)) (pss_one (ps_set (i := 2) sclaw_gone.nd rfl (Or.inl rfl) (pe_call (ok_law_led T) (hr.mono (by decide)) (by rfl) T.g_law_led T.F_law_led.kp T.bb_law_led .nil pass0 (pa_cons (pe_ix (ixL (K := K)) (pv 0) (pe_ix (ixL (K := K)) (pv 1) (pe_op op_mod (pv 4) (pe_callB (lenK (K := K)) (by rfl) T.b_len (by decide +kernel) (pa_cons (pv 1) pa_nil))) (fun _ _ => rfl)) (fun _ _ => rfl)) (pa_cons (pv 2) pa_nil))))))
      (pss_one (ps_ret (pv 2)))), ?_⟩
    refine ⟨_, rfl, n, rfl, by omega, by omega, ?_⟩
    refine for_range (lo := 0) (n := n.toNat) (fun i σ' H' => ∃ u4, σ' = [some (.ref p), some (.ref lp), some (.int (goneR (vals es) ks x i)), some (.int n), u4] ∧ H' = H) ⟨_, rfl, rfl⟩ ?_ ?_
    · rintro i σ' H' hi ⟨u4, rfl, rfl⟩
      have hlk : (((ks.map V.int).length : Nat) : Int) = (ks.length : Int) := by rw [List.length_map]
      have e0 : ((0 : Int) + (i : Nat)) % ((ks.map V.int).length : Int) = ((i % ks.length : Nat) : Int) := by rw [hlk, Int.zero_add]; rfl
      have him := Nat.mod_lt i h0
      obtain ⟨k0, k1, k2⟩ := hk _ (getD_mem him)
      obtain ⟨e, hem, hee, ep⟩ := pick_vals k1
      refine ⟨_, rfl, _, rfl, _, rfl, _, rfl, lp, _, rfl, .inl (SqL.of gl), _, _, rfl, rfl, by show (0 : Int) < ((ks.map V.int).length : Int); rw [hlk]; omega, lp, _, _, _, rfl, rfl, SqL.of gl, by rw [e0]; exact at_row (r := ks) (by omega) (by omega), ?_⟩
      have e1 : (((i % ks.length : Nat) : Int)).toNat = i % ks.length := Int.toNat_natCast _
      rw [e1]
      refine ⟨p, _, _, .ref e.1, rfl, rfl, SqL.of gp, at_of (j := (ks.getD (i % ks.length) 0).toNat) (by omega) (by unfold refs adr; rw [List.getElem?_map, List.getElem?_map, hee]; rfl), _, rfl, ?_⟩
      rw [ep] at k2
      refine ⟨e.1, e.2, _, rfl, ro e hem, k2.1, k2.2.1, gone_big h0 (fun k hkm => (hk k hkm).2.2) hx (by omega), ?_⟩
      rw [← ep]
      exact ⟨_, rfl, rfl⟩
    · rintro σ' H' ⟨u4, rfl, rfl⟩
      exact ⟨_, rfl, k⟩
theorem ok_law_pairs (T : Tx K w mg Z) : FnOk P w K mg base CX0 1 Z.a_law_pairs Z.d_law_pairs P_law_pairs (spPairs K) := by
  refine T.F_law_pairs.ok sclaw_pairs (fun vs H Q E h => ?_) (fun cdv A outer s H vs Q E hr h => ?_)
  · obtain ⟨ev, lp, p0, p1, es, fs, ks, rfl, _⟩ := h
    rfl
  · obtain ⟨ev, lp, p0, p1, es, fs, ks, rfl, gev, g0, g1, gl, he, hf, hef, k⟩ := h
    refine ⟨_, (C8.pss_cut (ps_if (pt_cmpR (notInS (K := K)) pe_int (pv 1) (by rfl)) (pss_one (ps_ret (pe_lc (own := [("row", 2)]) (g := gName 2) (tt := tYes) rfl sclaw_pairs.nd (pi_list (pe_ix (ixL (K := K)) (pv 0) pe_int (fun _ _ => rfl))) (blkOk_by (own := [("row", 2)]) (N := N_law_pairs) (sc := defScope slaw_pairs) (by decide +kernel)) (fun _ _ _ _ _ => (pg_name (i := 2) sclaw_pairs.nd rfl (Or.inl rfl))) (fun _ _ _ _ _ => pts_nil) (fun _ _ _ _ _ => (pe_lst (pa_cons (pv 2) (pa_cons (pv 2) pa_nil))))))) pss_nil)
      (pss_cons (ps_set (i := 3) sclaw_pairs.nd rfl (Or.inl rfl) (pe_lst pa_nil))
      (pss_cons (ps_for PassesOwn.never rfl (pi_list (pe_ix (ixL (K := K)) (pv 0) pe_int (fun _ _ => rfl))) (pg_name (i := 2) sclaw_pairs.nd rfl (Or.inr rfl)) (pss_one (ps_expr (pe_bm PySem.F.plainAttrs_list PySem.F.slot_list_extend PySem.F.type_list_extend mt_extend (pv 3) (pa_cons (pe_lc (own := [("other", 4)]) (g := gName 4) (tt := tYes) rfl sclaw_pairs.nd (pi_list (pe_ix (ixL (K := K)) (pv 0) pe_int (fun _ _ => rfl))) (blkOk_by (own := [("other", 4)]) (N := N_law_pairs) (sc := defScope slaw_pairs) (by decide +kernel)) (fun _ _ _ _ _ => (pg_name (i := 4) sclaw_pairs.nd rfl (Or.inl rfl))) (fun _ _ _ _ _ => pts_nil) (fun _ _ _ _ _ => (pe_lst (pa_cons (pv 2) (pa_cons (pv 4) pa_nil))))) pa_nil)))))
      (pss_one (ps_ret (pv 3)))))), ?_⟩
    by_cases c1 : (1 : Int) ∈ ks
    · refine ⟨fun σ' H' => σ' = [some (.ref ev), some (.ref lp), none, none, none] ∧ H' = H, ?_, ?_⟩
      · refine ⟨_, rfl, lp, _, rfl, .inl (SqL.of gl), rfl, flat_ints ks, _, rfl, ?_⟩
        rw [inV_int, decide_eq_true c1]
        exact iteF ⟨rfl, rfl⟩
      rintro σ1 H1 ⟨rfl, rfl⟩
      refine ⟨(by show 0 ≤ sizeLine; decide), fun Lg hLg => ?_⟩
      have G0 : GrownC H1 (upd H1 Lg (.lst [])) Lg [] := GrownC.nil hLg
      generalize upd H1 Lg (.lst []) = H2 at G0 ⊢
      refine ⟨_, rfl, ev, _, _, _, rfl, rfl, SqL.of (G0.sm _ _ gev), rfl, p0, rfl, ⟨_, SqL.of (G0.sm _ _ g0)⟩, ?_⟩
      refine for_list (K := K) (a := p0) (xs := refs (adr es)) (fun i σ' H' => ∃ (u2 u4 : Option V) (cs : List Ch), σ' = [some (.ref ev), some (.ref lp), u2, some (.ref Lg), u4] ∧ GrownC H1 H' Lg cs ∧ cs.map Prod.snd = (es.take i).flatMap fun e => fs.map fun f => (e, f)) ⟨_, _, [], rfl, G0, by rw [List.take_zero]; rfl⟩ (fun i σ' H' _ ⟨_, _, _, _, G, _⟩ => SqL.of (G.sm _ _ g0)) ?_ ?_
      · rintro i y σ' H3 hi ⟨u2, u4, cs, rfl, G, hv⟩
        obtain ⟨e, hee, rfl⟩ := adr_at hi
        have hil := (List.getElem?_eq_some_iff.mp hee).1
        have hcl : cs.length ≤ i * fs.length := by
          have h1 := flat_len (f := fun e : Ro => fs.map fun f => (e, f)) (c := fs.length) (es.take i) fun x _ => by rw [List.length_map]; exact Nat.le_refl _
          rw [← hv, List.length_map] at h1
          exact Nat.le_trans h1 (Nat.mul_le_mul_right _ (List.length_take_le _ _))
        have hcl2 : cs.length + fs.length ≤ 1000000 := by
          have h1 : (i + 1) * fs.length ≤ es.length * fs.length := Nat.mul_le_mul_right _ (by omega)
          rw [Nat.add_mul, Nat.one_mul] at h1
          have := hef c1
          omega
        refine ⟨_, rfl, .inl ⟨rfl, _, SqL.of G.gD⟩, ?_⟩
        refine ⟨_, rfl, ev, _, _, _, rfl, rfl, SqL.of (G.sm _ _ gev), rfl, p1, rfl, ⟨_, SqL.of (G.sm _ _ g1)⟩, fun D2 hD2 => ?_⟩
        refine lc_list (K := K) (a := p1) (xs := refs (adr fs)) (fun i2 H' => ∃ gs : List Ch, GrownC H3 H' D2 gs ∧ gs.map Prod.snd = (fs.take i2).map fun f => (e, f)) ⟨[], GrownC.nil hD2, by rw [List.take_zero]; rfl⟩ (fun i2 H' _ ⟨_, G5, _⟩ => SqL.of (G5.sm _ _ (G.sm _ _ g1))) ?_ ?_
        · rintro i2 y H5 hi2 ⟨gs, G5, hvg⟩
          obtain ⟨f, hff, rfl⟩ := adr_at hi2
          have hi2l := (List.getElem?_eq_some_iff.mp hff).1
          have hgl : gs.length = i2 := by
            have := congrArg List.length hvg
            rw [List.length_map, List.length_map, List.length_take] at this
            omega
          refine ⟨rfl, yes_ite ?_⟩
          refine ⟨_, rfl, _, rfl, (by show 2 ≤ sizeLine; decide), fun q hq => ?_⟩
          have Sq := same_upd (o := HO.lst [V.ref e.1, .ref f.1]) hq
          have G6 := G5.same Sq
          have gq : (upd H5 q (HO.lst [V.ref e.1, .ref f.1])) q = some (.lst (chRef (q, (e, f)))) := upd_same
          have hqD : q ≠ D2 := fun z => by rw [z, G5.gD] at hq; cases hq
          generalize upd H5 q (HO.lst [V.ref e.1, .ref f.1]) = H6 at G6 gq ⊢
          refine ⟨_, G6.gD, Nat.lt_of_lt_of_le (by rw [cadr_len]; omega : _ < 10000) (by decide), gs ++ [(q, (e, f))], G6.add (c := (q, (e, f))) hD2 (G5.sm.free hq) gq hqD, ?_⟩
          rw [List.map_append, hvg, take_snoc hff, List.map_append]; rfl
        rintro H5 ⟨gs, G5, hvg⟩
        rw [adr_len, List.take_of_length_le (Nat.le_refl _)] at hvg
        have hgl : gs.length = fs.length := by
          have := congrArg List.length hvg
          rwa [List.length_map, List.length_map] at this
        refine ⟨Lg, D2, _, _, rfl, rfl, G5.sm _ _ G.gD, G5.gD, Nat.le_trans (by rw [cadr_len, cadr_len]; omega : _ ≤ 1000000) (by decide), ?_⟩
        refine ⟨_, _, cs ++ gs, rfl, G.app hLg G5, ?_⟩
        rw [List.map_append, hv, hvg, take_snoc hee, List.flatMap_append]; simp
      · rintro σ' H3 ⟨u2, u4, cs, rfl, G, hv⟩
        rw [adr_len, List.take_of_length_le (Nat.le_refl _)] at hv
        exact ⟨_, rfl, k H3 Lg cs G.sm hLg G.gD (fun c hc => ⟨(G.ro c hc).1, (G.ro c hc).2.1⟩) (by unfold pairsOf; rw [if_pos c1]; exact hv)⟩
    · refine ⟨fun _ _ => False, ?_, fun _ _ z => z.elim⟩
      refine ⟨_, rfl, lp, _, rfl, .inl (SqL.of gl), rfl, flat_ints ks, _, rfl, ?_⟩
      rw [inV_int, decide_eq_false c1]
      refine iteT ?_
      refine ⟨_, rfl, ev, _, _, _, rfl, rfl, SqL.of gev, rfl, p0, rfl, ⟨_, SqL.of g0⟩, fun D hD => ?_⟩
      refine lc_list (K := K) (a := p0) (xs := refs (adr es)) (fun i H' => ∃ cs : List Ch, GrownC H H' D cs ∧ cs.map Prod.snd = (es.take i).map fun e => (e, e)) ⟨[], GrownC.nil hD, by rw [List.take_zero]; rfl⟩ (fun i H' _ ⟨_, G, _⟩ => SqL.of (G.sm _ _ g0)) ?_ ?_
      · rintro i y H5 hi ⟨gs, G5, hvg⟩
        obtain ⟨e, hee, rfl⟩ := adr_at hi
        have hil := (List.getElem?_eq_some_iff.mp hee).1
        have hgl : gs.length = i := by
          have := congrArg List.length hvg
          rw [List.length_map, List.length_map, List.length_take] at this
          omega
        refine ⟨rfl, yes_ite ?_⟩
        refine ⟨_, rfl, _, rfl, (by show 2 ≤ sizeLine; decide), fun q hq => ?_⟩
        have Sq := same_upd (o := HO.lst [V.ref e.1, .ref e.1]) hq
        have G6 := G5.same Sq
        have gq : (upd H5 q (HO.lst [V.ref e.1, .ref e.1])) q = some (.lst (chRef (q, (e, e)))) := upd_same
        have hqD : q ≠ D := fun z => by rw [z, G5.gD] at hq; cases hq
        generalize upd H5 q (HO.lst [V.ref e.1, .ref e.1]) = H6 at G6 gq ⊢
        refine ⟨_, G6.gD, Nat.lt_of_lt_of_le (by rw [cadr_len]; omega : _ < 10000) (by decide), gs ++ [(q, (e, e))], G6.add (c := (q, (e, e))) hD (G5.sm.free hq) gq hqD, ?_⟩
        rw [List.map_append, hvg, take_snoc hee, List.map_append]; rfl
      rintro H5 ⟨gs, G5, hvg⟩
      rw [adr_len, List.take_of_length_le (Nat.le_refl _)] at hvg
      exact k H5 D gs G5.sm hD G5.gD (fun c hc => ⟨(G5.ro c hc).1, (G5.ro c hc).2.1⟩) (by unfold pairsOf; rw [if_neg c1]; exact hvg)
end
end KA
namespace KA
open PySem PySem.Spec PyProof.Rows L2 DP
/-! ### a comprehension in a comprehension -/
theorem lookup_relabel_free {env : Env} : ∀ {names : List (Str × NameKind)} {x : Str}, (names.lookup x = some .cell ∨ names.lookup x = some .free) →
    (names.map fun (n, k) => if (k == NameKind.free && env.scope.kind == .function && env.kindOf n == some .cell) then (n, NameKind.cell) else (n, k)).lookup x = some .cell ∨
    (names.map fun (n, k) => if (k == NameKind.free && env.scope.kind == .function && env.kindOf n == some .cell) then (n, NameKind.cell) else (n, k)).lookup x = some .free
  | [], _, h => by simp at h
  | (n, k) :: r, x, h => by
    have ih := @lookup_relabel_free env r x
    show List.lookup x ((if (k == NameKind.free && env.scope.kind == .function && env.kindOf n == some .cell) = true then (n, NameKind.cell) else (n, k)) :: _) = _ ∨ List.lookup x ((if (k == NameKind.free && env.scope.kind == .function && env.kindOf n == some .cell) = true then (n, NameKind.cell) else (n, k)) :: _) = _
    cases hx : x == n with
    | true =>
      simp only [List.lookup_cons, hx] at h
      by_cases hc : (k == NameKind.free && env.scope.kind == .function && env.kindOf n == some .cell) = true
      · rw [if_pos hc]; left; simp [List.lookup_cons, hx]
      · rw [if_neg hc]; simp only [List.lookup_cons, hx]; exact h
    | false =>
      simp only [List.lookup_cons, hx] at h
      by_cases hc : (k == NameKind.free && env.scope.kind == .function && env.kindOf n == some .cell) = true
      · rw [if_pos hc]; simp only [List.lookup_cons, hx]; exact ih h
      · rw [if_neg hc]; simp only [List.lookup_cons, hx]; exact ih h
theorem blkOk_in {N : List Str} {sc scope : Scope} {own : List (Str × Nat)} {env : Env} (h : blkC N sc scope own = true) : BlkOk N (relabel sc env) scope own := by
  have o := blkOk_by h
  exact ⟨o.kind, o.uniq, o.ix, fun y hy e => lookup_relabel_free (o.free y hy e), o.own⟩
theorem pi_listK {X : Cx} {K : PySem.W.Frag} {tg l : Expr} {tl : TE} (hl : PE X l tl) (h : X.K = K := by rfl) : PI X tg l (iList K tl) := by subst h; exact pi_list hl
end KA
namespace KA
open PySem PySem.Spec PyProof.Rows L2 DP
/-- a hand of the round: its looks, and all tables that fit them -/
structure Rec where
  a : Addr
  ls : List Lk
  p : Addr
  es : List Ro
noncomputable def good (ls : List Lk) (r : List Int) : Bool := ls.all fun l => isSo r l
structure RecM (w : Nat) (r : Rec) : Prop where
  ex : ∃ prs s0, Rises (w : Int) prs ∧ prs[0]? = some s0 ∧ (∀ l ∈ r.ls, Said (w : Int) prs l) ∧ vals r.es = (tabs w (s0.2 - 2 * w) (s0.2 + 2 * w) (w - 1)).filter (good r.ls) ∧ s0.2.natAbs ≤ 4 * w
  len : r.ls.length ≤ 4
def RecH (K : PySem.W.Frag) (H : Hp) (r : Rec) : Prop := LkAt K H r.a r.ls ∧ H r.p = some (.lst (refs (adr r.es))) ∧ RosAt H r.es
/-- none of these places -/
def RecF (bad : Addr → Prop) (r : Rec) : Prop := ¬ bad r.a ∧ ¬ bad r.p ∧ ∀ e ∈ r.es, ¬ bad e.1
theorem RecH.to {K : PySem.W.Frag} {H H' : Hp} {bad : Addr → Prop} {r : Rec} (h : RecH K H r) (f : RecF bad r) (ht : Tups H H') (k : ∀ x o, ¬ bad x → H x = some o → H' x = some o) : RecH K H' r :=
  ⟨h.1.to ht fun o e => k _ o f.1 e, k _ _ f.2.1 h.2.1, fun e he => k _ _ (f.2.2 e he) (h.2.2 e he)⟩
structure Deal (K : PySem.W.Frag) (H : Hp) (Lp Ep lp t g : Addr) (ks : List Int) (rs : List Rec) : Prop where
  gL : H Lp = some (.lst (refs (rs.map Rec.a)))
  gE : H Ep = some (.lst (refs (rs.map Rec.p)))
  gk : H lp = some (.lst (ks.map V.int))
  rc : ∀ r ∈ rs, RecH K H r ∧ RecF (fun x => x = t ∨ x = g ∨ x = Lp ∨ x = Ep) r
  fr : (Lp ≠ t ∧ Lp ≠ g) ∧ (Ep ≠ t ∧ Ep ≠ g) ∧ (lp ≠ t ∧ lp ≠ g ∧ lp ≠ Lp ∧ lp ≠ Ep) ∧ Lp ≠ Ep
theorem Deal.keep {K : PySem.W.Frag} {H H' : Hp} {Lp Ep lp t g : Addr} {ks : List Int} {rs : List Rec} {n : Nat} (D : Deal K H Lp Ep lp t g ks rs) (T : Tray H t g n) (k : Keep t g H H') : Deal K H' Lp Ep lp t g ks rs := by
  obtain ⟨⟨f1, f2⟩, ⟨f3, f4⟩, ⟨f5, f6, f7, f8⟩, f9⟩ := D.fr
  exact ⟨k _ _ D.gL f1 f2, k _ _ D.gE f3 f4, k _ _ D.gk f5 f6, fun r hr => ⟨(D.rc r hr).1.to (D.rc r hr).2 (Keep.tups T k) fun x o hx e => k _ _ e (fun c => hx (.inl c)) (fun c => hx (.inr (.inl c))), (D.rc r hr).2⟩, D.fr⟩
theorem Deal.same {K : PySem.W.Frag} {H H' : Hp} {Lp Ep lp t g : Addr} {ks : List Int} {rs : List Rec} (D : Deal K H Lp Ep lp t g ks rs) (S : Same H H') : Deal K H' Lp Ep lp t g ks rs :=
  ⟨S _ _ D.gL, S _ _ D.gE, S _ _ D.gk, fun r hr => ⟨(D.rc r hr).1.to (D.rc r hr).2 (Tups.of_same S) fun x o _ e => S _ _ e, (D.rc r hr).2⟩, D.fr⟩
theorem Deal.add {K : PySem.W.Frag} {H : Hp} {Lp Ep lp t g : Addr} {ks : List Int} {rs : List Rec} {r : Rec} (D : Deal K H Lp Ep lp t g ks rs) (h : RecH K H r) (f : RecF (fun x => x = t ∨ x = g ∨ x = Lp ∨ x = Ep) r) :
    Deal K (upd (upd H Ep (.lst (refs (rs.map Rec.p) ++ [.ref r.p]))) Lp (.lst (refs (rs.map Rec.a) ++ [.ref r.a]))) Lp Ep lp t g ks (rs ++ [r]) := by
  obtain ⟨⟨f1, f2⟩, ⟨f3, f4⟩, ⟨f5, f6, f7, f8⟩, f9⟩ := D.fr
  have gL2 : (upd H Ep (.lst (refs (rs.map Rec.p) ++ [.ref r.p]))) Lp = some (.lst (refs (rs.map Rec.a))) := (upd_ne f9).trans D.gL
  have ht := (Tups.upd_lst (o := .lst (refs (rs.map Rec.p) ++ [.ref r.p])) D.gE).trans (Tups.upd_lst (o := .lst (refs (rs.map Rec.a) ++ [.ref r.a])) gL2)
  have hk : ∀ x o, ¬ (x = t ∨ x = g ∨ x = Lp ∨ x = Ep) → H x = some o → (upd (upd H Ep (.lst (refs (rs.map Rec.p) ++ [.ref r.p]))) Lp (.lst (refs (rs.map Rec.a) ++ [.ref r.a]))) x = some o := fun x o hx e =>
    (upd_ne fun c => hx (.inr (.inr (.inl c)))).trans ((upd_ne fun c => hx (.inr (.inr (.inr c)))).trans e)
  refine ⟨?_, ?_, ?_, fun q hq => ?_, D.fr⟩
  · rw [upd_same]; simp [refs]
  · rw [upd_ne (Ne.symm f9), upd_same]; simp [refs]
  · rw [upd_ne f7, upd_ne f8]; exact D.gk
  · rcases List.mem_append.mp hq with c | c
    · exact ⟨(D.rc q c).1.to (D.rc q c).2 ht hk, (D.rc q c).2⟩
    · rw [List.mem_singleton] at c; subst c
      exact ⟨h.to f ht hk, f⟩
theorem Tray.acc1 {H : Hp} {t g D : Addr} {n : Nat} {o : HO} (T : Tray H t g n) (h1 : D ≠ t) (h2 : D ≠ g) : Tray (upd H D o) t g n := by
  obtain ⟨⟨gs, f, c, e1, e2, r⟩, hne⟩ := T
  exact ⟨⟨gs, f, c, (upd_ne (Ne.symm h1)).trans e1, (upd_ne (Ne.symm h2)).trans e2, r⟩, hne⟩
/-- what a line of hands may be -/
structure LineOk (ks : List Int) : Prop where
  pos : 0 < ks.length
  len : ks.length ≤ 3
  two : ∀ k ∈ ks, k = 0 ∨ k = 1
/-! ### what the deal tells of the round -/
theorem rec_row {wn : Nat} (hw : 0 < wn) (hw4 : wn ≤ 4) {r : Rec} (M : RecM wn r) {e : Ro} (he : e ∈ r.es) : RowOk e.2 ∧ Hand (wn : Int) (rowL e.2) ∧ ∀ l ∈ r.ls, Fits (rowL e.2) l := by
  obtain ⟨prs, s0, R, hs0, hsaid, hv, hb⟩ := M.ex
  have h1 : e.2 ∈ vals r.es := List.mem_map.mpr ⟨e, he, rfl⟩
  rw [hv] at h1
  obtain ⟨h2, h3⟩ := List.mem_filter.mp h1
  have B := (tabs_mem (by omega) _ _).mp h2
  have hl : e.2.length = wn := by rw [B.len]; omega
  have IR : IsRow wn e.2 := ⟨hl, B.up, B.near⟩
  refine ⟨⟨by omega, by omega, fun z hz => ?_⟩, IR.hand hw, fun l hm => (isSo_fits (hsaid l hm).1).mp (List.all_eq_true.mp h3 l hm)⟩
  have h4 := B.near z hz
  have h5 : e.2.getD 0 0 ≤ z := by
    obtain ⟨i, hi, rfl⟩ := List.getElem_of_mem hz
    rw [getD_at (by omega)]
    rcases Nat.eq_zero_or_pos i with c | c
    · subst c; exact Int.le_refl _
    · exact List.pairwise_iff_getElem.mp B.up 0 i (by omega) hi c
  have h6 := B.lo
  have h7 := B.hi
  exact Nat.lt_of_lt_of_le (by omega : z.natAbs < 1000) (by decide)
theorem rec_best {wn : Nat} (hw : 0 < wn) {r : Rec} (M : RecM wn r) {sd : Str} (hs : SideOk sd) : ∃ e ∈ r.es, sideOf sd r.ls ≠ [] → ∀ y, rowL e.2 y = bst sd (sideOf sd r.ls) y wn := by
  obtain ⟨prs, s0, R, hs0, hsaid, hv, hb⟩ := M.ex
  obtain ⟨ρ, h1, h2, h3⟩ := best_row hs hw R hs0 hsaid
  have h4 : ρ ∈ vals r.es := by
    rw [hv]
    exact List.mem_filter.mpr ⟨h1, List.all_eq_true.mpr fun l hl => h2 l hl⟩
  obtain ⟨e, he, rfl⟩ := List.mem_map.mp h4
  exact ⟨e, he, h3⟩
theorem rec_len {wn : Nat} {r : Rec} (M : RecM wn r) : r.es.length ≤ (4 * wn + 1) * (wn + 1) ^ (wn - 1) := by
  obtain ⟨prs, s0, R, hs0, hsaid, hv, hb⟩ := M.ex
  have h1 : r.es.length = (vals r.es).length := by simp [vals]
  rw [h1, hv]
  refine Nat.le_trans (List.length_filter_le _ _) ?_
  have h2 := tabs_len (w := (wn : Int)) (a := s0.2 - 2 * wn) (b := s0.2 + 2 * wn) (by omega) (wn - 1)
  rw [show (s0.2 + 2 * (wn : Int) + 1 - (s0.2 - 2 * wn)).toNat = 4 * wn + 1 by omega, Int.toNat_natCast] at h2
  exact h2
theorem rec_few {wn : Nat} (hw4 : wn ≤ 4) {r : Rec} (M : RecM wn r) : r.es.length ≤ 2500 ∧ (wn ≤ 3 → r.es.length ≤ 250) := by
  have h := rec_len M
  refine ⟨Nat.le_trans h ?_, fun h3 => Nat.le_trans h ?_⟩
  · have : wn = 0 ∨ wn = 1 ∨ wn = 2 ∨ wn = 3 ∨ wn = 4 := by omega
    rcases this with e | e | e | e | e <;> subst e <;> decide
  · have : wn = 0 ∨ wn = 1 ∨ wn = 2 ∨ wn = 3 := by omega
    rcases this with e | e | e | e <;> subst e <;> decide
structure DealOk (wn : Nat) (r0 r1 : Rec) (ks : List Int) (cs : List Ch) : Prop where
  all : ∀ c ∈ cs, ∀ k ∈ ks, RowOk (pickR (chRows c) k) ∧ Hand (wn : Int) (rowL (pickR (chRows c) k)) ∧ ∀ l ∈ pickL [r0.ls, r1.ls] k, Fits (rowL (pickR (chRows c) k)) l
  best : ∀ sd, SideOk sd → ∃ c ∈ cs, ∀ k ∈ ks, sideOf sd (pickL [r0.ls, r1.ls] k) ≠ [] → ∀ y, rowL (pickR (chRows c) k) y = bst sd (sideOf sd (pickL [r0.ls, r1.ls] k)) y wn
  len : cs.length ≤ 1000000
theorem deal_ok {wn : Nat} (hw : 0 < wn) (hw4 : wn ≤ 4) {r0 r1 : Rec} {ks : List Int} {cs : List Ch} (M0 : RecM wn r0) (M1 : RecM wn r1) (K : LineOk ks) (hw3 : (1 : Int) ∈ ks → wn ≤ 3) (h : cs.map Prod.snd = pairsOf ks r0.es r1.es) : DealOk wn r0 r1 ks cs := by
  have hin : ∀ c ∈ cs, c.2 ∈ pairsOf ks r0.es r1.es := fun c hc => by rw [← h]; exact List.mem_map.mpr ⟨c, hc, rfl⟩
  have hof : ∀ q ∈ pairsOf ks r0.es r1.es, ∃ c ∈ cs, c.2 = q := fun q hq => by
    rw [← h] at hq
    obtain ⟨c, hc, e⟩ := List.mem_map.mp hq
    exact ⟨c, hc, e⟩
  have hlen : cs.length = (pairsOf ks r0.es r1.es).length := by rw [← h, List.length_map]
  unfold pairsOf at hin hof hlen
  by_cases c1 : (1 : Int) ∈ ks
  · rw [if_pos c1] at hin hof hlen
    refine ⟨fun c hc k hk => ?_, fun sd hs => ?_, ?_⟩
    · obtain ⟨e, he, h2⟩ := List.mem_flatMap.mp (hin c hc)
      obtain ⟨f, hf, h3⟩ := List.mem_map.mp h2
      obtain ⟨ca, c2⟩ := c
      subst h3
      rcases K.two k hk with q | q <;> subst q
      · exact rec_row hw hw4 M0 he
      · exact rec_row hw hw4 M1 hf
    · obtain ⟨e, he, be⟩ := rec_best hw M0 hs
      obtain ⟨f, hf, bf⟩ := rec_best hw M1 hs
      obtain ⟨c, hc, h2⟩ := hof (e, f) (List.mem_flatMap.mpr ⟨e, he, List.mem_map.mpr ⟨f, hf, rfl⟩⟩)
      obtain ⟨ca, c2⟩ := c
      subst h2
      refine ⟨_, hc, fun k hk => ?_⟩
      rcases K.two k hk with q | q <;> subst q
      · exact be
      · exact bf
    · rw [hlen]
      have h1 := flat_len (f := fun e : Ro => r1.es.map fun f => (e, f)) (c := r1.es.length) r0.es fun x _ => by rw [List.length_map]; exact Nat.le_refl _
      refine Nat.le_trans h1 (Nat.le_trans (Nat.mul_le_mul ((rec_few hw4 M0).2 (hw3 c1)) ((rec_few hw4 M1).2 (hw3 c1))) (by decide))
  · rw [if_neg c1] at hin hof hlen
    have k0 : ∀ k ∈ ks, k = 0 := fun k hk => by
      rcases K.two k hk with q | q
      · exact q
      · exact absurd (q ▸ hk) c1
    refine ⟨fun c hc k hk => ?_, fun sd hs => ?_, ?_⟩
    · obtain ⟨e, he, h3⟩ := List.mem_map.mp (hin c hc)
      obtain ⟨ca, c2⟩ := c
      subst h3
      obtain rfl := k0 k hk
      exact rec_row hw hw4 M0 he
    · obtain ⟨e, he, be⟩ := rec_best hw M0 hs
      obtain ⟨c, hc, h2⟩ := hof (e, e) (List.mem_map.mpr ⟨e, he, rfl⟩)
      obtain ⟨ca, c2⟩ := c
      subst h2
      refine ⟨_, hc, fun k hk => ?_⟩
      obtain rfl := k0 k hk
      exact be
    · rw [hlen, List.length_map]
      have := (rec_few hw4 M0).1
      omega
/-- by the deal: what is due is what the program tells -/
theorem deal_due {wn : Nat} (hw : 0 < wn) {r0 r1 : Rec} {ks : List Int} {cs : List Ch} (K : LineOk ks) (D : DealOk wn r0 r1 ks cs) {sd : Str} (hs : SideOk sd) {x : Int} {n : Nat} {d : Option Int} (h : DueIs sd (cs.map chRows) [r0.ls, r1.ls] ks x n d) : it sd (wn : Int) ((ks.map fun k => heardAll (wn : Int) (pickL [r0.ls, r1.ls] k)).map (sideOf sd)) x n = d := by
  have hL : (0 : Int) < (wn : Int) := by omega
  have e1 : (ks.map fun k => heardAll (wn : Int) (pickL [r0.ls, r1.ls] k)) = (ks.map fun k => pickL [r0.ls, r1.ls] k).map (heardAll (wn : Int)) := by rw [List.map_map]; rfl
  rw [e1, it_heard hs hL (by rw [List.length_map]; exact K.pos), List.map_map]
  refine due_it hs hL K.pos (fun rs hrs k hk => ?_) ?_ h
  · obtain ⟨c, hc, rfl⟩ := List.mem_map.mp hrs
    exact (D.all c hc k hk).2
  · obtain ⟨c, hc, hb⟩ := D.best sd hs
    exact ⟨chRows c, List.mem_map.mpr ⟨c, hc, rfl⟩, hb⟩
theorem eqv_sh {d : PyData} (h : SeqAt.shaped d = true) : PyData.eqv d d = true := SeqAt.eqv_refl d (SeqAt.canLay_of_shaped h)
theorem shaped_two (a b : Option Int) : SeqAt.shaped (.list [dO a, dO b]) = true := by
  cases a <;> cases b <;> rfl
def handOf (ds : List Addr) (ks : List Int) : List Addr := ks.map fun k => ds.getD k.toNat 0
/-- the round as it is dealt -/
structure R10 (Z : Ad) (K : PySem.W.Frag) (H : Hp) (L : Int) (Lp Ep lp t g dkp cp hp : Addr) (ks : List Int) (rs : List Rec) (ds : List Addr) (cs : List Ch) : Prop where
  deal : Deal K H Lp Ep lp t g ks rs
  dk : DarksAt Z K H ds L (rs.map fun r => heardAll L r.ls) t g
  gD : H dkp = some (.lst (refs ds))
  gc : H cp = some (.lst (refs (cadr cs)))
  ch : ∀ c ∈ cs, ChAt H c ∧ (c.1 ≠ t ∧ c.1 ≠ g) ∧ (c.2.1.1 ≠ t ∧ c.2.1.1 ≠ g) ∧ c.2.2.1 ≠ t ∧ c.2.2.1 ≠ g
  gh : H hp = some (.lst (refs (handOf ds ks)))
  fr : (dkp ≠ t ∧ dkp ≠ g) ∧ (cp ≠ t ∧ cp ≠ g) ∧ hp ≠ t ∧ hp ≠ g
theorem R10.keep {Z : Ad} {K : PySem.W.Frag} {H H' : Hp} {L : Int} {Lp Ep lp t g dkp cp hp : Addr} {ks : List Int} {rs : List Rec} {ds : List Addr} {cs : List Ch} {n : Nat} (R : R10 Z K H L Lp Ep lp t g dkp cp hp ks rs ds cs) (T : Tray H t g n) (k : Keep t g H H') : R10 Z K H' L Lp Ep lp t g dkp cp hp ks rs ds cs :=
  ⟨R.deal.keep T k, R.dk.keep T k, k _ _ R.gD R.fr.1.1 R.fr.1.2, k _ _ R.gc R.fr.2.1.1 R.fr.2.1.2, fun c hc => by
    obtain ⟨⟨a1, a2, a3⟩, b1, b2, b3⟩ := R.ch c hc
    exact ⟨⟨k _ _ a1 b1.1 b1.2, k _ _ a2 b2.1 b2.2, k _ _ a3 b3.1 b3.2⟩, b1, b2, b3⟩, k _ _ R.gh R.fr.2.2.1 R.fr.2.2.2, R.fr⟩
theorem R10.same {Z : Ad} {K : PySem.W.Frag} {H H' : Hp} {L : Int} {Lp Ep lp t g dkp cp hp : Addr} {ks : List Int} {rs : List Rec} {ds : List Addr} {cs : List Ch} (R : R10 Z K H L Lp Ep lp t g dkp cp hp ks rs ds cs) (S : Same H H') : R10 Z K H' L Lp Ep lp t g dkp cp hp ks rs ds cs :=
  ⟨R.deal.same S, R.dk.same S, S _ _ R.gD, S _ _ R.gc, fun c hc => ⟨(R.ch c hc).1.same S, (R.ch c hc).2⟩, S _ _ R.gh, R.fr⟩
theorem R10.handed {Z : Ad} {K : PySem.W.Frag} {H : Hp} {L : Int} {Lp Ep lp t g dkp cp hp : Addr} {ks : List Int} {r0 r1 : Rec} {ds : List Addr} {cs : List Ch} (R : R10 Z K H L Lp Ep lp t g dkp cp hp ks [r0, r1] ds cs) (O : LineOk ks) : Darks Z K H (handOf ds ks) L (ks.map fun k => heardAll L (pickL [r0.ls, r1.ls] k)) := by
  have hl : ds.length = 2 := by have := R.dk.1.1; simpa using this
  refine ⟨by unfold handOf; rw [List.length_map, List.length_map], fun i d ls h1 h2 => ?_⟩
  unfold handOf at h1
  rw [List.getElem?_map] at h1 h2
  cases hk : ks[i]? with
  | none => rw [hk] at h1; cases h1
  | some k =>
    rw [hk] at h1 h2
    obtain rfl := Option.some.inj h1
    obtain rfl := Option.some.inj h2
    have hk2 : k.toNat < 2 := by rcases O.two k (List.mem_of_getElem? hk) with e | e <;> subst e <;> decide
    refine R.dk.1.2 k.toNat _ _ ?_ ?_
    · show ds[k.toNat]? = some (ds.getD k.toNat 0)
      rw [List.getD_eq_getElem?_getD, List.getElem?_eq_getElem (by omega)]; rfl
    · rcases O.two k (List.mem_of_getElem? hk) with e | e <;> subst e <;> rfl
theorem paired_refs {K : PySem.W.Frag} {H : Hp} : ∀ as : List Addr, Paired (fun p q => EqI K H p q ∨ EqT K H p q) (refs as) (refs as)
  | [] => .nil
  | a :: r => .cons (.inl (.inl ⟨a, rfl, rfl⟩)) (paired_refs r)
/-! ### lists of lists of looks -/
def gL (lots : List (List Lk)) : PyData := .list (lots.map fun ls => .list (ls.map encL))
theorem shaped_gL {lots : List (List Lk)} (h : ∀ ls ∈ lots, ∀ l ∈ ls, WordOk l.1) : SeqAt.shaped (gL lots) = true := by
  have h1 : ∀ lots : List (List Lk), (∀ ls ∈ lots, ∀ l ∈ ls, WordOk l.1) → PyData.canLayAll0 (lots.map fun ls => .list (ls.map encL)) = true := by
    intro lots
    induction lots with
    | nil => intro _; rfl
    | cons a r ih =>
      intro h
      rw [List.map_cons, PyData.canLayAll0, PyData.canLay0, lay_looks a (h a List.mem_cons_self), ih fun q hq => h q (List.mem_cons_of_mem _ hq)]; rfl
  have h2 : ∀ lots : List (List Lk), PyData.depthAll (lots.map fun ls => PyData.list (ls.map encL)) ≤ 2 := by
    intro lots
    induction lots with
    | nil => simp [PyData.depthAll]
    | cons a r ih =>
      rw [List.map_cons, PyData.depthAll, PyData.depth]
      have := depth_looks a
      omega
  unfold SeqAt.shaped gL
  rw [PyData.canLay0, h1 lots h, PyData.depth]
  have := h2 lots
  simp; omega
structure LkL (K : PySem.W.Frag) (H0 H : Hp) (D : Addr) (lots : List (List Lk)) : Prop where
  sm : Same H0 H
  ex : ∃ es : List (Addr × List Lk), H D = some (.lst (refs (es.map Prod.fst))) ∧ es.map Prod.snd = lots ∧ ∀ e ∈ es, LkAt K H e.1 e.2 ∧ e.1 ≠ D
theorem LkL.nil {K : PySem.W.Frag} {H : Hp} {D : Addr} (hD : H D = none) : LkL K H (upd H D (.lst [])) D [] := ⟨same_upd hD, [], upd_same, rfl, fun _ z => by cases z⟩
theorem LkL.step {K : PySem.W.Frag} {H0 H H1 : Hp} {D p : Addr} {lots : List (List Lk)} {ls : List Lk} (E : LkL K H0 H D lots) (hD : H0 D = none) (S : Same H H1) (hp : H p = none) (h1 : LkAt K H1 p ls) : ∃ vs, H1 D = some (.lst vs) ∧ vs.length = lots.length ∧ LkL K H0 (upd H1 D (.lst (vs ++ [.ref p]))) D (lots ++ [ls]) := by
  obtain ⟨sm, es, e1, e2, e3⟩ := E
  have gD := S _ _ e1
  have pD : p ≠ D := fun e => by rw [e, e1] at hp; cases hp
  refine ⟨_, gD, by simp [refs, ← e2], same_set (sm.trans S) hD, es ++ [(p, ls)], by rw [upd_same]; simp [refs], by simp [e2], fun e he => ?_⟩
  rcases List.mem_append.mp he with h | h
  · exact ⟨((e3 e h).1.same S).to (Tups.upd_lst gD) fun o q => (upd_ne (e3 e h).2).trans q, (e3 e h).2⟩
  · rw [List.mem_singleton] at h; subst h
    exact ⟨h1.to (Tups.upd_lst gD) fun o q => (upd_ne pD).trans q, pD⟩
theorem LkL.dp {K : PySem.W.Frag} {H0 H H' : Hp} {D : Addr} {lots : List (List Lk)} (E : LkL K H0 H D lots) (S : Same H H') : Dp K H' (.ref D) (gL lots) := by
  obtain ⟨sm, es, e1, e2, e3⟩ := E
  unfold gL
  rw [← e2]
  have : ∀ es : List (Addr × List Lk), (∀ e ∈ es, LkAt K H' e.1 e.2) → DpAll K H' (refs (es.map Prod.fst)) ((es.map Prod.snd).map fun ls => .list (ls.map encL)) := by
    intro es
    induction es with
    | nil => intro _; exact .nil
    | cons e r ih => intro h; exact .cons (h e List.mem_cons_self).dp (ih fun q hq => h q (List.mem_cons_of_mem _ hq))
  exact .lst (SqL.of (S _ _ e1)) (this es fun e he => (e3 e he).1.same S)
theorem heard_own {L : Int} (hL : 0 < L) {prs : List Pr} (R : Rises L prs) {ls ms : List Lk} (hsaid : ∀ l ∈ ls, Said L prs l) (c : Canon ms (fun o => o ∈ ls)) : ms = heardAll L ls := by
  refine Canon.eq c (fold0_canon L ls) fun o => ?_
  have hh : ∀ l ∈ ls, home L l = l := fun l hl => by
    obtain ⟨_, s, hs, e, _⟩ := hsaid l hl
    have := R.on s hs
    unfold home
    rw [e, Int.ediv_eq_zero_of_lt this.1 this.2, Int.zero_mul, Int.sub_zero, Int.sub_zero, ← e]
  constructor
  · intro h; exact ⟨o, h, (hh o h).symm⟩
  · rintro ⟨l, hl, e⟩; rw [e, hh l hl]; exact hl
end KA
namespace KA
open PySem PySem.Spec PyProof.Rows L2 DP
theorem allK {X : Cx} {K : PySem.W.Frag} (hc : X.calm = true) (h : X.K = K := by rfl) : CallR X (.builtin "all") (rAll K) := by subst h; exact cr_all hc
theorem anyK {X : Cx} {K : PySem.W.Frag} (hc : X.calm = true) (h : X.K = K := by rfl) : CallR X (.builtin "any") (rAny K) := by subst h; exact cr_any hc
theorem min_ex : ∀ {l : List Int}, l ≠ [] → ∃ m ∈ l, ∀ z ∈ l, m ≤ z
  | [], h => absurd rfl h
  | a :: r, _ => by
    by_cases c : r = []
    · subst c
      exact ⟨a, List.mem_cons_self, fun z hz => by rw [List.mem_singleton.mp hz]; exact Int.le_refl _⟩
    · obtain ⟨m, hm, h⟩ := min_ex c
      by_cases q : a ≤ m
      · exact ⟨a, List.mem_cons_self, fun z hz => by
          rcases List.mem_cons.mp hz with e | e
          · rw [e]; exact Int.le_refl _
          · exact Int.le_trans q (h z e)⟩
      · exact ⟨m, List.mem_cons_of_mem _ hm, fun z hz => by
          rcases List.mem_cons.mp hz with e | e
          · rw [e]; omega
          · exact h z e⟩
theorem max_ex : ∀ {l : List Int}, l ≠ [] → ∃ m ∈ l, ∀ z ∈ l, z ≤ m
  | [], h => absurd rfl h
  | a :: r, _ => by
    by_cases c : r = []
    · subst c
      exact ⟨a, List.mem_cons_self, fun z hz => by rw [List.mem_singleton.mp hz]; exact Int.le_refl _⟩
    · obtain ⟨m, hm, h⟩ := max_ex c
      by_cases q : m ≤ a
      · exact ⟨a, List.mem_cons_self, fun z hz => by
          rcases List.mem_cons.mp hz with e | e
          · rw [e]; exact Int.le_refl _
          · exact Int.le_trans (h z e) q⟩
      · exact ⟨m, List.mem_cons_of_mem _ hm, fun z hz => by
          rcases List.mem_cons.mp hz with e | e
          · rw [e]; omega
          · exact h z e⟩
/-- whether so far is reached -/
def comesO (all : Bool) (y : Int) : Option Int → Bool
  | none => !all
  | some m => decide (y ≤ m)
theorem comesB_O {f : Nat → Option Int} {all : Bool} {y : Int} {n : Nat} : comesB f all y n = comesO all y (f n) := by
  unfold comesB comesO
  cases f n <;> rfl
def spReached (K : PySem.W.Frag) : Sp := fun vs H Q _ => ∃ (cp Lp lp : Addr) (cs : List Ch) (as : List Addr) (lots : List (List Lk)) (ks : List Int) (x y n : Int) (b : Bool), vs = [.ref cp, .ref Lp, .ref lp, .int x, .int y, .int n, .bl b] ∧ H cp = some (.lst (refs (cadr cs))) ∧ (∀ c ∈ cs, ChAt H c) ∧ H Lp = some (.lst (refs as)) ∧ Lots K H as lots ∧ (∀ ls ∈ lots, ∀ l ∈ ls, WordOk l.1) ∧ (∀ ls ∈ lots, ls.length ≤ 100) ∧ H lp = some (.lst (ks.map V.int)) ∧ 0 < ks.length ∧ ks.length ≤ 100 ∧ (∀ k ∈ ks, 0 ≤ k ∧ k.toNat < 2 ∧ k.toNat < lots.length) ∧ (∀ c ∈ cs, ∀ k ∈ ks, RowOk (pickR (chRows c) k)) ∧ 0 < cs.length ∧ cs.length ≤ 1000000 ∧ x.natAbs < 2 ^ 70 ∧ 0 ≤ n ∧ n ≤ 100 ∧
  ∀ (H' : Hp) (d : Option Int), Same H H' → DueIs (sdOf b) (cs.map chRows) lots ks x n.toNat d → Q (.bl (comesO b y d)) H'
/-- a told number of uses, and the due ones as far as six -/
def RightN (r : Option Nat) : List Int → Prop
  | [] => r = none ∨ ∃ n, r = some n ∧ 6 < n
  | m :: _ => ∃ n : Nat, r = some n ∧ m = (n : Int)
def spRight38 (K : PySem.W.Frag) : Sp := fun vs H Q _ => ∃ (dp : Addr) (r : Option Nat) (due : List Int), vs = [uV r, .ref dp] ∧ H dp = some (.lst (due.map V.int)) ∧ RightN r due ∧ ∀ H', Same H H' → Q (.bl true) H'
section
variable {P : Program} {w : World} {K : PySem.W.Frag} {mg : Str → Option Value} {base : Heap} {Z : Ad}
theorem ok_law_reached (T : Tx K w mg Z) : FnOk P w K mg base CX0 3 Z.a_law_reached Z.d_law_reached P_law_reached (spReached K) := by
  refine T.F_law_reached.ok sclaw_reached (fun vs H Q E h => ?_) (fun cdv A outer s H vs Q E hr h => ?_)
  · obtain ⟨cp, Lp, lp, cs, as, lots, ks, x, y, n, b, rfl, _⟩ := h
    rfl
  · obtain ⟨cp, Lp, lp, cs, as, lots, ks, x, y, n, b, rfl, gc, hcs, gL, hlots, hw, hll, gl, h0, h100, hk, hrow, hc0, hc1, hx, hn0, hn, k⟩ := h
    refine ⟨_, (C8.pss_cut (ps_set (i := 7) sclaw_reached.nd rfl (Or.inr rfl) (pe_ifExp (pt_val (pv 6)) pe_str pe_str))
      (pss_cons (ps_for PassesOwn.never rfl (pi_list (pe_slice (slL (K := K)) (pv 2) po_none (po_some (pv 5)))) (pg_name (i := 8) sclaw_reached.nd rfl (Or.inl rfl)) (pss_one (ps_if (pt_cmpR (eqDK (K := K) hr.units) (pe_lc (own := [("look", 9)]) (g := gName 9) (tt := _) rfl sclaw_reached.nd (pi_list (pe_ix (ixL (K := K)) (pv 1) (pv 8) (fun _ _ => rfl))) (blkOk_by (own := [("look", 9)]) (N := N_law_reached) (sc := defScope slaw_reached) (by decide +kernel)) (fun _ _ _ _ _ => (pg_name (i := 9) sclaw_reached.nd rfl (Or.inl rfl))) (fun _ _ _ _ _ => (pts_one (pt_cmpR op_ne (pe_ix (ixT (K := K)) (pv 9) pe_int (fun _ _ => rfl)) (pv 7) (nomark _)))) (fun _ _ _ _ _ => pe_int)) (pe_lst pa_nil) (nomark _)) (pss_one (ps_ret (pe_not (pv 6)))) pss_nil)))
      (pss_cons (ps_setLc (i := 10) (own := [("rows", 11)]) (g := gName 11) (tt := tYes) rfl sclaw_reached.nd rfl rfl (sw_true rfl rfl rfl (by decide +kernel)) (pi_list (pv 0)) (blkOk_by (own := [("rows", 11)]) (N := N_law_reached) (sc := defScope slaw_reached) (by decide +kernel)) (fun _ _ _ _ _ => (pg_name (i := 11) sclaw_reached.nd rfl (Or.inl rfl))) (fun _ _ _ _ _ => pts_nil) (fun _ _ _ _ _ => (pe_cmpR op_ge (pe_call (ok_law_gone T) (hr.mono (by decide)) (by rfl) T.g_law_gone T.F_law_gone.kp T.bb_law_gone .nil pass0 (pa_cons (pv 11) (pa_cons (pv 2) (pa_cons (pv 3) (pa_cons (pv 5) pa_nil))))) (pv 4) (nomark _))))
      (pss_one (ps_ret (pe_ifExp (pt_val (pv 6)) (pe_callB (allK (K := K) rfl) (by rfl) T.b_all (by decide +kernel) (pa_cons (pv 10) pa_nil)) (pe_callB (anyK (K := K) rfl) (by rfl) T.b_any (by decide +kernel) (pa_cons (pv 10) pa_nil)))))))), ?_⟩
    refine ⟨fun σ' H' => σ' = [some (.ref cp), some (.ref Lp), some (.ref lp), some (.int x), some (.int y), some (.int n), some (.bl b), some (.str (barOf b)), none, none, none, none] ∧ H' = H, ?_, ?_⟩
    · cases b with
      | true => exact ⟨_, rfl, _, rfl, iteT ⟨rfl, rfl⟩⟩
      | false => exact ⟨_, rfl, _, rfl, iteF ⟨rfl, rfl⟩⟩
    rintro σ1 H1 ⟨rfl, rfl⟩
    refine ⟨_, rfl, _, rfl, n, rfl, lp, _, rfl, SqL.of gl, fun r hr => ?_⟩
    have ecut : cutV (ks.map V.int) none (some n) = (ks.take n.toNat).map V.int := by
      rw [show n = ((n.toNat : Nat) : Int) by omega, cut_take, List.map_take]; rfl
    rw [ecut]
    have Sr := same_upd (o := HO.lst ((ks.take n.toNat).map V.int)) hr
    have gr : (upd H1 r (.lst ((ks.take n.toNat).map V.int))) r = some (.lst ((ks.take n.toNat).map V.int)) := upd_same
    generalize upd H1 r (.lst ((ks.take n.toNat).map V.int)) = H2 at Sr gr ⊢
    refine ⟨r, rfl, ⟨_, SqL.of gr⟩, ?_⟩
    refine for_list (K := K) (a := r) (xs := (ks.take n.toNat).map V.int) (fun i σ' H' => ∃ u7 u8, σ' = [some (.ref cp), some (.ref Lp), some (.ref lp), some (.int x), some (.int y), some (.int n), some (.bl b), some (.str (barOf b)), u7, u8, none, none] ∧ Same H2 H' ∧ ∀ k ∈ (ks.take n.toNat).take i, sideOf (sdOf b) (pickL lots k) ≠ []) ⟨_, _, rfl, fun _ _ e => e, fun _ z => by simp at z⟩ (fun i σ' H' _ ⟨_, _, _, S, _⟩ => SqL.of (S _ _ gr)) ?_ ?_
    · rintro i y σ' H3 hi ⟨u7, u8, rfl, S3, hside⟩
      obtain ⟨kk, hkk, rfl⟩ := at_intsT hi
      have hkm : kk ∈ ks := List.mem_of_mem_take (List.mem_of_getElem? hkk)
      obtain ⟨k0, k2, k1⟩ := hk kk hkm
      have hlt : lots[kk.toNat]? = some (pickL lots kk) := by unfold pickL; rw [List.getD_eq_getElem?_getD, List.getElem?_eq_getElem k1]; rfl
      obtain ⟨a, ha⟩ : ∃ a, as[kk.toNat]? = some a := ⟨as[kk.toNat]'(by rw [hlots.1]; exact k1), List.getElem?_eq_getElem _⟩
      have S13 := Sr.trans S3
      have hLk := (hlots.2 kk.toNat a _ ha hlt).same S13
      obtain ⟨vs, hv1, hv2⟩ := hLk
      have hwl := hw _ (List.mem_of_getElem? hlt)
      have hln := hll _ (List.mem_of_getElem? hlt)
      refine ⟨_, rfl, _, rfl, Lp, _, _, .ref a, rfl, rfl, SqL.of (S13 _ _ gL), at_of (j := kk.toNat) (by omega) (by unfold refs; rw [List.getElem?_map, ha]; rfl), a, rfl, ⟨_, SqL.of hv1⟩, fun D hD => ?_⟩
      refine lc_list (K := K) (a := a) (xs := vs) (fun i' H' => Same H3 H' ∧ ∃ os : List Int, H' D = some (.lst (os.map V.int)) ∧ os.length ≤ i' ∧ (os = [] ↔ sideOf (sdOf b) ((pickL lots kk).take i') = [])) ⟨same_upd hD, [], upd_same, Nat.le_refl _, by simp [sideOf]⟩ (fun i' H' _ ⟨S, _⟩ => SqL.of (S _ _ hv1)) ?_ ?_
      · rintro i' v H4 hi' ⟨S4, os, gD, hol, hiff⟩
        obtain ⟨d, hdi, hdy⟩ := dpAll_get hv2 hi'
        obtain ⟨l, hl, rfl⟩ := map_at hdi
        have hlm := List.mem_of_getElem? hl
        have hil := (List.getElem?_eq_some_iff.mp hl).1
        obtain ⟨p, rfl, hp⟩ := dp_look (dp_mono S4 _ _ hdy)
        refine ⟨rfl, _, rfl, p, _, _, _, rfl, rfl, hp, rfl, _, rfl, rfl, _, rfl, ?_⟩
        have hne : onSide (sdOf b) l.1 = true ↔ ¬ l.1 = barOf b := bar_side (hwl l hlm)
        have ets : sideOf (sdOf b) ((pickL lots kk).take (i' + 1)) = sideOf (sdOf b) ((pickL lots kk).take i') ++ if onSide (sdOf b) l.1 = true then [l] else [] := by
          rw [take_snoc hl]
          unfold sideOf
          rw [List.filter_append]
          congr 1
          by_cases c : onSide (sdOf b) l.1 = true
          · simp [List.filter, c]
          · simp [List.filter, c]
        refine ite2 (fun c => ?_) (fun c => ?_)
        · have c' : onSide (sdOf b) l.1 = true := hne.mpr (by simpa using c)
          refine ⟨_, gD, Nat.lt_of_lt_of_le (by rw [List.length_map]; omega : _ < 1000) (by decide), same_set S4 hD, os ++ [1], ?_, by simp; omega, ?_⟩
          · rw [List.map_append]; exact upd_same
          · rw [ets, if_pos c']; simp
        · have c' : ¬ onSide (sdOf b) l.1 = true := fun e => c (by simpa using hne.mp e)
          refine ⟨S4, os, gD, by omega, ?_⟩
          rw [ets, if_neg c', List.append_nil]
          exact hiff
      rintro H4 ⟨S4, os, gD, hol, hiff⟩
      have hvl : vs.length = (pickL lots kk).length := by rw [dpAll_len hv2, List.length_map]
      rw [hvl, List.take_of_length_le (Nat.le_refl _)] at hiff
      refine ⟨(by show 0 ≤ sizeLine; decide), fun q2 hq2 => ?_⟩
      have S5 := same_upd (o := HO.lst []) hq2
      refine ⟨.list (os.map .int), .list [], .lst (SqL.of (S5 _ _ gD)) (dpAll_ints os), .lst (SqL.of upd_same) .nil, shaped_ints os, rfl, _, rfl, ?_⟩
      cases os with
      | nil =>
        rw [show PyData.eqv (.list (([] : List Int).map .int)) (.list []) = true by simp [PyData.eqv, PyData.eqvAll]]
        refine iteT ?_
        have hb : Barred (sdOf b) lots ks n.toNat := ⟨kk, List.mem_of_getElem? hkk, hiff.mp rfl⟩
        exact ⟨_, rfl, _, rfl, k _ none ((S13.trans S4).trans S5) hb⟩
      | cons o os =>
        rw [show PyData.eqv (.list ((o :: os).map .int)) (.list []) = false by simp [PyData.eqv, PyData.eqvAll]]
        refine iteF ⟨_, _, rfl, (S3.trans S4).trans S5, fun k' hk' => ?_⟩
        rw [take_snoc hkk] at hk'
        rcases List.mem_append.mp hk' with h | h
        · exact hside k' h
        · rw [List.mem_singleton.mp h]
          exact fun e => by have := hiff.mpr e; cases this
    · rintro σ' H3 ⟨u7, u8, rfl, S3, hside⟩
      rw [List.length_map, List.take_of_length_le (Nat.le_refl _)] at hside
      have hnb : ¬ Barred (sdOf b) lots ks n.toNat := fun ⟨k', h1, h2⟩ => hside k' h1 h2
      have S13 := Sr.trans S3
      refine ⟨_, rfl, cp, rfl, ⟨_, SqL.of (S13 _ _ gc)⟩, fun D hD => ?_⟩
      refine lc_list (K := K) (a := cp) (xs := refs (cadr cs)) (fun i H' => Same H3 H' ∧ H' D = some (.lst (((cs.take i).map fun c => decide (goneR (chRows c) ks x n.toNat ≥ y)).map V.bl))) ⟨same_upd hD, upd_same⟩ (fun i H' _ ⟨S, _⟩ => SqL.of (S _ _ (S13 _ _ gc))) ?_ ?_
      · rintro i y H4 hi ⟨S4, gD⟩
        obtain ⟨c, hcc, rfl⟩ := cadr_at hi
        have hcm := List.mem_of_getElem? hcc
        have hil := (List.getElem?_eq_some_iff.mp hcc).1
        obtain ⟨g1, g2, g3⟩ := ((hcs c hcm).same S13).same S4
        refine ⟨rfl, yes_ite ?_⟩
        refine ⟨_, rfl, _, rfl, _, rfl, _, rfl, c.1, lp, [c.2.1, c.2.2], ks, x, n, rfl, g1, fun e he => ?_, S4 _ _ (S13 _ _ gl), h0, fun k' hk' => ⟨(hk k' hk').1, (hk k' hk').2.1, hrow c hcm k' hk'⟩, h100, hx, hn0, hn, ?_⟩
        · rcases List.mem_cons.mp he with e' | e'
          · rw [e']; exact g2
          · rw [List.mem_singleton.mp e']; exact g3
        refine ⟨_, rfl, _, _, rfl, rfl, ?_⟩
        refine ⟨_, gD, Nat.lt_of_lt_of_le (by simp; omega : _ < 1000001) (by decide), same_set S4 hD, ?_⟩
        rw [take_snoc hcc, List.map_append, List.map_append]
        exact upd_same
      rintro H4 ⟨S4, gD⟩
      rw [cadr_len, List.take_of_length_le (Nat.le_refl _)] at gD
      have hne : (cs.map fun c => goneR (chRows c) ks x n.toNat) ≠ [] := fun e => by
        have := congrArg List.length e
        rw [List.length_map, List.length_nil] at this
        omega
      cases b with
      | true =>
        obtain ⟨m, hm, hall⟩ := min_ex hne
        have hd : DueIs (sdOf true) (cs.map chRows) lots ks x n.toNat (some m) := by
          refine ⟨hnb, ?_, fun rs hrs => ⟨fun _ => ?_, fun e => absurd e (by decide +kernel)⟩⟩
          · obtain ⟨c, hcm, e⟩ := List.mem_map.mp hm
            exact ⟨chRows c, List.mem_map.mpr ⟨c, hcm, rfl⟩, e⟩
          · obtain ⟨c, hcm, rfl⟩ := List.mem_map.mp hrs
            exact hall _ (List.mem_map.mpr ⟨c, hcm, rfl⟩)
        have kk := k H4 (some m) (S13.trans S4) hd
        refine ⟨_, rfl, _, rfl, iteT ⟨_, rfl, D, _, rfl, SqL.of gD, ?_⟩⟩
        have e : ((cs.map fun c => decide (goneR (chRows c) ks x n.toNat ≥ y)).all id) = decide (y ≤ m) := by
          rw [Bool.eq_iff_iff, List.all_eq_true, decide_eq_true_iff]
          constructor
          · intro h
            obtain ⟨c, hcm, e⟩ := List.mem_map.mp hm
            have := h _ (List.mem_map.mpr ⟨c, hcm, rfl⟩)
            rw [← e]
            simpa using this
          · rintro h b hb
            obtain ⟨c, hcm, rfl⟩ := List.mem_map.mp hb
            have := hall _ (List.mem_map.mpr ⟨c, hcm, rfl⟩)
            exact decide_eq_true (Int.le_trans h this)
        rw [e]
        exact kk
      | false =>
        obtain ⟨m, hm, hall⟩ := max_ex hne
        have hd : DueIs (sdOf false) (cs.map chRows) lots ks x n.toNat (some m) := by
          refine ⟨hnb, ?_, fun rs hrs => ⟨fun e => absurd e (by decide +kernel), fun _ => ?_⟩⟩
          · obtain ⟨c, hcm, e⟩ := List.mem_map.mp hm
            exact ⟨chRows c, List.mem_map.mpr ⟨c, hcm, rfl⟩, e⟩
          · obtain ⟨c, hcm, rfl⟩ := List.mem_map.mp hrs
            exact hall _ (List.mem_map.mpr ⟨c, hcm, rfl⟩)
        have kk := k H4 (some m) (S13.trans S4) hd
        refine ⟨_, rfl, _, rfl, iteF ⟨_, rfl, D, _, rfl, SqL.of gD, ?_⟩⟩
        have e : ((cs.map fun c => decide (goneR (chRows c) ks x n.toNat ≥ y)).any id) = decide (y ≤ m) := by
          rw [Bool.eq_iff_iff, List.any_eq_true, decide_eq_true_iff]
          constructor
          · rintro ⟨b, hb, h⟩
            obtain ⟨c, hcm, rfl⟩ := List.mem_map.mp hb
            have := hall _ (List.mem_map.mpr ⟨c, hcm, rfl⟩)
            have h2 : goneR (chRows c) ks x n.toNat ≥ y := by simpa using h
            exact Int.le_trans h2 this
          · intro h
            obtain ⟨c, hcm, e⟩ := List.mem_map.mp hm
            exact ⟨_, List.mem_map.mpr ⟨c, hcm, rfl⟩, by rw [e]; simpa using h⟩
        rw [e]
        exact kk
theorem ok_law_right (T : Tx K w mg Z) : FnOk P w K mg base CX0 1 Z.a_law_right Z.d_law_right P_law_right (spRight38 K) := by
  refine T.F_law_right.ok sclaw_right (fun vs H Q E h => ?_) (fun cdv A outer s H vs Q E hr h => ?_)
  · obtain ⟨dp, r, due, rfl, _⟩ := h
    rfl
  · obtain ⟨dp, r, due, rfl, gd, hr9, k⟩ := h
    refine ⟨_, (C8.pss_cut (ps_if (pt_cmpR (eqDK (K := K) hr.units) (pv 1) (pe_lst pa_nil) (nomark _)) (pss_one (ps_ret (pe_or (pe_cmpR op_isN (pv 0) pe_non (nomark _)) (pe_one (pe_cmpR op_gt (pv 0) pe_int (nomark _)))))) pss_nil)
      (pss_one (ps_ret (pe_and (pe_callB (isiK (K := K)) (by rfl) T.b_isinstance (by decide +kernel) (pa_cons (pv 0) (pa_cons (pe_bltn (v := .ty "int") (by rfl) T.b_int (by decide +kernel) rfl) pa_nil))) (pe_and (pe_not (pe_callB (isiK (K := K)) (by rfl) T.b_isinstance (by decide +kernel) (pa_cons (pv 0) (pa_cons (pe_bltn (v := .ty "bool") (by rfl) T.b_bool (by decide +kernel) rfl) pa_nil)))) (pe_one (pe_cmpR (eqDK (K := K) hr.units) (pv 0) (pe_ix (ixL (K := K)) (pv 1) pe_int (fun _ _ => rfl)) (nomark _)))))))), ?_⟩
    cases due with
    | nil =>
      refine ⟨fun _ _ => False, ?_, fun _ _ z => z.elim⟩
      refine ⟨_, rfl, (by show 0 ≤ sizeLine; decide), fun q hq => ?_⟩
      have S := same_upd (o := HO.lst ([] : List V)) hq
      refine ⟨.list [], .list [], .lst (SqL.of (S _ _ gd)) .nil, .lst (SqL.of upd_same) .nil, rfl, rfl, _, rfl, iteT ?_⟩
      have kk := k _ S
      rcases hr9 with e | ⟨n, e, h6⟩
      · subst e
        exact ⟨_, rfl, rfl, _, rfl, iteT kk⟩
      · subst e
        refine ⟨_, rfl, rfl, _, rfl, iteF ?_⟩
        refine ⟨_, rfl, _, _, rfl, rfl, ?_⟩
        show Q (V.bl (decide ((6 : Int) < (n : Int)))) _
        rw [decide_eq_true (by omega : (6 : Int) < (n : Int))]
        exact kk
    | cons m ms =>
      obtain ⟨n, rfl, rfl⟩ := hr9
      refine ⟨fun σ' H' => σ' = [some (.int (n : Int)), some (.ref dp)] ∧ Same H H', ?_, ?_⟩
      · refine ⟨_, rfl, (by show 0 ≤ sizeLine; decide), fun q hq => ?_⟩
        have S := same_upd (o := HO.lst ([] : List V)) hq
        refine ⟨.list (((n : Int) :: ms).map .int), .list [], .lst (SqL.of (S _ _ gd)) (dpAll_ints _), .lst (SqL.of upd_same) .nil, shaped_ints _, rfl, _, rfl, ?_⟩
        rw [show PyData.eqv (.list (((n : Int) :: ms).map .int)) (.list []) = false by simp [PyData.eqv, PyData.eqvAll]]
        exact iteF ⟨rfl, S⟩
      rintro σ1 H1 ⟨rfl, S1⟩
      refine ⟨_, rfl, ⟨_, _, _, _, true, rfl, .ty _, ty_of (.int _), kit_ty (by simp only [tyName]; decide +kernel), _, rfl, iteT ⟨_, rfl, ⟨_, _, _, _, false, rfl, .ty _, ty_of (.int _), kit_ty (by simp only [tyName]; decide +kernel), _, rfl, _, rfl, iteT ?_⟩⟩⟩⟩
      refine ⟨_, rfl, _, rfl, dp, _, _, .int (n : Int), rfl, rfl, SqL.of (S1 _ _ gd), at_of (j := 0) rfl rfl, .int (n : Int), .int (n : Int), .int _, .int _, rfl, rfl, ?_⟩
      rw [show PyData.eqv (.int (n : Int)) (.int (n : Int)) = true from eqv_sh rfl]
      exact k _ S1
end
end KA
namespace KA
open PySem PySem.Spec PyProof.Rows L2 DP
def spLaw (K : PySem.W.Frag) : Sp := fun vs H Q _ => ∃ (a : Addr) (ns : List Int), vs = [.ref a] ∧ SqL K H a (ns.map V.int) ∧ ns.length ≤ 63 ∧ ∀ H', Q (.bl true) H'
def dU : Option Nat → PyData
  | none => .none
  | some n => .int (n : Int)
theorem dp_uV {K : PySem.W.Frag} {H : Hp} : ∀ o, Dp K H (uV o) (dU o)
  | none => .non
  | some n => .int _
theorem shaped_dU : ∀ o, SeqAt.shaped (dU o) = true
  | none => rfl
  | some i => rfl
theorem eqv_dU (o : Option Nat) : PyData.eqv (dU o) (dU o) = true := by
  cases o <;> simp [dU, PyData.eqv]
theorem home_sz110 {L : Int} (hL : 0 < L) (hLb : L.natAbs < 2 ^ 100) {l : Lk} (h : Sized 110 l) : Sized 114 (home L l) := by
  obtain ⟨h1, h2⟩ := h
  have q0 := Int.emod_nonneg l.2.1 (Int.ne_of_gt hL)
  have q1 := Int.emod_lt_of_pos l.2.1 hL
  have q2 := Int.mul_ediv_add_emod l.2.1 L
  rw [Int.mul_comm] at q2
  have p1 : (2 : Nat) ^ 114 = 16 * 2 ^ 110 := by decide
  have p2 : (2 : Nat) ^ 110 = 1024 * 2 ^ 100 := by decide
  unfold Sized home
  rw [p1, p2]
  rw [p2] at h1 h2
  generalize (2 : Nat) ^ 100 = B at hLb h1 h2 ⊢
  generalize l.2.1 / L * L = c at q2 ⊢
  show (l.2.1 - c).natAbs < _ ∧ (l.2.2 - c).natAbs < _
  generalize l.2.1 % L = r at q0 q1 q2
  constructor <;> omega
theorem least_one {p : Nat → Bool} : ∀ {r r' : Option Nat}, LeastN p r → LeastN p r' → r = r'
  | none, none, _, _ => rfl
  | none, some n, h, h' => by have := h n; rw [h'.1] at this; cases this
  | some n, none, h, h' => by have := h' n; rw [h.1] at this; cases this
  | some n, some m, h, h' => by
    have h1 : ¬ n < m := fun c => by have := h'.2 n c; rw [h.1] at this; cases this
    have h2 : ¬ m < n := fun c => by have := h.2 m c; rw [h'.1] at this; cases this
    rw [show n = m by omega]
theorem right_of {F : Nat → Option Int} {b : Bool} {y : Int} {r : Option Nat} (h : LeastN (comesB F b y) r) : RightN r ((natsL 7).filter fun z => comesO b y (F z.toNat)) := by
  cases e : (natsL 7).filter fun z => comesO b y (F z.toNat) with
  | nil =>
    have h0 := List.filter_eq_nil_iff.mp e
    cases r with
    | none => exact .inl rfl
    | some n =>
      refine .inr ⟨n, rfl, Nat.lt_of_not_le fun c => ?_⟩
      have h1 := h.1
      rw [comesB_O] at h1
      exact h0 (n : Int) (natsL_mem.mpr ⟨by omega, by omega⟩) (by rw [Int.toNat_natCast]; exact h1)
  | cons m ms =>
    have hm : m ∈ (natsL 7).filter fun z => comesO b y (F z.toNat) := by rw [e]; exact List.mem_cons_self
    obtain ⟨h1, h2⟩ := List.mem_filter.mp hm
    have h3 := natsL_mem.mp h1
    have hfirst : ∀ k : Nat, (k : Int) < m → comesO b y (F k) = false := fun k hk => by
      rw [← Bool.not_eq_true]
      intro c
      have hkm : (k : Int) ∈ (natsL 7).filter fun z => comesO b y (F z.toNat) := List.mem_filter.mpr ⟨natsL_mem.mpr ⟨by omega, by omega⟩, by rw [Int.toNat_natCast]; exact c⟩
      have hpw : ((natsL 7).filter fun z => comesO b y (F z.toNat)).Pairwise (· < ·) := List.Pairwise.filter _ (by decide)
      rw [e] at hkm hpw
      rcases List.mem_cons.mp hkm with q | q
      · omega
      · have := (List.pairwise_cons.mp hpw).1 _ q
        omega
    cases r with
    | none =>
      have := h m.toNat
      rw [comesB_O] at this
      have h2' : comesO b y (F m.toNat) = true := h2
      rw [h2'] at this; cases this
    | some n =>
      refine ⟨n, rfl, ?_⟩
      have a1 := h.1
      rw [comesB_O] at a1
      have a2 : ¬ (n : Int) < m := fun c => by have := hfirst n c; rw [a1] at this; cases this
      have a3 : ¬ m.toNat < n := fun c => by
        have := h.2 m.toNat c
        rw [comesB_O] at this
        have h2' : comesO b y (F m.toNat) = true := h2
        rw [h2'] at this; cases this
      omega
section
variable {P : Program} {w : World} {K : PySem.W.Frag} {mg : Str → Option Value} {base : Heap} {Z : Ad}
theorem ok_law (T : Tx K w mg Z) : FnOk P w K mg base CX0 9 Z.a_law Z.d_law P_law (spLaw K) := by
  refine T.F_law.ok sclaw (fun vs H Q E h => ?_) (fun cdv A outer s H vs Q E hr h => ?_)
  · obtain ⟨a, ns, rfl, _⟩ := h
    rfl
  · obtain ⟨a, ns, rfl, hS, hlen, k⟩ := h
    refine ⟨_, (pss_cons (ps_set (i := 1) sclaw.nd rfl (Or.inr rfl) (pe_call (ok_law_deck T) (hr.mono (by decide)) (by rfl) T.g_law_deck T.F_law_deck.kp T.bb_law_deck .nil pass0 (pa_cons (pv 0) pa_nil)))
      (pss_cons (ps_for PassesOwn.never rfl (pi_range1 (by rfl) T.b_range (pa_cons (pe_op op_add pe_int (pe_callB (call_min2 rfl) (by rfl) T.b_min (by decide +kernel) (pa_cons pe_int (pa_cons (pe_callB (lenK (K := K)) (by rfl) T.b_len (by decide +kernel) (pa_cons (pv 0) pa_nil)) pa_nil)))) pa_nil)) (pg_name (i := 2) sclaw.nd rfl (Or.inl rfl)) (C8.pss_cut (ps_set (i := 3) sclaw.nd rfl (Or.inr rfl) (pe_ix (ixL (K := K)) (pe_lst (pa_cons (pe_lst (pa_cons pe_int pa_nil)) (pa_cons (pe_lst (pa_cons pe_int (pa_cons pe_int pa_nil))) (pa_cons (pe_lst (pa_cons pe_int (pa_cons pe_int pa_nil))) (pa_cons (pe_lst (pa_cons pe_int (pa_cons pe_int (pa_cons pe_int pa_nil)))) (pa_cons (pe_lst (pa_cons pe_int (pa_cons pe_int (pa_cons pe_int pa_nil)))) (pa_cons (pe_lst (pa_cons pe_int (pa_cons pe_int pa_nil))) pa_nil))))))) (pe_call (ok_law_take T) (hr.mono (by decide)) (by rfl) T.g_law_take T.F_law_take.kp T.bb_law_take .nil pass0 (pa_cons (pv 1) (pa_cons pe_int pa_nil))) (fun _ _ => rfl)))
      (C8.pss_cut (ps_set (i := 4) sclaw.nd rfl (Or.inr rfl) (pe_op op_add pe_int (pe_call (ok_law_take T) (hr.mono (by decide)) (by rfl) T.g_law_take T.F_law_take.kp T.bb_law_take .nil pass0 (pa_cons (pv 1) (pa_cons (pe_ix (ixL (K := K)) (pe_lst (pa_cons pe_int (pa_cons pe_int pa_nil))) (pe_callTy call_int1 (by rfl) T.b_int (by decide +kernel) (pa_cons (pe_cmpR (inS (K := K)) pe_int (pv 3) (by rfl)) pa_nil)) (fun _ _ => rfl)) pa_nil)))))
      (pss_cons (ps_set (i := 5) sclaw.nd rfl (Or.inr rfl) (pe_lst pa_nil))
      (pss_cons (ps_set (i := 6) sclaw.nd rfl (Or.inl rfl) (pe_lst pa_nil))
      (pss_cons (ps_for PassesOwn.never rfl (pi_range1 (by rfl) T.b_range (pa_cons pe_int pa_nil)) (pg_name (i := 7) sclaw.nd rfl (Or.inl rfl)) (pss_cons (ps_set (i := 8) sclaw.nd rfl (Or.inl rfl) (pe_call (ok_law_hidden T) (hr.mono (by decide)) (by rfl) T.g_law_hidden T.F_law_hidden.kp T.bb_law_hidden .nil pass0 (pa_cons (pv 1) (pa_cons (pv 4) (pa_cons (pe_op op_add pe_int (pe_call (ok_law_take T) (hr.mono (by decide)) (by rfl) T.g_law_take T.F_law_take.kp T.bb_law_take .nil pass0 (pa_cons (pv 1) (pa_cons pe_int pa_nil)))) pa_nil)))))
      (pss_cons (ps_set (i := 9) sclaw.nd rfl (Or.inr rfl) (pe_slice (slL (K := K)) (pe_call (ok_law_looks T) (hr.mono (by decide)) (by rfl) T.g_law_looks T.F_law_looks.kp T.bb_law_looks .nil pass0 (pa_cons (pv 1) (pa_cons (pv 4) (pa_cons (pv 8) pa_nil)))) po_none (po_some pe_int)))
      (pss_cons (ps_set (i := 10) sclaw.nd rfl (Or.inl rfl) (pe_call (ok_law_tables T) (hr.mono (by decide)) (by rfl) T.g_law_tables T.F_law_tables.kp T.bb_law_tables .nil pass0 (pa_cons (pv 4) (pa_cons (pe_op op_sub (pe_ix (ixT (K := K)) (pe_ix (ixL (K := K)) (pv 8) pe_int (fun _ _ => rfl)) pe_int (fun _ _ => rfl)) (pe_op op_mulW pe_int (pv 4))) (pa_cons (pe_op op_add (pe_ix (ixT (K := K)) (pe_ix (ixL (K := K)) (pv 8) pe_int (fun _ _ => rfl)) pe_int (fun _ _ => rfl)) (pe_op op_mulW pe_int (pv 4))) pa_nil)))))
      (pss_cons (ps_expr (pe_bm PySem.F.plainAttrs_list PySem.F.slot_list_append PySem.F.type_list_append mt_append (pv 6) (pa_cons (pe_lc (own := [("row", 11)]) (g := gName 11) (tt := _) rfl sclaw.nd (pi_list (pv 10)) (blkOk_by (own := [("row", 11)]) (N := N_law) (sc := defScope slaw) (by decide +kernel)) (fun _ _ _ _ _ => (pg_name (i := 11) sclaw.nd rfl (Or.inr rfl))) (fun _ _ _ _ _ => (pts_one (pt_cmpR (eqDK (K := K) hr.units) (pe_lc (own := [("look", 12)]) (g := gName 12) (tt := _) rfl sclaw.nd (pi_listK (K := K) (pv 9)) (blkOk_in (own := [("look", 12)]) (N := N_law) (sc := { kind := .function, names := [(".0", .local), ("row", .cell), ("some", .free)], isGenerator := false, isCoroutine := false }) (by decide +kernel)) (fun _ _ _ _ _ => (pg_name (i := 12) sclaw.nd rfl (Or.inl rfl))) (fun _ _ _ _ _ => (pts_one (pt_not (pt_val (pe_call (ok_law_is_so T) (hr.mono (by decide)) (by rfl) T.g_law_is_so T.F_law_is_so.kp T.bb_law_is_so .nil pass0 (pa_cons (pv 11) (pa_cons (pv 12) pa_nil))))))) (fun _ _ _ _ _ => (pv 12))) (pe_lst pa_nil) (nomark _)))) (fun _ _ _ _ _ => (pv 11))) pa_nil)))
      (pss_one (ps_expr (pe_bm PySem.F.plainAttrs_list PySem.F.slot_list_append PySem.F.type_list_append mt_append (pv 5) (pa_cons (pv 9) pa_nil)))))))))
      (pss_cons (ps_set (i := 13) sclaw.nd rfl (Or.inr rfl) (pe_lc (own := [("some", 9)]) (g := gName 9) (tt := tYes) rfl sclaw.nd (pi_list (pv 5)) (blkOk_by (own := [("some", 9)]) (N := N_law) (sc := defScope slaw) (by decide +kernel)) (fun _ _ _ _ _ => (pg_name (i := 9) sclaw.nd rfl (Or.inl rfl))) (fun _ _ _ _ _ => pts_nil) (fun _ _ _ _ _ => (pe_call (ok_law_dark T) (hr.mono (by decide)) (by rfl) T.g_law_dark T.F_law_dark.kp T.bb_law_dark .nil pass0 (pa_cons (pv 1) (pa_cons (pv 4) (pa_cons (pv 9) pa_nil)))))))
      (pss_cons (ps_set (i := 14) sclaw.nd rfl (Or.inr rfl) (pe_call (ok_law_pairs T) (hr.mono (by decide)) (by rfl) T.g_law_pairs T.F_law_pairs.kp T.bb_law_pairs .nil pass0 (pa_cons (pv 6) (pa_cons (pv 3) pa_nil))))
      (pss_cons (ps_setLc (i := 15) (own := [("k", 7)]) (g := gName 7) (tt := tYes) rfl sclaw.nd rfl rfl (sw_true rfl rfl rfl (by decide +kernel)) (pi_list (pv 3)) (blkOk_by (own := [("k", 7)]) (N := N_law) (sc := defScope slaw) (by decide +kernel)) (fun _ _ _ _ _ => (pg_name (i := 7) sclaw.nd rfl (Or.inl rfl))) (fun _ _ _ _ _ => pts_nil) (fun _ _ _ _ _ => (pe_ix (ixL (K := K)) (pv 13) (pv 7) (fun _ _ => rfl))))
      (pss_cons (ps_for PassesOwn.never rfl (pi_range1 (by rfl) T.b_range (pa_cons pe_int pa_nil)) (pg_name (i := 16) sclaw.nd rfl (Or.inl rfl)) (C8.pss_cut (ps_set (i := 17) sclaw.nd rfl (Or.inr rfl) (pe_op op_sub (pe_call (ok_law_take T) (hr.mono (by decide)) (by rfl) T.g_law_take T.F_law_take.kp T.bb_law_take .nil pass0 (pa_cons (pv 1) (pa_cons (pe_op op_mulW pe_int (pv 4)) pa_nil))) (pv 4)))
      (C8.pss_cut (ps_set (i := 18) sclaw.nd rfl (Or.inr rfl) (pe_op op_add (pv 17) (pe_ix (ixL (K := K)) (pe_lst (pa_cons (pe_call (ok_law_take T) (hr.mono (by decide)) (by rfl) T.g_law_take T.F_law_take.kp T.bb_law_take .nil pass0 (pa_cons (pv 1) (pa_cons (pe_op op_mulW pe_int (pv 4)) pa_nil))) (pa_cons (pe_op op_sub (pe_call (ok_law_take T) (hr.mono (by decide)) (by rfl) T.g_law_take T.F_law_take.kp T.bb_law_take .nil pass0 (pa_cons (pv 1) (pa_cons (pe_op op_mulW pe_int (pv 4)) pa_nil))) (pv 4)) pa_nil))) (pe_call (ok_law_take T) (hr.mono (by decide)) (by rfl) T.g_law_take T.F_law_take.kp T.bb_law_take .nil pass0 (pa_cons (pv 1) (pa_cons pe_int pa_nil))) (fun _ _ => rfl))))
      (pss_one (ps_for PassesOwn.never rfl (pi_tup (pe_tup (pa_cons pe_bl (pa_cons pe_bl pa_nil)))) (pg_name (i := 19) sclaw.nd rfl (Or.inr rfl)) (C8.pss_cut (ps_setLc (i := 20) (own := [("n", 21)]) (g := gName 21) (tt := _) rfl sclaw.nd rfl rfl (sw_true rfl rfl rfl (by decide +kernel)) (pi_range1 (by rfl) T.b_range (pa_cons pe_int pa_nil)) (blkOk_by (own := [("n", 21)]) (N := N_law) (sc := defScope slaw) (by decide +kernel)) (fun _ _ _ _ _ => (pg_name (i := 21) sclaw.nd rfl (Or.inl rfl))) (fun _ _ _ _ _ => (pts_one (pt_val (pe_call (ok_law_reached T) (hr.mono (by decide)) (by rfl) T.g_law_reached T.F_law_reached.kp T.bb_law_reached .nil pass0 (pa_cons (pv 14) (pa_cons (pv 5) (pa_cons (pv 3) (pa_cons (pv 17) (pa_cons (pv 18) (pa_cons (pv 21) (pa_cons (pv 19) pa_nil))))))))))) (fun _ _ _ _ _ => (pv 21)))
      (C8.pss_cut (ps_set (i := 22) sclaw.nd rfl (Or.inl rfl) (pe_ifExp (pt_val (pv 19)) (pe_call (ok_most_uses T) (hr.mono (by decide)) (by rfl) T.g_most_uses T.F_most_uses.kp T.bb_most_uses .nil pass0 (pa_cons (pv 15) (pa_cons (pv 17) (pa_cons (pv 18) pa_nil)))) (pe_call (ok_fewest_uses T) (hr.mono (by decide)) (by rfl) T.g_fewest_uses T.F_fewest_uses.kp T.bb_fewest_uses .nil pass0 (pa_cons (pv 15) (pa_cons (pv 17) (pa_cons (pv 18) pa_nil))))))
      (C8.pss_cut (ps_if (pt_not (pt_val (pe_call (ok_law_right T) (hr.mono (by decide)) (by rfl) T.g_law_right T.F_law_right.kp T.bb_law_right .nil pass0 (pa_cons (pv 22) (pa_cons (pv 20) pa_nil))))) (pss_one (ps_ret pe_bl)) pss_nil)
      (C8.pss_cut (ps_set (i := 23) sclaw.nd rfl (Or.inl rfl) (pe_ifExp (pt_val (pv 19)) (KW.pe_callN0 (ok_most_uses T) (hr.mono (by decide)) (by rfl) T.g_most_uses T.F_most_uses.kp T.kn_most_uses_y_hands_x pass0 (pk_cons (pv 18) (pk_cons (pv 15) (pk_cons (pv 17) pk_nil)))) (pe_callN (ok_fewest_uses T) (hr.mono (by decide)) (by rfl) T.g_fewest_uses T.F_fewest_uses.kp T.kn_fewest_uses_y_x pass0 (pa_cons (pv 15) pa_nil) (pk_cons (pv 18) (pk_cons (pv 17) pk_nil)))))
      (pss_one (ps_if (pt_cmpR (neDK (K := K) hr.units) (pv 23) (pv 22) (nomark _)) (pss_one (ps_ret pe_bl)) pss_nil)))))))))))
      (C8.pss_cut (ps_if (pt_cmpR (neOK (K := K) hr.units) (pv 15) (pe_lc (own := [("k", 7)]) (g := gName 7) (tt := tYes) rfl sclaw.nd (pi_list (pv 3)) (blkOk_by (own := [("k", 7)]) (N := N_law) (sc := defScope slaw) (by decide +kernel)) (fun _ _ _ _ _ => (pg_name (i := 7) sclaw.nd rfl (Or.inl rfl))) (fun _ _ _ _ _ => pts_nil) (fun _ _ _ _ _ => (pe_ix (ixL (K := K)) (pv 13) (pv 7) (fun _ _ => rfl)))) (nomark _)) (pss_one (ps_ret pe_bl)) pss_nil)
      (pss_one (ps_if (pt_cmpR (neDK (K := K) hr.units) (pe_lc (own := [("dark", 24)]) (g := gName 24) (tt := tYes) rfl sclaw.nd (pi_list (pv 13)) (blkOk_by (own := [("dark", 24)]) (N := N_law) (sc := defScope slaw) (by decide +kernel)) (fun _ _ _ _ _ => (pg_name (i := 24) sclaw.nd rfl (Or.inl rfl))) (fun _ _ _ _ _ => pts_nil) (fun _ _ _ _ _ => (pe_meth0 (pv 24) T.cl T.m_Dark_looks (ok_Dark_looks T) (hr.mono (by decide)) T.bb_Dark_looks .nil pass0))) (pe_lc (own := [("some", 9)]) (g := gName 9) (tt := tYes) rfl sclaw.nd (pi_list (pv 5)) (blkOk_by (own := [("some", 9)]) (N := N_law) (sc := defScope slaw) (by decide +kernel)) (fun _ _ _ _ _ => (pg_name (i := 9) sclaw.nd rfl (Or.inl rfl))) (fun _ _ _ _ _ => pts_nil) (fun _ _ _ _ _ => (pe_callB (SD.sortSetDK (K := K) (P := P) (w := w) rfl (rooms64 hr)) (by rfl) T.b_sorted (by decide +kernel) (pa_cons (pe_callTy (SD.setDK (K := K) (P := P) (w := w) rfl (rooms64 hr)) (by rfl) T.b_set (by decide +kernel) (pa_cons (pv 9) pa_nil)) pa_nil)))) (nomark _)) (pss_one (ps_ret pe_bl)) pss_nil)))))))))))))
      (pss_one (ps_ret pe_bl)))), ?_⟩
    refine ⟨_, rfl, a, ns, rfl, hS, hlen, fun H0 t g T0 S0 ht hg => ?_⟩
    refine ⟨_, rfl, a, _, rfl, .inl (Same.sqL S0 hS), _, _, rfl, _, _, rfl, rfl, ?_⟩
    obtain ⟨cut, hcut⟩ : ∃ cut, cut = (if ((ns.map V.int).length : Int) < 2 then ((ns.map V.int).length : Int) else 2) := ⟨_, rfl⟩
    have hc0 : 0 ≤ cut := by rw [hcut]; split <;> omega
    have hc4 : cut ≤ 2 := by rw [hcut]; split <;> omega
    refine ⟨1 + cut, by rw [hcut], by omega, by omega, ?_⟩
    refine for_range (n := (1 + cut).toNat) (fun i σ' H' => ∃ (u2 u3 u4 u5 u6 u7 u8 u9 u10 u11 u12 u13 u14 u15 u16 u17 u18 u19 u20 u21 u22 u23 u24 : Option V), σ' = [some (.ref a), some (.ref t), u2, u3, u4, u5, u6, u7, u8, u9, u10, u11, u12, u13, u14, u15, u16, u17, u18, u19, u20, u21, u22, u23, u24] ∧ Tray H' t g (60000 * i)) ⟨_, _, _, _, _, _, _, _, _, _, _, _, _, _, _, _, _, _, _, _, _, _, _, rfl, T0⟩ ?_ ?_
    rotate_left
    · rintro σ' H' ⟨_, _, _, _, _, _, _, _, _, _, _, _, _, _, _, _, _, _, _, _, _, _, _, rfl, _⟩
      exact k H'
    rintro i σ' H1 hi ⟨u2, u3, u4, u5, u6, u7, u8, u9, u10, u11, u12, u13, u14, u15, u16, u17, u18, u19, u20, u21, u22, u23, u24, rfl, T1⟩
    have hn : ∀ m, m ≤ 60000 * i + 60000 → m < 2 ^ 40 := fun m hm => Nat.lt_of_le_of_lt (by omega : m ≤ 2000000) (by decide)
    obtain ⟨N, eN⟩ : ∃ N, N = 60000 * i := ⟨_, rfl⟩
    have eN2 : 60000 * (i + 1) = N + 60000 := by omega
    rw [eN2]
    rw [← eN] at T1 hn
    have h60 : ∀ m, m ≤ N + 60000 → m < 2 ^ 60 := fun m hm => Nat.lt_trans (hn m hm) (by decide)
    have h50 : ∀ m, m ≤ N + 60000 → m < 2 ^ 50 := fun m hm => Nat.lt_trans (hn m hm) (by decide)
    have h52 : ∀ m, m ≤ N + 60000 → m < 2 ^ 52 := fun m hm => Nat.lt_trans (hn m hm) (by decide)
    have h55 : ∀ m, m ≤ N + 60000 → m < 2 ^ 55 := fun m hm => Nat.lt_trans (hn m hm) (by decide)
    -- line
    refine ⟨fun σ' H' => ∃ (lp : Addr) (ks : List Int), σ' = [some (.ref a), some (.ref t), some (.int (0 + (i : Nat))), some (.ref lp), u4, u5, u6, u7, u8, u9, u10, u11, u12, u13, u14, u15, u16, u17, u18, u19, u20, u21, u22, u23, u24] ∧ Tray H' t g (N + 1) ∧ H' lp = some (.lst (ks.map V.int)) ∧ lp ≠ t ∧ lp ≠ g ∧ LineOk ks, ?_, ?_⟩
    · refine ⟨(by show 1 ≤ sizeLine; decide), fun q1 h1 => ⟨(by show 2 ≤ sizeLine; decide), fun q2 h2 => ⟨(by show 2 ≤ sizeLine; decide), fun q3 h3 => ⟨(by show 3 ≤ sizeLine; decide), fun q4 h4 => ⟨(by show 3 ≤ sizeLine; decide), fun q5 h5 => ⟨(by show 2 ≤ sizeLine; decide), fun q6 h6 => ⟨(by show 6 ≤ sizeLine; decide), fun q hq => ?_⟩⟩⟩⟩⟩⟩⟩
      have e1 : HO.lst [V.int 0] = HO.lst (([0] : List Int).map V.int) := rfl
      have e2 : HO.lst [V.int 0, V.int 1] = HO.lst (([0, 1] : List Int).map V.int) := rfl
      have e3 : HO.lst [V.int 1, V.int 0] = HO.lst (([1, 0] : List Int).map V.int) := rfl
      have e4 : HO.lst [V.int 0, V.int 1, V.int 1] = HO.lst (([0, 1, 1] : List Int).map V.int) := rfl
      have e5 : HO.lst [V.int 0, V.int 0, V.int 1] = HO.lst (([0, 0, 1] : List Int).map V.int) := rfl
      have e6 : HO.lst [V.int 0, V.int 0] = HO.lst (([0, 0] : List Int).map V.int) := rfl
      rw [e1] at h2
      rw [e1, e2] at h3
      rw [e1, e2, e3] at h4
      rw [e1, e2, e3, e4] at h5
      rw [e1, e2, e3, e4, e5] at h6
      rw [e1, e2, e3, e4, e5, e6] at hq
      rw [e1, e2, e3, e4, e5, e6]
      have S1 := same_upd (o := HO.lst (([0] : List Int).map V.int)) h1
      have g1 : (upd H1 q1 (HO.lst (([0] : List Int).map V.int))) q1 = some (HO.lst (([0] : List Int).map V.int)) := upd_same
      generalize upd H1 q1 (HO.lst (([0] : List Int).map V.int)) = I1 at *
      have S2 := same_upd (o := HO.lst (([0, 1] : List Int).map V.int)) h2
      have g2 : (upd I1 q2 (HO.lst (([0, 1] : List Int).map V.int))) q2 = some (HO.lst (([0, 1] : List Int).map V.int)) := upd_same
      generalize upd I1 q2 (HO.lst (([0, 1] : List Int).map V.int)) = I2 at *
      have S3 := same_upd (o := HO.lst (([1, 0] : List Int).map V.int)) h3
      have g3 : (upd I2 q3 (HO.lst (([1, 0] : List Int).map V.int))) q3 = some (HO.lst (([1, 0] : List Int).map V.int)) := upd_same
      generalize upd I2 q3 (HO.lst (([1, 0] : List Int).map V.int)) = I3 at *
      have S4 := same_upd (o := HO.lst (([0, 1, 1] : List Int).map V.int)) h4
      have g4 : (upd I3 q4 (HO.lst (([0, 1, 1] : List Int).map V.int))) q4 = some (HO.lst (([0, 1, 1] : List Int).map V.int)) := upd_same
      generalize upd I3 q4 (HO.lst (([0, 1, 1] : List Int).map V.int)) = I4 at *
      have S5 := same_upd (o := HO.lst (([0, 0, 1] : List Int).map V.int)) h5
      have g5 : (upd I4 q5 (HO.lst (([0, 0, 1] : List Int).map V.int))) q5 = some (HO.lst (([0, 0, 1] : List Int).map V.int)) := upd_same
      generalize upd I4 q5 (HO.lst (([0, 0, 1] : List Int).map V.int)) = I5 at *
      have S6 := same_upd (o := HO.lst (([0, 0] : List Int).map V.int)) h6
      have g6 : (upd I5 q6 (HO.lst (([0, 0] : List Int).map V.int))) q6 = some (HO.lst (([0, 0] : List Int).map V.int)) := upd_same
      generalize upd I5 q6 (HO.lst (([0, 0] : List Int).map V.int)) = I6 at *
      have S7 := same_upd (o := HO.lst [V.ref q1, .ref q2, .ref q3, .ref q4, .ref q5, .ref q6]) hq
      have gq : (upd I6 q (HO.lst [V.ref q1, .ref q2, .ref q3, .ref q4, .ref q5, .ref q6])) q = some (HO.lst [V.ref q1, .ref q2, .ref q3, .ref q4, .ref q5, .ref q6]) := upd_same
      generalize upd I6 q (HO.lst [V.ref q1, .ref q2, .ref q3, .ref q4, .ref q5, .ref q6]) = I7 at *
      have t1 := T1.at_ne h1
      have t2 := (T1.same S1).at_ne h2
      have t3 := ((T1.same S1).same S2).at_ne h3
      have t4 := (((T1.same S1).same S2).same S3).at_ne h4
      have t5 := ((((T1.same S1).same S2).same S3).same S4).at_ne h5
      have t6 := (((((T1.same S1).same S2).same S3).same S4).same S5).at_ne h6
      have T6 := (((((T1.same S1).same S2).same S3).same S4).same S5).same S6
      have tq := T6.at_ne hq
      have T7 := T6.same S7
      refine ⟨_, rfl, t, g, N, 6, rfl, T7, by decide, by decide, h60 _ (by omega), fun I8 c c0 c1 T8 k8 => ?_⟩
      have p6 := k8 _ _ (S7 _ _ g6) t6.1 t6.2
      have p5 := k8 _ _ (S7 _ _ (S6 _ _ g5)) t5.1 t5.2
      have p4 := k8 _ _ (S7 _ _ (S6 _ _ (S5 _ _ g4))) t4.1 t4.2
      have p3 := k8 _ _ (S7 _ _ (S6 _ _ (S5 _ _ (S4 _ _ g3)))) t3.1 t3.2
      have p2 := k8 _ _ (S7 _ _ (S6 _ _ (S5 _ _ (S4 _ _ (S3 _ _ g2))))) t2.1 t2.2
      have p1 := k8 _ _ (S7 _ _ (S6 _ _ (S5 _ _ (S4 _ _ (S3 _ _ (S2 _ _ g1)))))) t1.1 t1.2
      obtain ⟨lp, ks, hat, hlp, hlt, hlg, hks⟩ : ∃ (lp : Addr) (ks : List Int), atI [V.ref q1, .ref q2, .ref q3, .ref q4, .ref q5, .ref q6] c = some (.ref lp) ∧ I8 lp = some (.lst (ks.map V.int)) ∧ lp ≠ t ∧ lp ≠ g ∧ LineOk ks := by
        have : c = 0 ∨ c = 1 ∨ c = 2 ∨ c = 3 ∨ c = 4 ∨ c = 5 := by omega
        rcases this with e | e | e | e | e | e <;> subst e
        · exact ⟨q1, _, rfl, p1, t1.1, t1.2, by decide, by decide, by decide⟩
        · exact ⟨q2, _, rfl, p2, t2.1, t2.2, by decide, by decide, by decide⟩
        · exact ⟨q3, _, rfl, p3, t3.1, t3.2, by decide, by decide, by decide⟩
        · exact ⟨q4, _, rfl, p4, t4.1, t4.2, by decide, by decide, by decide⟩
        · exact ⟨q5, _, rfl, p5, t5.1, t5.2, by decide, by decide, by decide⟩
        · exact ⟨q6, _, rfl, p6, t6.1, t6.2, by decide, by decide, by decide⟩
      exact ⟨q, _, _, _, rfl, rfl, SqL.of (k8 _ _ gq tq.1 tq.2), hat, lp, ks, rfl, T8, hlp, hlt, hlg, hks⟩
    rintro σ1 H2 ⟨lp, ks, rfl, T2, glp, lpt, lpg, hks⟩
    -- wide
    refine ⟨fun σ' H' => ∃ wn : Nat, σ' = [some (.ref a), some (.ref t), some (.int (0 + (i : Nat))), some (.ref lp), some (.int (wn : Int)), u5, u6, u7, u8, u9, u10, u11, u12, u13, u14, u15, u16, u17, u18, u19, u20, u21, u22, u23, u24] ∧ Tray H' t g (N + 2) ∧ H' lp = some (.lst (ks.map V.int)) ∧ 0 < wn ∧ wn ≤ 4 ∧ ((1 : Int) ∈ ks → wn ≤ 3), ?_, ?_⟩
    · refine ⟨_, rfl, (by show 2 ≤ sizeLine; decide), fun q hq => ?_⟩
      obtain ⟨qt, qg⟩ := T2.at_ne hq
      have Sq := same_upd (o := HO.lst [V.int 4, .int 3]) hq
      have T3 := T2.same Sq
      have gl3 := Sq _ _ glp
      refine ⟨_, rfl, lp, _, rfl, .inl (SqL.of gl3), rfl, flat_ints ks, .inr ⟨_, rfl, ?_⟩⟩
      obtain ⟨mx, hmx, hm1, hm4, hm3⟩ : ∃ mx : Int, atI [V.int 4, .int 3] (if (if false = true then !inV (V.int 1) (ks.map V.int) else inV (V.int 1) (ks.map V.int)) = true then (1 : Int) else 0) = some (.int mx) ∧ 0 < mx ∧ mx ≤ 4 ∧ ((1 : Int) ∈ ks → mx ≤ 3) := by
        rw [inV_int]
        by_cases c : (1 : Int) ∈ ks
        · rw [decide_eq_true c]; exact ⟨3, rfl, by decide, by decide, fun _ => by decide⟩
        · rw [decide_eq_false c]; exact ⟨4, rfl, by decide, by decide, fun h => absurd h c⟩
      refine ⟨q, _, _, _, rfl, rfl, SqL.of upd_same, hmx, t, g, N + 1, mx, rfl, T3, hm1, Nat.lt_of_le_of_lt (by omega : mx.natAbs ≤ 4) (by decide), h60 _ (by omega), fun H4 c c0 c1 T4 k4 => ?_⟩
      have e : (1 : Int) + c = ((1 + c).toNat : Int) := by omega
      refine ⟨_, _, rfl, rfl, (1 + c).toNat, by rw [← e]; rfl, T4, k4 _ _ gl3 lpt lpg, by omega, by omega, fun h => ?_⟩
      have := hm3 h
      omega
    rintro σ2 H3 ⟨wn, rfl, T3, gl3, hw0, hw4, hw3⟩
    have hL : (0 : Int) < (wn : Int) := by omega
    have hL30 : (wn : Int) ≤ 10 ^ 30 := Int.le_trans (by omega : (wn : Int) ≤ 4) (by decide)
    have hLb : (wn : Int).natAbs < 2 ^ 100 := bigL hL hL30
    -- lots, every
    refine ⟨(by show 0 ≤ sizeLine; decide), fun Lp hLp => ⟨(by show 0 ≤ sizeLine; decide), fun Ep hEp => ?_⟩⟩
    obtain ⟨Lpt, Lpg⟩ := T3.at_ne hLp
    have Sa := same_upd (o := HO.lst ([] : List V)) hLp
    have gL1 : (upd H3 Lp (.lst [])) Lp = some (.lst []) := upd_same
    generalize upd H3 Lp (.lst []) = H4 at Sa gL1 hEp ⊢
    have T4 := T3.same Sa
    obtain ⟨Ept, Epg⟩ := T4.at_ne hEp
    have Sb := same_upd (o := HO.lst ([] : List V)) hEp
    have gE1 : (upd H4 Ep (.lst [])) Ep = some (.lst []) := upd_same
    generalize upd H4 Ep (.lst []) = H5 at Sb gE1 ⊢
    have T5 := T4.same Sb
    have D5 : Deal K H5 Lp Ep lp t g ks [] := ⟨Sb _ _ gL1, gE1, Sb _ _ (Sa _ _ gl3), (fun _ z => by cases z), ⟨Lpt, Lpg⟩, ⟨Ept, Epg⟩, ⟨lpt, lpg, ne_of_none gl3 hLp, ne_of_none (Sa _ _ gl3) hEp⟩, ne_of_none gL1 hEp⟩
    clear gL1 gE1 gl3 Sa Sb T4 hEp
    refine ⟨2, rfl, by decide, by decide, ?_⟩
    refine for_range (n := 2) (fun j σ' H' => ∃ (u7 u8 u9 u10 u11 u12 u13 u14 u15 u16 u17 u18 u19 u20 u21 u22 u23 u24 : Option V) (rs : List Rec), σ' = [some (.ref a), some (.ref t), some (.int (0 + (i : Nat))), some (.ref lp), some (.int (wn : Int)), some (.ref Lp), some (.ref Ep), u7, u8, u9, u10, u11, u12, u13, u14, u15, u16, u17, u18, u19, u20, u21, u22, u23, u24] ∧ Tray H' t g (N + 2 + 16001 * j) ∧ Deal K H' Lp Ep lp t g ks rs ∧ rs.length = j ∧ ∀ r ∈ rs, RecM wn r) ⟨_, _, _, _, _, _, _, _, _, _, _, _, _, _, _, _, _, _, [], rfl, T5, D5, rfl, fun _ z => by cases z⟩ ?_ ?_
    · rintro j σ' H6 hj ⟨u7, u8, u9, u10, u11, u12, u13, u14, u15, u16, u17, u18, u19, u20, u21, u22, u23, u24, rs, rfl, T6, D6, hrl, hrm⟩
      -- kept
      refine ⟨_, rfl, _, rfl, _, rfl, t, g, _, 4, rfl, T6, by decide, by decide, h60 _ (by omega), fun H7 x x0 x1 T7 k7 => ?_⟩
      have D7 := D6.keep T6 k7
      refine ⟨_, _, rfl, rfl, t, g, _, (wn : Int), 1 + x, rfl, T7, h50 _ (by omega), hL, hL30, by omega, by omega, fun H8 p prs hp B8 lpr R hprs hsm => ?_⟩
      obtain ⟨pt, pg⟩ := T7.at_ne hp
      have D8 := D7.keep T7 B8.k
      obtain ⟨s0, hs0⟩ : ∃ s0, prs[0]? = some s0 := ⟨_, List.getElem?_eq_getElem (Nat.pos_of_ne_zero fun h => R.ne (List.eq_nil_of_length_eq_zero h))⟩
      have hs0b := hsm s0 (List.mem_of_getElem? hs0)
      -- some
      refine ⟨_, rfl, _, rfl, _, rfl, t, g, p, _, (wn : Int), prs, rfl, B8.T, h52 _ (by omega), hL, hL30, lpr, pt, pg, by omega, fun H9 Fq ls hFq B9 lF hsaid hlsl => ?_⟩
      have D9 := D8.keep B8.T B9.k
      have lpr9 := lpr.keep B8.T B9.k pt pg (noLs_map noL_encP prs)
      obtain ⟨vs, hv1, hv2⟩ := lF
      refine ⟨4, rfl, Fq, vs, rfl, SqL.of hv1, fun sa hsa => ?_⟩
      have T9 : Tray H9 t g (N + 2 + 16001 * (j + 1)) := B9.T.up (by omega)
      obtain ⟨sat, sag⟩ := T9.at_ne hsa
      have Sr := same_upd (o := HO.lst (cutV vs none (some 4))) hsa
      have lr : LkAt K (upd H9 sa (HO.lst (cutV vs none (some 4)))) sa (ls.take 4) := by
        refine ⟨cutV vs none (some 4), upd_same, ?_⟩
        have e : cutV vs none (some 4) = vs.take 4 := cut_take (k := 4)
        rw [e, List.map_take]
        exact dpAll_mono (by rw [← e]; exact Sr) _ _ (dpAll_take 4 hv2)
      have saL : sa ≠ Lp := Ne.symm (ne_of_none D9.gL hsa)
      have saE : sa ≠ Ep := Ne.symm (ne_of_none D9.gE hsa)
      generalize upd H9 sa (HO.lst (cutV vs none (some 4))) = H10 at Sr lr ⊢
      have D10 := D9.same Sr
      have T10 := T9.same Sr
      have lpr10 := lpr9.same Sr
      have hsaid4 : ∀ l ∈ ls.take 4, Said (wn : Int) prs l := fun l hl => hsaid l (List.mem_of_mem_take hl)
      have hls4 : (ls.take 4).length ≤ 4 := List.length_take_le _ _
      generalize ls.take 4 = qs at lr hsaid4 hls4
      clear hsaid hlsl hv1 hv2 lpr9 lpr D9 D8 D7
      -- rows
      obtain ⟨pvs, hp1, hp2⟩ := lpr10
      obtain ⟨v0, hv0⟩ : ∃ v0, pvs[0]? = some v0 := ⟨_, List.getElem?_eq_getElem (by
        have := dpAll_len hp2
        rw [List.length_map] at this
        have := (List.getElem?_eq_some_iff.mp hs0).1
        omega)⟩
      obtain ⟨d0, hd0, hdy⟩ := dpAll_get hp2 hv0
      rw [List.getElem?_map, hs0] at hd0
      obtain rfl := Option.some.inj hd0
      obtain ⟨tp, rfl, htp⟩ := dp_pair hdy
      have m2 : CMulW 2 (wn : Int) := wide_mul (a := 10) (by decide) hLb (by decide) (by decide) (by decide)
      refine ⟨_, rfl, _, rfl, p, _, _, _, rfl, rfl, SqL.of hp1, at_of (j := 0) rfl hv0, tp, _, _, _, rfl, rfl, htp, rfl, _, rfl, _, _, rfl, rfl, m2, _, _, rfl, rfl, ?_⟩
      refine ⟨_, rfl, p, _, _, _, rfl, rfl, SqL.of hp1, at_of (j := 0) rfl hv0, tp, _, _, _, rfl, rfl, htp, rfl, _, rfl, _, _, rfl, rfl, m2, _, _, rfl, rfl, ?_⟩
      have e60 : (2 : Nat) ^ 60 = 1152921504606846976 := by decide
      refine ⟨wn, s0.2 - 2 * wn, s0.2 + 2 * wn, rfl, hw0, hw4, by rw [e60]; omega, by rw [e60]; omega, by omega, fun H11 rp es S11 hrp grp ro hv hfr => ?_⟩
      have T11 := T10.same S11
      have D11 := D10.same S11
      have lr11 := lr.same S11
      have hbeg : ∀ e ∈ es, Begun wn (s0.2 - 2 * wn) (s0.2 + 2 * wn) (wn - 1) e.2 := fun e he => (tabs_mem (by omega) _ _).mp (by rw [← hv]; exact List.mem_map.mpr ⟨e, he, rfl⟩)
      have hel : es.length ≤ 2500 := by
        have h1 := tabs_len (w := (wn : Int)) (a := s0.2 - 2 * wn) (b := s0.2 + 2 * wn) (by omega) (wn - 1)
        have h2 : es.length = (tabs wn (s0.2 - 2 * wn) (s0.2 + 2 * wn) (wn - 1)).length := by rw [← hv]; simp [vals]
        rw [← h2] at h1
        have h3 : ((wn : Int).toNat + 1) ^ (wn - 1) ≤ 5 ^ (wn - 1) := Nat.pow_le_pow_left (by omega) _
        have h4 : 5 ^ (wn - 1) ≤ 5 ^ 3 := Nat.pow_le_pow_right (by decide) (by omega)
        exact Nat.le_trans h1 (Nat.le_trans (Nat.mul_le_mul (by omega : _ ≤ 20) (Nat.le_trans h3 h4)) (by decide))
      -- every.append
      refine ⟨_, rfl, .inl ⟨rfl, _, SqL.of D11.gE⟩, _, rfl, rp, rfl, ⟨_, SqL.of grp⟩, fun D hD => ?_⟩
      refine lc_list (K := K) (a := rp) (xs := refs (adr es)) (fun i' H' => Same H11 H' ∧ H' D = some (.lst (refs (adr ((es.take i').filter fun e => good qs e.2))))) ⟨same_upd hD, by rw [List.take_zero]; exact upd_same⟩ (fun i' H' _ ⟨S, _⟩ => SqL.of (S _ _ grp)) ?_ ?_
      · rintro i' y H12 hi' ⟨S12, gD⟩
        obtain ⟨e, he, rfl⟩ := adr_at hi'
        have hem := List.mem_of_getElem? he
        have hil := (List.getElem?_eq_some_iff.mp he).1
        have B := hbeg e hem
        have ge := S12 _ _ (ro e hem)
        obtain ⟨lvs, hl1, hl2⟩ := lr11.same S12
        refine ⟨rfl, ?_⟩
        refine ⟨_, rfl, sa, rfl, ⟨_, SqL.of hl1⟩, fun D2 hD2 => ?_⟩
        refine lc_list (K := K) (a := sa) (xs := lvs) (fun i2 H' => Same H12 H' ∧ ∃ ys, H' D2 = some (.lst ys) ∧ ys.length ≤ i2 ∧ DpAll K H' ys (((qs.take i2).filter fun l => !isSo e.2 l).map encL)) ⟨same_upd hD2, [], upd_same, Nat.le_refl _, by rw [List.take_zero]; exact .nil⟩ (fun i2 H' _ ⟨S, _⟩ => SqL.of (S _ _ hl1)) ?_ ?_
        · rintro i2 v H13 hi2 ⟨S13, ys, gD2, hyl, hyd⟩
          obtain ⟨d, hdi, hdy⟩ := dpAll_get hl2 hi2
          obtain ⟨l, hl, rfl⟩ := map_at hdi
          have hlm := List.mem_of_getElem? hl
          have hil2 := (List.getElem?_eq_some_iff.mp hl).1
          have hdy2 := dp_mono S13 _ _ hdy
          have hsz := (hsaid4 l hlm).sized hL hLb R
          have B' := B.len
          refine ⟨rfl, ?_⟩
          refine ⟨_, rfl, _, rfl, e.1, v, e.2, l, rfl, S13 _ _ ge, by omega, by omega, hdy2, lt_up hsz.1 (by decide), ?_⟩
          have hts : (qs.take (i2 + 1)).filter (fun l => !isSo e.2 l) = (qs.take i2).filter (fun l => !isSo e.2 l) ++ if isSo e.2 l = true then [] else [l] := by
            rw [take_snoc hl, List.filter_append]
            congr 1
            by_cases c : isSo e.2 l = true
            · simp [List.filter, c]
            · simp [List.filter, c]
          by_cases c : isSo e.2 l = true
          · rw [c]
            rw [if_pos c, List.append_nil] at hts
            refine ⟨_, rfl, iteF ⟨S13, ys, gD2, by omega, ?_⟩⟩
            rw [hts]; exact hyd
          · rw [if_neg c] at hts
            rw [Bool.not_eq_true] at c
            rw [c]
            refine ⟨_, rfl, iteT ?_⟩
            refine ⟨_, rfl, _, gD2, Nat.lt_of_lt_of_le (by omega : _ < 1000) (by decide), same_set S13 hD2, ys ++ [v], upd_same, by simp; omega, ?_⟩
            rw [hts, List.map_append]
            exact acc_step gD2 (noLs_map noL_encL _) (noL_encL l) hyd hdy2
        rintro H13 ⟨S13, ys, gD2, hyl, hyd⟩
        have hlv : lvs.length = qs.length := by rw [dpAll_len hl2, List.length_map]
        rw [hlv, List.take_of_length_le (Nat.le_refl _)] at hyd
        refine ⟨(by show 0 ≤ sizeLine; decide), fun q2 hq2 => ?_⟩
        have S14 := same_upd (o := HO.lst ([] : List V)) hq2
        refine ⟨.list ((qs.filter fun l => !isSo e.2 l).map encL), .list [], .lst (SqL.of (S14 _ _ gD2)) (dpAll_mono S14 _ _ hyd), .lst (SqL.of upd_same) .nil, shaped_looks fun l hl => (hsaid4 l (List.mem_filter.mp hl).1).1, rfl, _, rfl, ?_⟩
        have hts : (es.take (i' + 1)).filter (fun e => good qs e.2) = (es.take i').filter (fun e => good qs e.2) ++ if good qs e.2 = true then [e] else [] := by
          rw [take_snoc he, List.filter_append]
          congr 1
          by_cases c : good qs e.2 = true
          · simp [List.filter, c]
          · simp [List.filter, c]
        have gD14 := S14 _ _ (S13 _ _ gD)
        have S1214 := (S12.trans S13).trans S14
        by_cases c : good qs e.2 = true
        · rw [if_pos c] at hts
          have en : qs.filter (fun l => !isSo e.2 l) = [] := List.filter_eq_nil_iff.mpr fun l hl => by
            have := List.all_eq_true.mp c l hl
            simp [this]
          rw [en, show PyData.eqv (.list (([] : List Lk).map encL)) (.list []) = true by simp [PyData.eqv, PyData.eqvAll]]
          refine iteT ?_
          refine ⟨_, rfl, _, gD14, Nat.lt_of_lt_of_le (?_ : _ < 10000) (by decide), same_set S1214 hD, ?_⟩
          · rw [adr_len]
            have := List.length_filter_le (fun e : Ro => good qs e.2) (es.take i')
            have := List.length_take_le i' es
            omega
          · rw [hts, upd_same]; simp [refs, adr]
        · rw [if_neg c, List.append_nil] at hts
          cases en : qs.filter (fun l => !isSo e.2 l) with
          | nil =>
            refine absurd (List.all_eq_true.mpr fun l hl => ?_) c
            have := List.filter_eq_nil_iff.mp en l hl
            simpa using this
          | cons o os =>
            rw [show PyData.eqv (.list ((o :: os).map encL)) (.list []) = false by simp [PyData.eqv, PyData.eqvAll]]
            refine iteF ⟨S1214, ?_⟩
            rw [hts]; exact gD14
      rintro H12 ⟨S12, gD⟩
      rw [adr_len, List.take_of_length_le (Nat.le_refl _)] at gD
      have D12 := D11.same S12
      have T12 := T11.same S12
      have hD11 : H11 D = none := hD
      obtain ⟨Dt, Dg⟩ := T11.at_ne hD
      have DL : D ≠ Lp := fun e => by rw [e, D11.gL] at hD; cases hD
      have DE : D ≠ Ep := fun e => by rw [e, D11.gE] at hD; cases hD
      have hlen1 : (refs (rs.map Rec.p)).length = j := by simp [refs, hrl]
      have hlen2 : (refs (rs.map Rec.a)).length = j := by simp [refs, hrl]
      refine ⟨Ep, _, _, rfl, rfl, D12.gE, small1000 (by rw [hlen1]; omega), ?_⟩
      -- lots.append
      have gL13 : (upd H12 Ep (.lst (refs (rs.map Rec.p) ++ [V.ref D]))) Lp = some (.lst (refs (rs.map Rec.a))) := (upd_ne D12.fr.2.2.2).trans D12.gL
      refine ⟨_, rfl, .inl ⟨rfl, _, SqL.of gL13⟩, _, rfl, Lp, _, _, rfl, rfl, gL13, small1000 (by rw [hlen2]; omega), ?_⟩
      have hrh : RecH K H12 ⟨sa, qs, D, es.filter fun e => good qs e.2⟩ := ⟨lr11.same S12, gD, fun e he => S12 _ _ (ro e (List.mem_filter.mp he).1)⟩
      have hrf : RecF (fun x => x = t ∨ x = g ∨ x = Lp ∨ x = Ep) ⟨sa, qs, D, es.filter fun e => good qs e.2⟩ := ⟨fun c => by rcases c with c | c | c | c; exact sat c; exact sag c; exact saL c; exact saE c, fun c => by rcases c with c | c | c | c; exact Dt c; exact Dg c; exact DL c; exact DE c, fun e he c => by
        have hne := hfr e (List.mem_filter.mp he).1
        have := T10.at_ne hne
        rcases c with c | c | c | c
        · exact this.1 c
        · exact this.2 c
        · rw [c, D10.gL] at hne; cases hne
        · rw [c, D10.gE] at hne; cases hne⟩
      have hT13 : Tray (upd (upd H12 Ep (.lst (refs (rs.map Rec.p) ++ [.ref D]))) Lp (.lst (refs (rs.map Rec.a) ++ [.ref sa]))) t g (N + 2 + 16001 * (j + 1)) := (T12.acc1 Ept Epg).acc1 Lpt Lpg
      refine ⟨_, _, _, _, _, _, _, _, _, _, _, _, _, _, _, _, _, _, rs ++ [⟨sa, qs, D, es.filter fun e => good qs e.2⟩], rfl, hT13, D12.add hrh hrf, by simp [hrl], fun r hr => ?_⟩
      rcases List.mem_append.mp hr with h | h
      · exact hrm r h
      · rw [List.mem_singleton] at h; subst h
        refine ⟨⟨prs, s0, R, hs0, hsaid4, ?_, by omega⟩, hls4⟩
        show vals (es.filter fun e => good qs e.2) = _
        rw [← hv]
        unfold vals
        rw [List.filter_map]; rfl
    rintro σ' H6 ⟨u7, u8, u9, u10, u11, u12, u13, u14, u15, u16, u17, u18, u19, u20, u21, u22, u23, u24, rs, rfl, T6, D6, hrl, hrm⟩
    obtain ⟨r0, r1, rfl⟩ : ∃ r0 r1, rs = [r0, r1] := by
      match rs, hrl with
      | [a, b], _ => exact ⟨a, b, rfl⟩
    have M0 := hrm r0 List.mem_cons_self
    have M1 := hrm r1 (List.mem_cons_of_mem _ List.mem_cons_self)
    clear hrm hrl
    have G : ∀ r ∈ [r0, r1], Good (wn : Int) r.ls := fun r hr => by
      have M : RecM wn r := by
        rcases List.mem_cons.mp hr with e | e
        · rw [e]; exact M0
        · rw [List.mem_singleton.mp e]; exact M1
      obtain ⟨prs, s0, R, hs0, hsaid, hv, hb⟩ := M.ex
      have := said_good hL hLb R hsaid 24 (Nat.le_refl _)
      rwa [List.take_of_length_le (by have := M.len; omega)] at this
    have hLrs : LotsAt K H6 [r0.a, r1.a] [r0.ls, r1.ls] t g := by
      refine ⟨⟨rfl, fun i a ls h1 h2 => ?_⟩, fun a ha => ?_⟩
      · match i with
        | 0 => cases h1; cases h2; exact (D6.rc r0 List.mem_cons_self).1.1
        | 1 => cases h1; cases h2; exact (D6.rc r1 (List.mem_cons_of_mem _ List.mem_cons_self)).1.1
        | i + 2 => simp at h1
      · rcases List.mem_cons.mp ha with e | e
        · have := (D6.rc r0 List.mem_cons_self).2.1
          rw [e]; exact ⟨fun c => this (.inl c), fun c => this (.inr (.inl c))⟩
        · have := (D6.rc r1 (List.mem_cons_of_mem _ List.mem_cons_self)).2.1
          rw [List.mem_singleton.mp e]; exact ⟨fun c => this (.inl c), fun c => this (.inr (.inl c))⟩
    -- darks
    refine ⟨_, rfl, Lp, rfl, ⟨_, SqL.of D6.gL⟩, fun Dk hDk => ?_⟩
    obtain ⟨Dkt, Dkg⟩ := T6.at_ne hDk
    have A6 : At H6 H6 t g (N + 32004) := ⟨T6.up (by omega), Keep.refl _ _ _⟩
    refine lc_list (K := K) (a := Lp) (xs := refs [r0.a, r1.a]) (fun i' H' => At H6 H' t g (N + 32004 + 4 * i') ∧ ∃ ds, H' Dk = some (.lst (refs ds)) ∧ ds.length = i' ∧ DarksAt Z K H' ds wn (([r0.ls, r1.ls].take i').map (heardAll wn)) t g ∧ ∀ d ∈ ds, ∀ la dx, H' d = some (.ins Z.C dx (df wn la)) → la ≠ Dk)
      ⟨A6.new hDk, [], upd_same, rfl, ⟨⟨rfl, fun _ _ _ z => by simp at z⟩, fun _ z => by cases z⟩, fun _ z => by cases z⟩ (fun i' H' _ ⟨A, _⟩ => SqL.of (A.k _ _ D6.gL D6.fr.1.1 D6.fr.1.2)) ?_ ?_
    · rintro i' y H7 hi' ⟨A7, ds, gD7, hdl, dk7, hla7⟩
      obtain ⟨b, hb, rfl⟩ := map_at hi'
      have lo7 := hLrs.keep T6 A7.k
      obtain ⟨ls, hls, hlk⟩ := lo7.1.get hb
      have hbm := List.mem_of_getElem? hb
      have hlsm := List.mem_of_getElem? hls
      have G' : Good (wn : Int) ls := by
        rcases List.mem_cons.mp hlsm with e | e
        · rw [e]; exact G r0 List.mem_cons_self
        · rw [List.mem_singleton.mp e]; exact G r1 (List.mem_cons_of_mem _ List.mem_cons_self)
      have hl4 : ls.length ≤ 4 := by
        rcases List.mem_cons.mp hlsm with e | e
        · rw [e]; exact M0.len
        · rw [List.mem_singleton.mp e]; exact M1.len
      have hi2 : i' < 2 := (List.getElem?_eq_some_iff.mp hb).1
      refine ⟨rfl, yes_ite ?_⟩
      refine ⟨_, rfl, _, rfl, _, rfl, t, g, .ref b, _, (wn : Int), ls, rfl, A7.T, h55 _ (by omega), hlk.dp, fun e => (lo7.2 b hbm).1 (by injection e), fun e => (lo7.2 b hbm).2 (by injection e), hL, hLb, fun l hl => ⟨(G'.ok l hl).1, (G'.ok l hl).2.up (by decide)⟩, G'.clash hL, by omega, fun H8 d hd B8 D8 F8 => ?_⟩
      have gD8 := B8.k _ _ gD7 Dkt Dkg
      have dk8 := dk7.keep A7.T B8.k
      have off8 : Off Z H8 d wn t g := fun la dx e => A7.T.at_ne (F8 la dx e)
      have hla8 : ∀ d' ∈ ds ++ [d], ∀ la dx, H8 d' = some (.ins Z.C dx (df wn la)) → la ≠ Dk := fun d' hd' la dx e => by
        rcases List.mem_append.mp hd' with h | h
        · obtain ⟨i2, hi2, e1⟩ := List.getElem_of_mem h
          obtain ⟨ls', _, DD⟩ := dk7.1.get (show ds[i2]? = some d' by rw [List.getElem?_eq_getElem hi2, e1])
          obtain ⟨dx', la', _, q1, _⟩ := DD.ex
          have hdt : d' ≠ t ∧ d' ≠ g := by
            obtain ⟨⟨gs, f, c, e1, e2, r⟩, hne⟩ := A7.T
            refine ⟨?_, ?_⟩ <;> rintro rfl
            · rw [q1] at e1; cases e1
            · rw [q1] at e2; cases e2
          have q2 := B8.k _ _ q1 hdt.1 hdt.2
          rw [e] at q2
          rw [df_inj q2]
          exact hla7 d' h la' dx' q1
        · rw [List.mem_singleton] at h
          subst h
          have hn := F8 la dx e
          exact fun e => (by rw [e, gD7] at hn; cases hn)
      have dk9 := (dk8.snoc D8 off8).acc (o := .lst (refs ds ++ [V.ref d])) gD8 hla8
      refine ⟨refs ds, gD8, small1000 (by simp [refs]; omega), ((A7.step B8.T B8.k).acc hDk Dkt Dkg).up (by omega), ds ++ [d], ?_, by simp [hdl], ?_, dk9.2⟩
      · rw [upd_same]; simp [refs]
      · rw [take_snoc hls, List.map_append]
        exact dk9.1
    rintro H7 ⟨A7, ds, gD7, hdl, dk7, -⟩
    have dk7' : DarksAt Z K H7 ds wn ([r0, r1].map fun r => heardAll wn r.ls) t g := dk7
    have D7 := D6.keep T6 A7.k
    have T7 : Tray H7 t g (N + 32012) := A7.T.up (by show N + 32004 + 4 * 2 ≤ _; omega)
    -- chosen
    obtain ⟨g0, g1⟩ : H7 r0.p = some (.lst (refs (adr r0.es))) ∧ H7 r1.p = some (.lst (refs (adr r1.es))) := ⟨(D7.rc r0 List.mem_cons_self).1.2.1, (D7.rc r1 (List.mem_cons_of_mem _ List.mem_cons_self)).1.2.1⟩
    have few0 := rec_few hw4 M0
    have few1 := rec_few hw4 M1
    refine ⟨_, rfl, _, rfl, Ep, lp, r0.p, r1.p, r0.es, r1.es, ks, rfl, D7.gE, g0, g1, D7.gk, by omega, by omega, fun h => Nat.le_trans (Nat.mul_le_mul (few0.2 (hw3 h)) (few1.2 (hw3 h))) (by decide), fun H8 cp cs S8 hcp gcp hcs hcv => ?_⟩
    have DO := deal_ok hw0 hw4 M0 M1 hks hw3 hcv
    have D8 := D7.same S8
    have T8 := T7.same S8
    have dk8 := dk7'.same S8
    have gD8 := S8 _ _ gD7
    obtain ⟨cpt, cpg⟩ := T7.at_ne hcp
    have hros : ∀ c ∈ cs, (c.2.1 ∈ r0.es ∨ c.2.1 ∈ r1.es) ∧ (c.2.2 ∈ r0.es ∨ c.2.2 ∈ r1.es) := fun c hc => by
      have h1 : c.2 ∈ pairsOf ks r0.es r1.es := by rw [← hcv]; exact List.mem_map.mpr ⟨c, hc, rfl⟩
      unfold pairsOf at h1
      split at h1
      · obtain ⟨e, he, h2⟩ := List.mem_flatMap.mp h1
        obtain ⟨f, hf, h3⟩ := List.mem_map.mp h2
        rw [← h3]; exact ⟨.inl he, .inr hf⟩
      · obtain ⟨e, he, h3⟩ := List.mem_map.mp h1
        rw [← h3]; exact ⟨.inl he, .inl he⟩
    have hro : ∀ e, (e ∈ r0.es ∨ e ∈ r1.es) → H8 e.1 = some (.lst (e.2.map V.int)) ∧ e.1 ≠ t ∧ e.1 ≠ g := fun e he => by
      rcases he with h | h
      · have := D8.rc r0 List.mem_cons_self
        exact ⟨this.1.2.2 e h, fun c => this.2.2.2 e h (.inl c), fun c => this.2.2.2 e h (.inr (.inl c))⟩
      · have := D8.rc r1 (List.mem_cons_of_mem _ List.mem_cons_self)
        exact ⟨this.1.2.2 e h, fun c => this.2.2.2 e h (.inl c), fun c => this.2.2.2 e h (.inr (.inl c))⟩
    have hch : ∀ c ∈ cs, ChAt H8 c ∧ (c.1 ≠ t ∧ c.1 ≠ g) ∧ (c.2.1.1 ≠ t ∧ c.2.1.1 ≠ g) ∧ c.2.2.1 ≠ t ∧ c.2.2.1 ≠ g := fun c hc => by
      obtain ⟨h1, h2⟩ := hros c hc
      exact ⟨⟨(hcs c hc).1, (hro _ h1).1, (hro _ h2).1⟩, T7.at_ne (hcs c hc).2, (hro _ h1).2, (hro _ h2).2⟩
    clear hro hros hcs hcv g0 g1 D7 dk7 dk7' gD7 hLrs A7 A6 T7 D6 few0 few1
    -- handed
    refine ⟨_, rfl, lp, rfl, ⟨_, SqL.of D8.gk⟩, fun hp hhp => ?_⟩
    obtain ⟨hpt, hpg⟩ := T8.at_ne hhp
    refine lc_list (K := K) (a := lp) (xs := ks.map V.int) (fun i' H' => Same H8 H' ∧ H' hp = some (.lst (refs (handOf ds (ks.take i'))))) ⟨same_upd hhp, upd_same⟩ (fun i' H' _ ⟨S, _⟩ => SqL.of (S _ _ D8.gk)) ?_ ?_
    · rintro i' y H9 hi' ⟨S9, gh⟩
      obtain ⟨kk, hkk, rfl⟩ := at_intsT hi'
      have hil := (List.getElem?_eq_some_iff.mp hkk).1
      have hk3 := hks.len
      have hk2 : 0 ≤ kk ∧ kk.toNat < 2 := by rcases hks.two kk (List.mem_of_getElem? hkk) with e | e <;> subst e <;> decide
      have hdl2 : ds.length = 2 := hdl
      refine ⟨rfl, yes_ite ?_⟩
      refine ⟨_, rfl, _, rfl, Dk, _, _, .ref (ds.getD kk.toNat 0), rfl, rfl, SqL.of (S9 _ _ gD8), at_of (j := kk.toNat) (by omega) (by unfold refs; rw [List.getElem?_map, List.getD_eq_getElem?_getD, List.getElem?_eq_getElem (by omega)]; rfl), ?_⟩
      refine ⟨_, gh, small1000 (by unfold handOf refs; rw [List.length_map, List.length_map, List.length_take]; omega), same_set S9 hhp, ?_⟩
      rw [upd_same, take_snoc hkk]; simp [handOf, refs]
    rintro H9 ⟨S9, gh⟩
    rw [List.length_map, List.take_of_length_le (Nat.le_refl _)] at gh
    have R9 : R10 Z K H9 wn Lp Ep lp t g Dk cp hp ks [r0, r1] ds cs := ⟨D8.same S9, dk8.same S9, S9 _ _ gD8, S9 _ _ gcp, fun c hc => ⟨(hch c hc).1.same S9, (hch c hc).2⟩, gh, ⟨Dkt, Dkg⟩, ⟨cpt, cpg⟩, hpt, hpg⟩
    have T9 := T8.same S9
    clear hch gh gcp gD8 dk8 D8 T8
    have hm4 : CMulW 4 (wn : Int) := wide_mul (a := 10) (by decide) hLb (by decide) (by decide) (by decide)
    have hm2 : CMulW 2 (wn : Int) := wide_mul (a := 10) (by decide) hLb (by decide) (by decide) (by decide)
    have hk3 := hks.len
    have hho : (handOf ds ks).length = ks.length := by unfold handOf; rw [List.length_map]
    have hcs0 : 0 < cs.length := by
      obtain ⟨c, hc, _⟩ := DO.best "slow" (.inl rfl)
      exact List.length_pos_of_mem hc
    have hwd : ∀ ls ∈ [r0.ls, r1.ls], ∀ l ∈ ls, WordOk l.1 := fun ls hls l hl => by
      rcases List.mem_cons.mp hls with e | e
      · rw [e] at hl; exact ((G r0 List.mem_cons_self).ok l hl).1
      · rw [List.mem_singleton.mp e] at hl; exact ((G r1 (List.mem_cons_of_mem _ List.mem_cons_self)).ok l hl).1
    have hl100 : ∀ ls ∈ [r0.ls, r1.ls], ls.length ≤ 100 := fun ls hls => by
      have m0 := M0.len
      have m1 := M1.len
      rcases List.mem_cons.mp hls with e | e
      · rw [e]; omega
      · rw [List.mem_singleton.mp e]; omega
    -- turns
    obtain ⟨hsN, hhsN⟩ : ∃ hsN, hsN = ks.map fun k => heardAll (wn : Int) (pickL [r0.ls, r1.ls] k) := ⟨_, rfl⟩
    have hszN : ∀ ls ∈ hsN, ∀ l ∈ ls, Sized 114 l := fun ls hls l hl => by
      rw [hhsN] at hls
      obtain ⟨k, hk, rfl⟩ := List.mem_map.mp hls
      obtain ⟨q, hq, rfl⟩ := (heardAll_mem l).mp hl
      refine home_sz110 hL hLb ?_
      rcases hks.two k hk with e | e <;> subst e
      · exact ((G r0 List.mem_cons_self).ok q hq).2
      · exact ((G r1 (List.mem_cons_of_mem _ List.mem_cons_self)).ok q hq).2
    have hm3 : CMulW 3 (wn : Int) := wide_mul (a := 10) (by decide) hLb (by decide) (by decide) (by decide)
    have hm8 : CMulW 8 (wn : Int) := wide_mul (a := 10) (by decide) hLb (by decide) (by decide) (by decide)
    refine ⟨2, rfl, by decide, by decide, ?_⟩
    refine for_range (n := 2) (fun j σ' H' => ∃ (u7 u8 u9 u10 u11 u12 u16 u17 u18 u19 u20 u21 u22 u23 u24 : Option V), σ' = [some (.ref a), some (.ref t), some (.int (0 + (i : Nat))), some (.ref lp), some (.int (wn : Int)), some (.ref Lp), some (.ref Ep), u7, u8, u9, u10, u11, u12, some (.ref Dk), some (.ref cp), some (.ref hp), u16, u17, u18, u19, u20, u21, u22, u23, u24] ∧ Tray H' t g (N + 32012 + 4 * j) ∧ R10 Z K H' wn Lp Ep lp t g Dk cp hp ks [r0, r1] ds cs) ⟨_, _, _, _, _, _, _, _, _, _, _, _, _, _, _, rfl, T9, R9⟩ ?_ ?_
    · rintro j σ' H10 hj ⟨u7, u8, u9, u10, u11, u12, u16, u17, u18, u19, u20, u21, u22, u23, u24, rfl, T10, R10'⟩
      -- spot
      refine ⟨fun σ' H' => ∃ x : Int, σ' = [some (.ref a), some (.ref t), some (.int (0 + (i : Nat))), some (.ref lp), some (.int (wn : Int)), some (.ref Lp), some (.ref Ep), u7, u8, u9, u10, u11, u12, some (.ref Dk), some (.ref cp), some (.ref hp), some (.int (0 + (j : Nat))), some (.int x), u18, u19, u20, u21, u22, u23, u24] ∧ x.natAbs < 100 ∧ Tray H' t g (N + 32012 + 4 * j + 1) ∧ R10 Z K H' wn Lp Ep lp t g Dk cp hp ks [r0, r1] ds cs, ?_, ?_⟩
      · refine ⟨_, rfl, _, rfl, _, _, rfl, rfl, hm2, t, g, _, 2 * (wn : Int), rfl, T10, by omega, Nat.lt_of_lt_of_le (by omega : (2 * (wn : Int)).natAbs < 100) (by decide), h60 _ (by omega), fun H11 c c0 c1 T11 k11 => ?_⟩
        exact ⟨_, rfl, _, _, rfl, rfl, c - (wn : Int), rfl, by omega, T11, R10'.keep T10 k11⟩
      rintro σ1 H11 ⟨x, rfl, hx100, T11, R11⟩
      have hx : x.natAbs < 2 ^ 70 := Nat.lt_of_lt_of_le hx100 (by decide)
      have hx200 : x.natAbs < 2 ^ 200 := lt_up hx (by decide)
      have hx390 : x.natAbs < 2 ^ 390 := lt_up hx (by decide)
      -- goal
      refine ⟨fun σ' H' => ∃ y : Int, σ' = [some (.ref a), some (.ref t), some (.int (0 + (i : Nat))), some (.ref lp), some (.int (wn : Int)), some (.ref Lp), some (.ref Ep), u7, u8, u9, u10, u11, u12, some (.ref Dk), some (.ref cp), some (.ref hp), some (.int (0 + (j : Nat))), some (.int x), some (.int y), u19, u20, u21, u22, u23, u24] ∧ y.natAbs < 1000 ∧ Tray H' t g (N + 32012 + 4 * (j + 1)) ∧ R10 Z K H' wn Lp Ep lp t g Dk cp hp ks [r0, r1] ds cs, ?_, ?_⟩
      · refine ⟨_, rfl, _, rfl, _, rfl, _, _, rfl, rfl, hm3, t, g, _, 3 * (wn : Int), rfl, T11, by omega, Nat.lt_of_lt_of_le (by omega : (3 * (wn : Int)).natAbs < 100) (by decide), h60 _ (by omega), fun H12 r1' r10 r11 T12 k12 => ?_⟩
        refine ⟨_, rfl, _, rfl, _, _, rfl, rfl, hm8, t, g, _, 8 * (wn : Int), rfl, T12, by omega, Nat.lt_of_lt_of_le (by omega : (8 * (wn : Int)).natAbs < 100) (by decide), h60 _ (by omega), fun H13 r2' r20 r21 T13 k13 => ?_⟩
        refine ⟨_, rfl, _, _, rfl, rfl, (by show 2 ≤ sizeLine; decide), fun q hq => ?_⟩
        obtain ⟨qt, qg⟩ := T13.at_ne hq
        have Sq := same_upd (o := HO.lst [V.int r1', .int (r2' - wn)]) hq
        refine ⟨_, rfl, t, g, _, 2, rfl, T13.same Sq, by decide, by decide, h60 _ (by omega), fun H14 c c0 c1 T14 k14 => ?_⟩
        obtain ⟨mo, hmo, hmb⟩ : ∃ mo : Int, atI [V.int r1', .int (r2' - wn)] c = some (.int mo) ∧ mo.natAbs < 100 := by
          have : c = 0 ∨ c = 1 := by omega
          rcases this with e | e <;> subst e
          · exact ⟨r1', rfl, by omega⟩
          · exact ⟨r2' - wn, rfl, by omega⟩
        exact ⟨q, _, _, _, rfl, rfl, SqL.of (k14 _ _ upd_same qt qg), hmo, _, _, rfl, rfl, x + mo, rfl, by omega, T14.up (by omega), (((R11.keep T11 k12).keep T12 k13).same Sq).keep (T13.same Sq) k14⟩
      rintro σ2 H12 ⟨y, rfl, hy1000, T12, R12⟩
      have hy200 : y.natAbs < 2 ^ 200 := Nat.lt_of_lt_of_le hy1000 (by decide)
      have hy400 : y.natAbs < 2 ^ 400 := Nat.lt_of_lt_of_le hy1000 (by decide)
      -- by some, by all
      refine ⟨(by show 2 ≤ sizeLine; decide), fun tp htp => ⟨tp, rfl, ⟨_, SqT.of upd_same⟩, ?_⟩⟩
      have Stp := same_upd (o := HO.tup [V.bl false, .bl true]) htp
      have gtp : (upd H12 tp (HO.tup [V.bl false, .bl true])) tp = some (HO.tup [V.bl false, .bl true]) := upd_same
      generalize upd H12 tp (HO.tup [V.bl false, .bl true]) = H13 at Stp gtp ⊢
      have R13 := R12.same Stp
      have T13 := T12.same Stp
      refine for_tup (K := K) (a := tp) (xs := [V.bl false, .bl true]) (fun i' σ' H' => ∃ (u19 u20 u21 u22 u23 u24 : Option V), σ' = [some (.ref a), some (.ref t), some (.int (0 + (i : Nat))), some (.ref lp), some (.int (wn : Int)), some (.ref Lp), some (.ref Ep), u7, u8, u9, u10, u11, u12, some (.ref Dk), some (.ref cp), some (.ref hp), some (.int (0 + (j : Nat))), some (.int x), some (.int y), u19, u20, u21, u22, u23, u24] ∧ Same H13 H') ⟨_, _, _, _, _, _, rfl, fun _ _ e => e⟩ (fun i' σ' H' _ ⟨_, _, _, _, _, _, _, S⟩ => SqT.of (S _ _ gtp)) ?_ ?_
      rotate_left
      · rintro σ' H14 ⟨u19, u20, u21, u22, u23, u24, rfl, S14⟩
        exact ⟨_, _, _, _, _, _, _, _, _, _, _, _, _, _, _, rfl, T13.same S14, R13.same S14⟩
      rintro i' v σ' H14 hi' ⟨u19, u20, u21, u22, u23, u24, rfl, S14⟩
      obtain ⟨b, rfl⟩ : ∃ b : Bool, v = .bl b := by
        match i', hi' with
        | 0, h => exact ⟨false, (Option.some.inj h).symm⟩
        | 1, h => exact ⟨true, (Option.some.inj h).symm⟩
        | i' + 2, h => simp at h
      have R14 := R13.same S14
      obtain ⟨F, hF⟩ : ∃ F : Nat → Option Int, F = it (sdOf b) (wn : Int) (hsN.map (sideOf (sdOf b))) x := ⟨_, rfl⟩
      have hsd : SideOk (sdOf b) := by cases b; exact .inr rfl; exact .inl rfl
      -- due
      refine ⟨fun σ' H' => ∃ Dd : Addr, σ' = [some (.ref a), some (.ref t), some (.int (0 + (i : Nat))), some (.ref lp), some (.int (wn : Int)), some (.ref Lp), some (.ref Ep), u7, u8, u9, u10, u11, u12, some (.ref Dk), some (.ref cp), some (.ref hp), some (.int (0 + (j : Nat))), some (.int x), some (.int y), some (.bl b), some (.ref Dd), u21, u22, u23, u24] ∧ Same H14 H' ∧ H' Dd = some (.lst (((natsL 7).filter fun z => comesO b y (F z.toNat)).map V.int)), ?_, ?_⟩
      · refine ⟨7, rfl, by decide, by decide, fun D hD => ?_⟩
        refine lc_range (lo := 0) (n := 7) (fun i H' => Same H14 H' ∧ H' D = some (.lst (((natsL i).filter fun z => comesO b y (F z.toNat)).map V.int))) ⟨same_upd hD, upd_same⟩ ?_ (fun H' ⟨S, gD⟩ => ⟨D, rfl, S, gD⟩)
        rintro n H15 hn ⟨S15, gD⟩
        have R15 := R14.same S15
        refine ⟨rfl, ?_⟩
        refine ⟨_, rfl, _, rfl, _, rfl, _, rfl, _, rfl, _, rfl, _, rfl, cp, Lp, lp, cs, [r0.a, r1.a], [r0.ls, r1.ls], ks, x, y, (0 + (n : Nat)), b, rfl, R15.gc, fun c hc => (R15.ch c hc).1, R15.deal.gL, ⟨rfl, fun i a ls h1 h2 => ?_⟩, hwd, hl100, R15.deal.gk, hks.pos, by omega, fun k hk => ?_, fun c hc k hk => (DO.all c hc k hk).1, hcs0, DO.len, hx, by omega, by omega, fun H16 d S16 hd => ?_⟩
        · match i with
          | 0 => cases h1; cases h2; exact (R15.deal.rc r0 List.mem_cons_self).1.1
          | 1 => cases h1; cases h2; exact (R15.deal.rc r1 (List.mem_cons_of_mem _ List.mem_cons_self)).1.1
          | i + 2 => simp at h1
        · rcases hks.two k hk with e | e <;> subst e <;> exact ⟨by decide, by decide, (by show _ < (2 : Nat); decide)⟩
        have en : (0 + (n : Int)).toNat = n := by omega
        rw [en] at hd
        have ed : F n = d := by
          rw [hF, hhsN]
          exact deal_due hw0 hks DO hsd hd
        have hnf : (natsL (n + 1)).filter (fun z => comesO b y (F z.toNat)) = (natsL n).filter (fun z => comesO b y (F z.toNat)) ++ if comesO b y d = true then [(n : Int)] else [] := by
          rw [natsL_snoc, List.filter_append]
          congr 1
          rw [← ed]
          by_cases c : comesO b y (F n) = true
          · simp [List.filter, c]
          · simp [List.filter, c]
        have hle : ((natsL n).filter fun z => comesO b y (F z.toNat)).length ≤ 7 := Nat.le_trans (List.length_filter_le _ _) (by simp [natsL]; omega)
        refine ⟨_, rfl, ?_⟩
        by_cases c : comesO b y d = true
        · rw [c]
          rw [if_pos c] at hnf
          refine iteT ⟨_, rfl, _, S16 _ _ gD, small1000 (by rw [List.length_map]; omega), same_set (S15.trans S16) hD, ?_⟩
          rw [hnf, upd_same, List.map_append, Int.zero_add]; rfl
        · rw [if_neg c, List.append_nil] at hnf
          rw [Bool.not_eq_true] at c
          rw [c]
          refine iteF ⟨S15.trans S16, ?_⟩
          rw [hnf]
          exact S16 _ _ gD
      rintro σ3 H15 ⟨Dd, rfl, S15, gDd⟩
      have R15 := R14.same S15
      have hho1 : 0 < (handOf ds ks).length := by rw [hho]; exact hks.pos
      have hho2 : (handOf ds ks).length ≤ 60 := by rw [hho]; omega
      -- told
      refine ⟨fun σ' H' => ∃ r : Option Nat, σ' = [some (.ref a), some (.ref t), some (.int (0 + (i : Nat))), some (.ref lp), some (.int (wn : Int)), some (.ref Lp), some (.ref Ep), u7, u8, u9, u10, u11, u12, some (.ref Dk), some (.ref cp), some (.ref hp), some (.int (0 + (j : Nat))), some (.int x), some (.int y), some (.bl b), some (.ref Dd), u21, some (uV r), u23, u24] ∧ Same H15 H' ∧ LeastN (comesB F b y) r, ?_, ?_⟩
      · have hd := R15.handed hks
        rw [← hhsN] at hd
        cases b with
        | true => exact ⟨_, rfl, _, rfl, iteT ⟨_, rfl, _, rfl, _, rfl, hp, handOf ds ks, wn, x, y, hsN, rfl, SqL.of R15.gh, hd, hho1, hho2, hx390, hy400, fun H16 r S16 hr _ => ⟨r, rfl, S16, by rw [hF]; exact least_slow hr⟩⟩⟩
        | false => exact ⟨_, rfl, _, rfl, iteF ⟨_, rfl, _, rfl, _, rfl, hp, handOf ds ks, wn, x, y, hsN, rfl, SqL.of R15.gh, hd, hho1, hho2, hx200, hy200, lt_up hLb (by decide), hszN, fun H16 r S16 hr _ => ⟨r, rfl, S16, by rw [hF]; exact hr⟩⟩⟩
      rintro σ4 H16 ⟨r, rfl, S16, hleast⟩
      have R16 := R15.same S16
      -- right
      refine ⟨fun σ' H' => σ' = [some (.ref a), some (.ref t), some (.int (0 + (i : Nat))), some (.ref lp), some (.int (wn : Int)), some (.ref Lp), some (.ref Ep), u7, u8, u9, u10, u11, u12, some (.ref Dk), some (.ref cp), some (.ref hp), some (.int (0 + (j : Nat))), some (.int x), some (.int y), some (.bl b), some (.ref Dd), u21, some (uV r), u23, u24] ∧ Same H16 H', ?_, ?_⟩
      · exact ⟨_, rfl, _, rfl, Dd, r, _, rfl, S16 _ _ gDd, right_of hleast, fun H17 S17 => ⟨_, rfl, iteF ⟨rfl, S17⟩⟩⟩
      rintro σ5 H17 ⟨rfl, S17⟩
      have R17 := R16.same S17
      -- again
      refine ⟨fun σ' H' => σ' = [some (.ref a), some (.ref t), some (.int (0 + (i : Nat))), some (.ref lp), some (.int (wn : Int)), some (.ref Lp), some (.ref Ep), u7, u8, u9, u10, u11, u12, some (.ref Dk), some (.ref cp), some (.ref hp), some (.int (0 + (j : Nat))), some (.int x), some (.int y), some (.bl b), some (.ref Dd), u21, some (uV r), some (uV r), u24] ∧ Same H17 H', ?_, ?_⟩
      · have hd := R17.handed hks
        rw [← hhsN] at hd
        cases b with
        | true => exact ⟨_, rfl, _, rfl, iteT ⟨_, rfl, _, rfl, _, rfl, rfl, hp, handOf ds ks, wn, x, y, hsN, rfl, SqL.of R17.gh, hd, hho1, hho2, hx390, hy400, fun H18 r2 S18 hr2 _ => by
            have e2 : r2 = r := least_one (by rw [hF]; exact least_slow hr2) hleast
            subst e2
            exact ⟨rfl, S18⟩⟩⟩
        | false => exact ⟨_, rfl, _, rfl, iteF ⟨_, rfl, _, rfl, _, rfl, rfl, rfl, hp, handOf ds ks, wn, x, y, hsN, rfl, SqL.of R17.gh, hd, hho1, hho2, hx200, hy200, lt_up hLb (by decide), hszN, fun H18 r2 S18 hr2 _ => by
            have e2 : r2 = r := least_one (by rw [hF]; exact hr2) hleast
            subst e2
            exact ⟨rfl, S18⟩⟩⟩
      rintro σ6 H18 ⟨rfl, S18⟩
      refine ⟨_, rfl, _, rfl, dU r, dU r, dp_uV r, dp_uV r, shaped_dU r, shaped_dU r, _, rfl, ?_⟩
      rw [eqv_dU]
      exact iteF ⟨_, _, _, _, _, _, rfl, (((S14.trans S15).trans S16).trans S17).trans S18⟩
    rintro σ' H10 ⟨u7, u8, u9, u10, u11, u12, u16, u17, u18, u19, u20, u21, u22, u23, u24, rfl, T10, R10'⟩
    have T11 : Tray H10 t g (N + 60000) := T10.up (by omega)
    clear T10
    have hdl2 : ds.length = 2 := hdl
    -- the list of hands stays
    refine ⟨fun σ' H' => σ' = [some (.ref a), some (.ref t), some (.int (0 + (i : Nat))), some (.ref lp), some (.int (wn : Int)), some (.ref Lp), some (.ref Ep), u7, u8, u9, u10, u11, u12, some (.ref Dk), some (.ref cp), some (.ref hp), u16, u17, u18, u19, u20, u21, u22, u23, u24] ∧ Same H10 H', ?_, ?_⟩
    · refine ⟨_, rfl, _, rfl, lp, rfl, ⟨_, SqL.of R10'.deal.gk⟩, fun D2 hD2 => ?_⟩
      refine lc_list (K := K) (a := lp) (xs := ks.map V.int) (fun i' H' => Same H10 H' ∧ H' D2 = some (.lst (refs (handOf ds (ks.take i'))))) ⟨same_upd hD2, upd_same⟩ (fun i' H' _ ⟨S, _⟩ => SqL.of (S _ _ R10'.deal.gk)) ?_ ?_
      · rintro i' y H11 hi' ⟨S11, gh⟩
        obtain ⟨kk, hkk, rfl⟩ := at_intsT hi'
        have hil := (List.getElem?_eq_some_iff.mp hkk).1
        have hk2 : 0 ≤ kk ∧ kk.toNat < 2 := by rcases hks.two kk (List.mem_of_getElem? hkk) with e | e <;> subst e <;> decide
        refine ⟨rfl, yes_ite ?_⟩
        refine ⟨_, rfl, _, rfl, Dk, _, _, .ref (ds.getD kk.toNat 0), rfl, rfl, SqL.of (S11 _ _ R10'.gD), at_of (j := kk.toNat) (by omega) (by unfold refs; rw [List.getElem?_map, List.getD_eq_getElem?_getD, List.getElem?_eq_getElem (by omega)]; rfl), ?_⟩
        refine ⟨_, gh, small1000 (by unfold handOf refs; rw [List.length_map, List.length_map, List.length_take]; omega), same_set S11 hD2, ?_⟩
        rw [upd_same, take_snoc hkk]; simp [handOf, refs]
      rintro H11 ⟨S11, gh⟩
      rw [List.length_map, List.take_of_length_le (Nat.le_refl _)] at gh
      exact ⟨hp, D2, _, _, rfl, rfl, SqL.of (S11 _ _ R10'.gh), SqL.of gh, paired_refs _, _, rfl, iteF ⟨rfl, S11⟩⟩
    rintro σ4 H11 ⟨rfl, S11⟩
    have R11 := R10'.same S11
    have T12 := T11.same S11
    -- their looks stay
    refine ⟨_, rfl, Dk, rfl, ⟨_, SqL.of R11.gD⟩, fun D3 hD3 => ?_⟩
    refine lc_list (K := K) (a := Dk) (xs := refs ds) (fun i' H' => LkL K H11 H' D3 (([r0.ls, r1.ls].take i').map (heardAll wn))) (LkL.nil hD3) (fun i' H' _ E => SqL.of (E.sm _ _ R11.gD)) ?_ ?_
    · rintro i' y H12 hi' E
      obtain ⟨d, hd, rfl⟩ := map_at hi'
      have hi2 := (List.getElem?_eq_some_iff.mp hd).1
      obtain ⟨hh, hhl, DD⟩ := R11.dk.1.get hd
      obtain ⟨ls, hls, ehh⟩ : ∃ ls, [r0.ls, r1.ls][i']? = some ls ∧ hh = heardAll wn ls := by
        match i', hhl with
        | 0, h => exact ⟨_, rfl, (Option.some.inj h).symm⟩
        | 1, h => exact ⟨_, rfl, (Option.some.inj h).symm⟩
        | i' + 2, h => simp at h
      have DD' := DD.same E.sm
      obtain ⟨dx, la, vs, q1, _⟩ := id DD'.ex
      refine ⟨rfl, yes_ite ?_⟩
      refine ⟨_, rfl, d, dx, _, rfl, q1, df_no _ _ (by decide +kernel) (by decide +kernel), d, wn, hh, rfl, DD', fun p xs H13 hp' S13 h1 h2 => ?_⟩
      obtain ⟨vs', gD3, hvl, E'⟩ := E.step hD3 S13 hp' (⟨xs, h1, h2⟩ : LkAt K H13 p hh)
      refine ⟨vs', gD3, small1000 (by rw [hvl, List.length_map, List.length_take]; omega), ?_⟩
      rw [take_snoc hls, List.map_append]
      rw [ehh] at E'
      exact E'
    rintro H12 E
    have el : (refs ds).length = 2 := by unfold refs; rw [List.length_map]; exact hdl2
    rw [el] at E
    have S12 := E.sm
    have R12 := R11.same S12
    refine ⟨_, rfl, Lp, rfl, ⟨_, SqL.of R12.deal.gL⟩, fun D4 hD4 => ?_⟩
    refine lc_list (K := K) (a := Lp) (xs := refs [r0.a, r1.a]) (fun i' H' => LkL K H12 H' D4 (([r0.ls, r1.ls].take i').map (heardAll wn))) (LkL.nil hD4) (fun i' H' _ E => SqL.of (E.sm _ _ R12.deal.gL)) ?_ ?_
    · rintro i' y H13 hi' E4
      obtain ⟨b, hb, rfl⟩ := map_at hi'
      obtain ⟨r, hr, hrb, hrl⟩ : ∃ r : Rec, r ∈ [r0, r1] ∧ b = r.a ∧ [r0.ls, r1.ls][i']? = some r.ls := by
        match i', hb with
        | 0, h => exact ⟨r0, List.mem_cons_self, (Option.some.inj h).symm, rfl⟩
        | 1, h => exact ⟨r1, List.mem_cons_of_mem _ List.mem_cons_self, (Option.some.inj h).symm, rfl⟩
        | i' + 2, h => simp at h
      have hi2 : i' < 2 := (List.getElem?_eq_some_iff.mp hb).1
      subst hrb
      have M : RecM wn r := by
        rcases List.mem_cons.mp hr with e | e
        · rw [e]; exact M0
        · rw [List.mem_singleton.mp e]; exact M1
      obtain ⟨prs, s0, R, hs0, hsaid, hv, hbb⟩ := M.ex
      obtain ⟨vs, hv1, hv2⟩ := (R12.deal.rc r hr).1.1.same E4.sm
      refine ⟨rfl, yes_ite ?_⟩
      refine ⟨_, rfl, ?_⟩
      dsimp only [tNil]
      refine set_sorted (SqL.of hv1) hv2 (by have := M.len; omega) fun p ys H14 ms S14 hp' hpl hds c => ?_
      have em := heard_own hL R hsaid c
      obtain ⟨vs', gD4, hvl, E'⟩ := E4.step hD4 S14 hp' (⟨ys, hpl, hds⟩ : LkAt K H14 p ms)
      refine ⟨vs', gD4, small1000 (by rw [hvl, List.length_map, List.length_take]; omega), ?_⟩
      rw [take_snoc hrl, List.map_append]
      rw [em] at E'
      exact E'
    rintro H13 E4
    have E4' : LkL K H12 H13 D4 ([r0.ls, r1.ls].map (heardAll wn)) := E4
    have E3' : LkL K H11 H12 D3 ([r0.ls, r1.ls].map (heardAll wn)) := E
    have hsh : SeqAt.shaped (gL ([r0.ls, r1.ls].map (heardAll (wn : Int)))) = true := shaped_gL fun hs hh l hl => by
      obtain ⟨ls, hls, rfl⟩ := List.mem_map.mp hh
      obtain ⟨q, hq, rfl⟩ := (heardAll_mem l).mp hl
      exact hwd ls hls q hq
    refine ⟨gL ([r0.ls, r1.ls].map (heardAll wn)), gL ([r0.ls, r1.ls].map (heardAll wn)), E3'.dp E4'.sm, E4'.dp (fun _ _ e => e), hsh, hsh, _, rfl, ?_⟩
    rw [eqv_sh hsh]
    exact iteF ⟨_, _, _, _, _, _, _, _, _, _, _, _, _, _, _, _, _, _, _, _, _, _, _, rfl, (T12.same S12).same E4'.sm⟩
end
end KA
namespace KA
open PySem PySem.Spec PyProof.Rows L2 DP
theorem g11_of {α : Type} : ∀ {us ws : List α}, (g11 us ws).length = 2 → ∃ a b, us = [a] ∧ ws = [b]
  | [a], [b], _ => ⟨a, b, rfl, rfl⟩
  | [], _, h => nomatch (show (0 : Nat) = 2 from h)
  | [_], [], h => nomatch (show (0 : Nat) = 2 from h)
  | [_], _ :: _ :: _, h => nomatch (show (0 : Nat) = 2 from h)
  | _ :: _ :: _, _, h => nomatch (show (0 : Nat) = 2 from h)
theorem sqt2 {K : PySem.W.Frag} {H : Hp} {t : Addr} {x y : Str} {o : Option Addr} {u v : Tok} {n : Nat} {s : Array (Option Value)} (l : K.lookup t = some ⟨.type "tuple", o, .seq #[.str x u, .str y v] n, s⟩) : SqT K H t [.str x, .str y] :=
  .inr ⟨_, _, n, l, rfl, rfl, (by show 2 ≤ sizeLine; decide), .cons ⟨u, rfl⟩ (.cons ⟨v, rfl⟩ .nil)⟩
theorem sqt3 {K : PySem.W.Frag} {H : Hp} {t : Addr} {x y z : Str} {o : Option Addr} {u v q : Tok} {n : Nat} {s : Array (Option Value)} (l : K.lookup t = some ⟨.type "tuple", o, .seq #[.str x u, .str y v, .str z q] n, s⟩) : SqT K H t [.str x, .str y, .str z] :=
  .inr ⟨_, _, n, l, rfl, rfl, (by show 3 ≤ sizeLine; decide), .cons ⟨u, rfl⟩ (.cons ⟨v, rfl⟩ (.cons ⟨q, rfl⟩ .nil))⟩
theorem all_mk {l : PySem.W.OpenLaw} {w : World} {K : PySem.W.Frag} {h : Heap} {mg : Str → Option Value} {fa : Addr} (X : K.In h) (G : h.Ns mainGlobals mg) (hfa : mg "law" = some (.ref fa))
    {C : Addr}
    {C_Walk : Addr}
    {f0 : Addr} {od0 an0 : Option Addr} {sl0 : Array (Option Value)} {oc0 kV0 dc0 pm0 cd0 ct0 : Value}
    {f1 : Addr} {od1 an1 : Option Addr} {sl1 : Array (Option Value)} {oc1 kV1 dc1 pm1 cd1 ct1 : Value}
    {f2 : Addr} {od2 an2 : Option Addr} {sl2 : Array (Option Value)} {oc2 kV2 dc2 pm2 cd2 ct2 : Value}
    {f3 : Addr} {od3 an3 : Option Addr} {sl3 : Array (Option Value)} {oc3 kV3 dc3 pm3 cd3 ct3 : Value}
    {f4 : Addr} {od4 an4 : Option Addr} {sl4 : Array (Option Value)} {oc4 kV4 dc4 pm4 cd4 ct4 : Value}
    {f5 : Addr} {od5 an5 : Option Addr} {sl5 : Array (Option Value)} {oc5 kV5 dc5 pm5 cd5 ct5 : Value}
    {f6 : Addr} {od6 an6 : Option Addr} {sl6 : Array (Option Value)} {oc6 kV6 dc6 pm6 cd6 ct6 : Value}
    {f7 : Addr} {od7 an7 : Option Addr} {sl7 : Array (Option Value)} {oc7 kV7 dc7 pm7 cd7 ct7 : Value}
    {f8 : Addr} {od8 an8 : Option Addr} {sl8 : Array (Option Value)} {oc8 kV8 dc8 pm8 cd8 ct8 : Value}
    {f9 : Addr} {od9 an9 : Option Addr} {sl9 : Array (Option Value)} {oc9 kV9 dc9 pm9 cd9 ct9 : Value}
    {f10 : Addr} {od10 an10 : Option Addr} {sl10 : Array (Option Value)} {oc10 kV10 dc10 pm10 cd10 ct10 : Value}
    {f11 : Addr} {od11 an11 : Option Addr} {sl11 : Array (Option Value)} {oc11 kV11 dc11 pm11 cd11 ct11 : Value}
    {f12 : Addr} {od12 an12 : Option Addr} {sl12 : Array (Option Value)} {oc12 kV12 dc12 pm12 cd12 ct12 : Value}
    {f13 : Addr} {od13 an13 : Option Addr} {sl13 : Array (Option Value)} {oc13 kV13 dc13 pm13 cd13 ct13 : Value}
    {f14 : Addr} {od14 an14 : Option Addr} {sl14 : Array (Option Value)} {oc14 kV14 dc14 pm14 cd14 ct14 : Value}
    {f15 : Addr} {od15 an15 : Option Addr} {sl15 : Array (Option Value)} {oc15 kV15 dc15 pm15 cd15 ct15 : Value}
    {f16 : Addr} {od16 an16 : Option Addr} {sl16 : Array (Option Value)} {oc16 kV16 dc16 pm16 cd16 ct16 : Value}
    {f17 : Addr} {od17 an17 : Option Addr} {sl17 : Array (Option Value)} {oc17 kV17 dc17 pm17 cd17 ct17 : Value}
    {f18 : Addr} {od18 an18 : Option Addr} {sl18 : Array (Option Value)} {oc18 kV18 dc18 pm18 cd18 ct18 : Value}
    {f19 : Addr} {od19 an19 : Option Addr} {sl19 : Array (Option Value)} {oc19 kV19 dc19 pm19 cd19 ct19 : Value}
    {f20 : Addr} {od20 an20 : Option Addr} {sl20 : Array (Option Value)} {oc20 kV20 dc20 pm20 cd20 ct20 : Value}
    {f21 : Addr} {od21 an21 : Option Addr} {sl21 : Array (Option Value)} {oc21 kV21 dc21 pm21 cd21 ct21 : Value}
    {f22 : Addr} {od22 an22 : Option Addr} {sl22 : Array (Option Value)} {oc22 kV22 dc22 pm22 cd22 ct22 : Value}
    {f23 : Addr} {od23 an23 : Option Addr} {sl23 : Array (Option Value)} {oc23 kV23 dc23 pm23 cd23 ct23 : Value}
    {f24 : Addr} {od24 an24 : Option Addr} {sl24 : Array (Option Value)} {oc24 kV24 dc24 pm24 cd24 ct24 : Value}
    {f25 : Addr} {od25 an25 : Option Addr} {sl25 : Array (Option Value)} {oc25 kV25 dc25 pm25 cd25 ct25 : Value}
    {f26 : Addr} {od26 an26 : Option Addr} {sl26 : Array (Option Value)} {oc26 kV26 dc26 pm26 cd26 ct26 : Value}
    {f27 : Addr} {od27 an27 : Option Addr} {sl27 : Array (Option Value)} {oc27 kV27 dc27 pm27 cd27 ct27 : Value}
    {f28 : Addr} {od28 an28 : Option Addr} {sl28 : Array (Option Value)} {oc28 kV28 dc28 pm28 cd28 ct28 : Value}
    {f29 : Addr} {od29 an29 : Option Addr} {sl29 : Array (Option Value)} {oc29 kV29 dc29 pm29 cd29 ct29 : Value}
    {f30 : Addr} {od30 an30 : Option Addr} {sl30 : Array (Option Value)} {oc30 kV30 dc30 pm30 cd30 ct30 : Value}
    {f31 : Addr} {od31 an31 : Option Addr} {sl31 : Array (Option Value)} {oc31 kV31 dc31 pm31 cd31 ct31 : Value}
    {f32 : Addr} {od32 an32 : Option Addr} {sl32 : Array (Option Value)} {oc32 kV32 dc32 pm32 cd32 ct32 : Value}
    {f33 : Addr} {od33 an33 : Option Addr} {sl33 : Array (Option Value)} {oc33 kV33 dc33 pm33 cd33 ct33 : Value}
    {f34 : Addr} {od34 an34 : Option Addr} {sl34 : Array (Option Value)} {oc34 kV34 dc34 pm34 cd34 ct34 : Value}
    {f35 : Addr} {od35 an35 : Option Addr} {sl35 : Array (Option Value)} {oc35 kV35 dc35 pm35 cd35 ct35 : Value}
    {tSLOW : Tok}
    {tFAST : Tok}
    {aW aL tS tF : Addr} {es : Array DictEntry} {nW n1 n2 n3 : Nat} {o1 o2 o3 : Option Addr} {s1 s2 s3 : Array (Option Value)} {u1 u2 u3 u4 u5 u6 u7 : Tok}
    (aC : PySem.W.nsIn K mainGlobals "Dark" = some (some (.ref C)))
    (aC_Walk : PySem.W.nsIn K mainGlobals "Walk" = some (some (.ref C_Walk)))
    (a0 : PySem.W.nsIn K mainGlobals "_law_deck" = some (some (.ref f0)))
    (l0 : K.lookup f0 = some ⟨oc0, od0, .func (PySem.W.fnOf "_law_deck" "_law_deck" (defArgs slaw_deck) (defBody slaw_deck) (defScope slaw_deck) .none kV0 dc0 pm0 an0 cd0 ct0), sl0⟩)
    (c0 : PySem.W.codeIn K cd0 "_law_deck" = true)
    (k0 : PySem.W.keepIn K (.ref f0) = true)
    (a1 : PySem.W.nsIn K mainGlobals "_law_take" = some (some (.ref f1)))
    (l1 : K.lookup f1 = some ⟨oc1, od1, .func (PySem.W.fnOf "_law_take" "_law_take" (defArgs slaw_take) (defBody slaw_take) (defScope slaw_take) .none kV1 dc1 pm1 an1 cd1 ct1), sl1⟩)
    (c1 : PySem.W.codeIn K cd1 "_law_take" = true)
    (k1 : PySem.W.keepIn K (.ref f1) = true)
    (a2 : PySem.W.nsIn K mainGlobals "_law_below" = some (some (.ref f2)))
    (l2 : K.lookup f2 = some ⟨oc2, od2, .func (PySem.W.fnOf "_law_below" "_law_below" (defArgs slaw_below) (defBody slaw_below) (defScope slaw_below) .none kV2 dc2 pm2 an2 cd2 ct2), sl2⟩)
    (c2 : PySem.W.codeIn K cd2 "_law_below" = true)
    (k2 : PySem.W.keepIn K (.ref f2) = true)
    (a3 : PySem.W.nsIn K mainGlobals "_law_hidden" = some (some (.ref f3)))
    (l3 : K.lookup f3 = some ⟨oc3, od3, .func (PySem.W.fnOf "_law_hidden" "_law_hidden" (defArgs slaw_hidden) (defBody slaw_hidden) (defScope slaw_hidden) .none kV3 dc3 pm3 an3 cd3 ct3), sl3⟩)
    (c3 : PySem.W.codeIn K cd3 "_law_hidden" = true)
    (k3 : PySem.W.keepIn K (.ref f3) = true)
    (a4 : PySem.W.nsIn K mainGlobals "_law_looks" = some (some (.ref f4)))
    (l4 : K.lookup f4 = some ⟨oc4, od4, .func (PySem.W.fnOf "_law_looks" "_law_looks" (defArgs slaw_looks) (defBody slaw_looks) (defScope slaw_looks) .none kV4 dc4 pm4 an4 cd4 ct4), sl4⟩)
    (c4 : PySem.W.codeIn K cd4 "_law_looks" = true)
    (k4 : PySem.W.keepIn K (.ref f4) = true)
    (a5 : PySem.W.nsIn K mainGlobals "_law_dark" = some (some (.ref f5)))
    (l5 : K.lookup f5 = some ⟨oc5, od5, .func (PySem.W.fnOf "_law_dark" "_law_dark" (defArgs slaw_dark) (defBody slaw_dark) (defScope slaw_dark) .none kV5 dc5 pm5 an5 cd5 ct5), sl5⟩)
    (c5 : PySem.W.codeIn K cd5 "_law_dark" = true)
    (k5 : PySem.W.keepIn K (.ref f5) = true)
    (a6 : PySem.W.nsIn K mainGlobals "_law_tables" = some (some (.ref f6)))
    (l6 : K.lookup f6 = some ⟨oc6, od6, .func (PySem.W.fnOf "_law_tables" "_law_tables" (defArgs slaw_tables) (defBody slaw_tables) (defScope slaw_tables) .none kV6 dc6 pm6 an6 cd6 ct6), sl6⟩)
    (c6 : PySem.W.codeIn K cd6 "_law_tables" = true)
    (k6 : PySem.W.keepIn K (.ref f6) = true)
    (a7 : PySem.W.nsIn K mainGlobals "_law_led" = some (some (.ref f7)))
    (l7 : K.lookup f7 = some ⟨oc7, od7, .func (PySem.W.fnOf "_law_led" "_law_led" (defArgs slaw_led) (defBody slaw_led) (defScope slaw_led) .none kV7 dc7 pm7 an7 cd7 ct7), sl7⟩)
    (c7 : PySem.W.codeIn K cd7 "_law_led" = true)
    (k7 : PySem.W.keepIn K (.ref f7) = true)
    (a8 : PySem.W.nsIn K mainGlobals "_law_is_so" = some (some (.ref f8)))
    (l8 : K.lookup f8 = some ⟨oc8, od8, .func (PySem.W.fnOf "_law_is_so" "_law_is_so" (defArgs slaw_is_so) (defBody slaw_is_so) (defScope slaw_is_so) .none kV8 dc8 pm8 an8 cd8 ct8), sl8⟩)
    (c8 : PySem.W.codeIn K cd8 "_law_is_so" = true)
    (k8 : PySem.W.keepIn K (.ref f8) = true)
    (a9 : PySem.W.nsIn K mainGlobals "_law_gone" = some (some (.ref f9)))
    (l9 : K.lookup f9 = some ⟨oc9, od9, .func (PySem.W.fnOf "_law_gone" "_law_gone" (defArgs slaw_gone) (defBody slaw_gone) (defScope slaw_gone) .none kV9 dc9 pm9 an9 cd9 ct9), sl9⟩)
    (c9 : PySem.W.codeIn K cd9 "_law_gone" = true)
    (k9 : PySem.W.keepIn K (.ref f9) = true)
    (a10 : PySem.W.nsIn K mainGlobals "_law_pairs" = some (some (.ref f10)))
    (l10 : K.lookup f10 = some ⟨oc10, od10, .func (PySem.W.fnOf "_law_pairs" "_law_pairs" (defArgs slaw_pairs) (defBody slaw_pairs) (defScope slaw_pairs) .none kV10 dc10 pm10 an10 cd10 ct10), sl10⟩)
    (c10 : PySem.W.codeIn K cd10 "_law_pairs" = true)
    (k10 : PySem.W.keepIn K (.ref f10) = true)
    (a11 : PySem.W.nsIn K mainGlobals "_law_reached" = some (some (.ref f11)))
    (l11 : K.lookup f11 = some ⟨oc11, od11, .func (PySem.W.fnOf "_law_reached" "_law_reached" (defArgs slaw_reached) (defBody slaw_reached) (defScope slaw_reached) .none kV11 dc11 pm11 an11 cd11 ct11), sl11⟩)
    (c11 : PySem.W.codeIn K cd11 "_law_reached" = true)
    (k11 : PySem.W.keepIn K (.ref f11) = true)
    (a12 : PySem.W.nsIn K mainGlobals "_law_right" = some (some (.ref f12)))
    (l12 : K.lookup f12 = some ⟨oc12, od12, .func (PySem.W.fnOf "_law_right" "_law_right" (defArgs slaw_right) (defBody slaw_right) (defScope slaw_right) .none kV12 dc12 pm12 an12 cd12 ct12), sl12⟩)
    (c12 : PySem.W.codeIn K cd12 "_law_right" = true)
    (k12 : PySem.W.keepIn K (.ref f12) = true)
    (a13 : PySem.W.nsIn K mainGlobals "side_looks" = some (some (.ref f13)))
    (l13 : K.lookup f13 = some ⟨oc13, od13, .func (PySem.W.fnOf "side_looks" "side_looks" (defArgs sside_looks) (defBody sside_looks) (defScope sside_looks) .none kV13 dc13 pm13 an13 cd13 ct13), sl13⟩)
    (c13 : PySem.W.codeIn K cd13 "side_looks" = true)
    (k13 : PySem.W.keepIn K (.ref f13) = true)
    (a14 : PySem.W.nsIn K mainGlobals "round_looks" = some (some (.ref f14)))
    (l14 : K.lookup f14 = some ⟨oc14, od14, .func (PySem.W.fnOf "round_looks" "round_looks" (defArgs sround_looks) (defBody sround_looks) (defScope sround_looks) .none kV14 dc14 pm14 an14 cd14 ct14), sl14⟩)
    (c14 : PySem.W.codeIn K cd14 "round_looks" = true)
    (k14 : PySem.W.keepIn K (.ref f14) = true)
    (a15 : PySem.W.nsIn K mainGlobals "place_by" = some (some (.ref f15)))
    (l15 : K.lookup f15 = some ⟨oc15, od15, .func (PySem.W.fnOf "place_by" "place_by" (defArgs splace_by) (defBody splace_by) (defScope splace_by) .none kV15 dc15 pm15 an15 cd15 ct15), sl15⟩)
    (c15 : PySem.W.codeIn K cd15 "place_by" = true)
    (k15 : PySem.W.keepIn K (.ref f15) = true)
    (a16 : PySem.W.nsIn K mainGlobals "best_step" = some (some (.ref f16)))
    (l16 : K.lookup f16 = some ⟨oc16, od16, .func (PySem.W.fnOf "best_step" "best_step" (defArgs sbest_step) (defBody sbest_step) (defScope sbest_step) .none kV16 dc16 pm16 an16 cd16 ct16), sl16⟩)
    (c16 : PySem.W.codeIn K cd16 "best_step" = true)
    (k16 : PySem.W.keepIn K (.ref f16) = true)
    (a17 : PySem.W.findIn K (.ref C_Walk) "__init__" = some (some (.ref f17)))
    (i17 : PySem.W.isFn K (.ref f17) = true)
    (l17 : K.lookup f17 = some ⟨oc17, od17, .func (PySem.W.fnOf "__init__" "Walk.__init__" (defArgs sWalk_init) (defBody sWalk_init) (defScope sWalk_init) .none kV17 dc17 pm17 an17 cd17 ct17), sl17⟩)
    (c17 : PySem.W.codeIn K cd17 "Walk.__init__" = true)
    (k17 : PySem.W.keepIn K (.ref f17) = true)
    (a18 : PySem.W.findIn K (.ref C_Walk) "_follow" = some (some (.ref f18)))
    (i18 : PySem.W.isFn K (.ref f18) = true)
    (l18 : K.lookup f18 = some ⟨oc18, od18, .func (PySem.W.fnOf "_follow" "Walk._follow" (defArgs sWalkfollow) (defBody sWalkfollow) (defScope sWalkfollow) .none kV18 dc18 pm18 an18 cd18 ct18), sl18⟩)
    (c18 : PySem.W.codeIn K cd18 "Walk._follow" = true)
    (k18 : PySem.W.keepIn K (.ref f18) = true)
    (a19 : PySem.W.findIn K (.ref C_Walk) "period" = some (some (.ref f19)))
    (i19 : PySem.W.isFn K (.ref f19) = true)
    (l19 : K.lookup f19 = some ⟨oc19, od19, .func (PySem.W.fnOf "period" "Walk.period" (defArgs sWalk_period) (defBody sWalk_period) (defScope sWalk_period) .none kV19 dc19 pm19 an19 cd19 ct19), sl19⟩)
    (c19 : PySem.W.codeIn K cd19 "Walk.period" = true)
    (k19 : PySem.W.keepIn K (.ref f19) = true)
    (a20 : PySem.W.findIn K (.ref C_Walk) "climb" = some (some (.ref f20)))
    (i20 : PySem.W.isFn K (.ref f20) = true)
    (l20 : K.lookup f20 = some ⟨oc20, od20, .func (PySem.W.fnOf "climb" "Walk.climb" (defArgs sWalk_climb) (defBody sWalk_climb) (defScope sWalk_climb) .none kV20 dc20 pm20 an20 cd20 ct20), sl20⟩)
    (c20 : PySem.W.codeIn K cd20 "Walk.climb" = true)
    (k20 : PySem.W.keepIn K (.ref f20) = true)
    (a21 : PySem.W.findIn K (.ref C_Walk) "behind" = some (some (.ref f21)))
    (i21 : PySem.W.isFn K (.ref f21) = true)
    (l21 : K.lookup f21 = some ⟨oc21, od21, .func (PySem.W.fnOf "behind" "Walk.behind" (defArgs sWalk_behind) (defBody sWalk_behind) (defScope sWalk_behind) .none kV21 dc21 pm21 an21 cd21 ct21), sl21⟩)
    (c21 : PySem.W.codeIn K cd21 "Walk.behind" = true)
    (k21 : PySem.W.keepIn K (.ref f21) = true)
    (a22 : PySem.W.findIn K (.ref C_Walk) "reach" = some (some (.ref f22)))
    (i22 : PySem.W.isFn K (.ref f22) = true)
    (l22 : K.lookup f22 = some ⟨oc22, od22, .func (PySem.W.fnOf "reach" "Walk.reach" (defArgs sWalk_reach) (defBody sWalk_reach) (defScope sWalk_reach) .none kV22 dc22 pm22 an22 cd22 ct22), sl22⟩)
    (c22 : PySem.W.codeIn K cd22 "Walk.reach" = true)
    (k22 : PySem.W.keepIn K (.ref f22) = true)
    (a23 : PySem.W.nsIn K mainGlobals "check_round" = some (some (.ref f23)))
    (l23 : K.lookup f23 = some ⟨oc23, od23, .func (PySem.W.fnOf "check_round" "check_round" (defArgs scheck_round) (defBody scheck_round) (defScope scheck_round) .none kV23 dc23 pm23 an23 cd23 ct23), sl23⟩)
    (c23 : PySem.W.codeIn K cd23 "check_round" = true)
    (k23 : PySem.W.keepIn K (.ref f23) = true)
    (a24 : PySem.W.nsIn K mainGlobals "fewest_uses" = some (some (.ref f24)))
    (l24 : K.lookup f24 = some ⟨oc24, od24, .func (PySem.W.fnOf "fewest_uses" "fewest_uses" (defArgs sfewest_uses) (defBody sfewest_uses) (defScope sfewest_uses) .none kV24 dc24 pm24 an24 cd24 ct24), sl24⟩)
    (c24 : PySem.W.codeIn K cd24 "fewest_uses" = true)
    (k24 : PySem.W.keepIn K (.ref f24) = true)
    (a25 : PySem.W.nsIn K mainGlobals "most_uses" = some (some (.ref f25)))
    (l25 : K.lookup f25 = some ⟨oc25, od25, .func (PySem.W.fnOf "most_uses" "most_uses" (defArgs smost_uses) (defBody smost_uses) (defScope smost_uses) .none kV25 dc25 pm25 an25 cd25 ct25), sl25⟩)
    (c25 : PySem.W.codeIn K cd25 "most_uses" = true)
    (k25 : PySem.W.keepIn K (.ref f25) = true)
    (a26 : PySem.W.nsIn K mainGlobals "too_far" = some (some (.ref f26)))
    (l26 : K.lookup f26 = some ⟨oc26, od26, .func (PySem.W.fnOf "too_far" "too_far" (defArgs stoo_far) (defBody stoo_far) (defScope stoo_far) .none kV26 dc26 pm26 an26 cd26 ct26), sl26⟩)
    (c26 : PySem.W.codeIn K cd26 "too_far" = true)
    (k26 : PySem.W.keepIn K (.ref f26) = true)
    (a27 : PySem.W.nsIn K mainGlobals "clash" = some (some (.ref f27)))
    (l27 : K.lookup f27 = some ⟨oc27, od27, .func (PySem.W.fnOf "clash" "clash" (defArgs sclash) (defBody sclash) (defScope sclash) .none kV27 dc27 pm27 an27 cd27 ct27), sl27⟩)
    (c27 : PySem.W.codeIn K cd27 "clash" = true)
    (k27 : PySem.W.keepIn K (.ref f27) = true)
    (a28 : PySem.W.findIn K (.ref C) "__init__" = some (some (.ref f28)))
    (i28 : PySem.W.isFn K (.ref f28) = true)
    (l28 : K.lookup f28 = some ⟨oc28, od28, .func (PySem.W.fnOf "__init__" "Dark.__init__" (defArgs sDark_init) (defBody sDark_init) (defScope sDark_init) .none kV28 dc28 pm28 an28 cd28 ct28), sl28⟩)
    (c28 : PySem.W.codeIn K cd28 "Dark.__init__" = true)
    (k28 : PySem.W.keepIn K (.ref f28) = true)
    (a29 : PySem.W.findIn K (.ref C) "length" = some (some (.ref f29)))
    (i29 : PySem.W.isFn K (.ref f29) = true)
    (l29 : K.lookup f29 = some ⟨oc29, od29, .func (PySem.W.fnOf "length" "Dark.length" (defArgs sDark_length) (defBody sDark_length) (defScope sDark_length) .none kV29 dc29 pm29 an29 cd29 ct29), sl29⟩)
    (c29 : PySem.W.codeIn K cd29 "Dark.length" = true)
    (k29 : PySem.W.keepIn K (.ref f29) = true)
    (a30 : PySem.W.findIn K (.ref C) "hear" = some (some (.ref f30)))
    (i30 : PySem.W.isFn K (.ref f30) = true)
    (l30 : K.lookup f30 = some ⟨oc30, od30, .func (PySem.W.fnOf "hear" "Dark.hear" (defArgs sDark_hear) (defBody sDark_hear) (defScope sDark_hear) .none kV30 dc30 pm30 an30 cd30 ct30), sl30⟩)
    (c30 : PySem.W.codeIn K cd30 "Dark.hear" = true)
    (k30 : PySem.W.keepIn K (.ref f30) = true)
    (a31 : PySem.W.findIn K (.ref C) "looks" = some (some (.ref f31)))
    (i31 : PySem.W.isFn K (.ref f31) = true)
    (l31 : K.lookup f31 = some ⟨oc31, od31, .func (PySem.W.fnOf "looks" "Dark.looks" (defArgs sDark_looks) (defBody sDark_looks) (defScope sDark_looks) .none kV31 dc31 pm31 an31 cd31 ct31), sl31⟩)
    (c31 : PySem.W.codeIn K cd31 "Dark.looks" = true)
    (k31 : PySem.W.keepIn K (.ref f31) = true)
    (a32 : PySem.W.findIn K (.ref C) "_check_word" = some (some (.ref f32)))
    (i32 : PySem.W.isFn K (.ref f32) = true)
    (l32 : K.lookup f32 = some ⟨oc32, od32, .func (PySem.W.fnOf "_check_word" "Dark._check_word" (defArgs sDarkcheck_word) (defBody sDarkcheck_word) (defScope sDarkcheck_word) .none kV32 dc32 pm32 an32 cd32 ct32), sl32⟩)
    (c32 : PySem.W.codeIn K cd32 "Dark._check_word" = true)
    (k32 : PySem.W.keepIn K (.ref f32) = true)
    (a33 : PySem.W.findIn K (.ref C) "_home" = some (some (.ref f33)))
    (i33 : PySem.W.isFn K (.ref f33) = true)
    (l33 : K.lookup f33 = some ⟨oc33, od33, .func (PySem.W.fnOf "_home" "Dark._home" (defArgs sDarkhome) (defBody sDarkhome) (defScope sDarkhome) .none kV33 dc33 pm33 an33 cd33 ct33), sl33⟩)
    (c33 : PySem.W.codeIn K cd33 "Dark._home" = true)
    (k33 : PySem.W.keepIn K (.ref f33) = true)
    (a34 : PySem.W.findIn K (.ref C) "_clashing" = some (some (.ref f34)))
    (i34 : PySem.W.isFn K (.ref f34) = true)
    (l34 : K.lookup f34 = some ⟨oc34, od34, .func (PySem.W.fnOf "_clashing" "Dark._clashing" (defArgs sDarkclashing) (defBody sDarkclashing) (defScope sDarkclashing) .none kV34 dc34 pm34 an34 cd34 ct34), sl34⟩)
    (c34 : PySem.W.codeIn K cd34 "Dark._clashing" = true)
    (k34 : PySem.W.keepIn K (.ref f34) = true)
    (a35 : PySem.W.nsIn K mainGlobals "law" = some (some (.ref f35)))
    (l35 : K.lookup f35 = some ⟨oc35, od35, .func (PySem.W.fnOf "law" "law" (defArgs slaw) (defBody slaw) (defScope slaw) .none kV35 dc35 pm35 an35 cd35 ct35), sl35⟩)
    (c35 : PySem.W.codeIn K cd35 "law" = true)
    (k35 : PySem.W.keepIn K (.ref f35) = true)
    (pg : PySem.W.plainGet K C Str.empty = true)
    (hd : PySem.W.hasDictIn K C = true)
    (po : PySem.W.plainOver K C = true)
    (sa : PySem.W.findIn K (.ref C) "__setattr__" = some (some (.builtin "object.__setattr__")))
    (mk : PySem.W.makesIn K C = true)
    (kc : PySem.W.keepIn K (.ref C) = true)
    (n_length : PySem.W.findIn K (.ref C) "_length" = some none)
    (n_looks : PySem.W.findIn K (.ref C) "_looks" = some none)
    (pg_Walk : PySem.W.plainGet K C_Walk Str.empty = true)
    (hd_Walk : PySem.W.hasDictIn K C_Walk = true)
    (po_Walk : PySem.W.plainOver K C_Walk = true)
    (sa_Walk : PySem.W.findIn K (.ref C_Walk) "__setattr__" = some (some (.builtin "object.__setattr__")))
    (mk_Walk : PySem.W.makesIn K C_Walk = true)
    (kc_Walk : PySem.W.keepIn K (.ref C_Walk) = true)
    (nWalk_places : PySem.W.findIn K (.ref C_Walk) "places" = some none)
    (nWalk_told_by : PySem.W.findIn K (.ref C_Walk) "told_by" = some none)
    (nWalk_start : PySem.W.findIn K (.ref C_Walk) "start" = some none)
    (b_max : PySem.W.nsIn K mainGlobals "max" = some none)
    (b_min : PySem.W.nsIn K mainGlobals "min" = some none)
    (b_len : PySem.W.nsIn K mainGlobals "len" = some none)
    (b_range : PySem.W.nsIn K mainGlobals "range" = some none)
    (b_sorted : PySem.W.nsIn K mainGlobals "sorted" = some none)
    (b_set : PySem.W.nsIn K mainGlobals "set" = some none)
    (b_abs : PySem.W.nsIn K mainGlobals "abs" = some none)
    (b_int : PySem.W.nsIn K mainGlobals "int" = some none)
    (b_enumerate : PySem.W.nsIn K mainGlobals "enumerate" = some none)
    (b_divmod : PySem.W.nsIn K mainGlobals "divmod" = some none)
    (b_list : PySem.W.nsIn K mainGlobals "list" = some none)
    (b_all : PySem.W.nsIn K mainGlobals "all" = some none)
    (b_any : PySem.W.nsIn K mainGlobals "any" = some none)
    (b_isinstance : PySem.W.nsIn K mainGlobals "isinstance" = some none)
    (b_bool : PySem.W.nsIn K mainGlobals "bool" = some none)
    (gSLOW : PySem.W.nsIn K mainGlobals "SLOW" = some (some (.str "slow" tSLOW)))
    (gFAST : PySem.W.nsIn K mainGlobals "FAST" = some (some (.str "fast" tFAST)))
    (gW : PySem.W.nsIn K mainGlobals "WORDS" = some (some (.ref aW)))
    (lW : K.lookup aW = some ⟨.type "dict", none, .dict es nW, #[]⟩)
    (keys : PySem.W.KeysLit w.params es.toList)
    (low : (aW == sysModules) = false)
    (wS : PySem.W.nsIn K aW "slow" = some (some (.ref tS)))
    (wF : PySem.W.nsIn K aW "fast" = some (some (.ref tF)))
    (lS : K.lookup tS = some ⟨.type "tuple", o1, .seq #[.str "at" u1, .str "from" u2] n1, s1⟩)
    (lF : K.lookup tF = some ⟨.type "tuple", o2, .seq #[.str "at" u3, .str "upto" u4] n2, s2⟩)
    (gL : PySem.W.nsIn K mainGlobals "LOOK_WORDS" = some (some (.ref aL)))
    (lL : K.lookup aL = some ⟨.type "tuple", o3, .seq #[.str "at" u5, .str "from" u6, .str "upto" u7] n3, s3⟩) :
    ∃ fd : FuncData, (∀ (s : Shared) (v : Value), BindsTo s fd ⟨[v], []⟩ [("script", v)]) ∧ ∀ base : Heap, K.In base → base.Ns mainGlobals mg → FnOk l.prog w K mg base CX0 9 fa fd ["script"] (spLaw K) := by
  have e := hfa.symm.trans (PySem.W.mg_of X G a35)
  cases e
  have F0 := fun_mk (st := slaw_deck) l0 c0 k0
  have F1 := fun_mk (st := slaw_take) l1 c1 k1
  have F2 := fun_mk (st := slaw_below) l2 c2 k2
  have F3 := fun_mk (st := slaw_hidden) l3 c3 k3
  have F4 := fun_mk (st := slaw_looks) l4 c4 k4
  have F5 := fun_mk (st := slaw_dark) l5 c5 k5
  have F6 := fun_mk (st := slaw_tables) l6 c6 k6
  have F7 := fun_mk (st := slaw_led) l7 c7 k7
  have F8 := fun_mk (st := slaw_is_so) l8 c8 k8
  have F9 := fun_mk (st := slaw_gone) l9 c9 k9
  have F10 := fun_mk (st := slaw_pairs) l10 c10 k10
  have F11 := fun_mk (st := slaw_reached) l11 c11 k11
  have F12 := fun_mk (st := slaw_right) l12 c12 k12
  have F13 := fun_mk (st := sside_looks) l13 c13 k13
  have F14 := fun_mk (st := sround_looks) l14 c14 k14
  have F15 := fun_mk (st := splace_by) l15 c15 k15
  have F16 := fun_mk (st := sbest_step) l16 c16 k16
  have F17 := fun_mk (st := sWalk_init) l17 c17 k17
  have F18 := fun_mk (st := sWalkfollow) l18 c18 k18
  have F19 := fun_mk (st := sWalk_period) l19 c19 k19
  have F20 := fun_mk (st := sWalk_climb) l20 c20 k20
  have F21 := fun_mk (st := sWalk_behind) l21 c21 k21
  have F22 := fun_mk (st := sWalk_reach) l22 c22 k22
  have F23 := fun_mk (st := scheck_round) l23 c23 k23
  have F24 := fun_mk (st := sfewest_uses) l24 c24 k24
  have F25 := fun_mk (st := smost_uses) l25 c25 k25
  have F26 := fun_mk (st := stoo_far) l26 c26 k26
  have F27 := fun_mk (st := sclash) l27 c27 k27
  have F28 := fun_mk (st := sDark_init) l28 c28 k28
  have F29 := fun_mk (st := sDark_length) l29 c29 k29
  have F30 := fun_mk (st := sDark_hear) l30 c30 k30
  have F31 := fun_mk (st := sDark_looks) l31 c31 k31
  have F32 := fun_mk (st := sDarkcheck_word) l32 c32 k32
  have F33 := fun_mk (st := sDarkhome) l33 c33 k33
  have F34 := fun_mk (st := sDarkclashing) l34 c34 k34
  have F35 := fun_mk (st := slaw) l35 c35 k35
  let Z : Ad := {
    a_law_deck := f0,
    d_law_deck := PySem.W.fnOf "_law_deck" "_law_deck" (defArgs slaw_deck) (defBody slaw_deck) (defScope slaw_deck) .none kV0 dc0 pm0 an0 cd0 ct0,
    a_law_take := f1,
    d_law_take := PySem.W.fnOf "_law_take" "_law_take" (defArgs slaw_take) (defBody slaw_take) (defScope slaw_take) .none kV1 dc1 pm1 an1 cd1 ct1,
    a_law_below := f2,
    d_law_below := PySem.W.fnOf "_law_below" "_law_below" (defArgs slaw_below) (defBody slaw_below) (defScope slaw_below) .none kV2 dc2 pm2 an2 cd2 ct2,
    a_law_hidden := f3,
    d_law_hidden := PySem.W.fnOf "_law_hidden" "_law_hidden" (defArgs slaw_hidden) (defBody slaw_hidden) (defScope slaw_hidden) .none kV3 dc3 pm3 an3 cd3 ct3,
    a_law_looks := f4,
    d_law_looks := PySem.W.fnOf "_law_looks" "_law_looks" (defArgs slaw_looks) (defBody slaw_looks) (defScope slaw_looks) .none kV4 dc4 pm4 an4 cd4 ct4,
    a_law_dark := f5,
    d_law_dark := PySem.W.fnOf "_law_dark" "_law_dark" (defArgs slaw_dark) (defBody slaw_dark) (defScope slaw_dark) .none kV5 dc5 pm5 an5 cd5 ct5,
    a_law_tables := f6,
    d_law_tables := PySem.W.fnOf "_law_tables" "_law_tables" (defArgs slaw_tables) (defBody slaw_tables) (defScope slaw_tables) .none kV6 dc6 pm6 an6 cd6 ct6,
    a_law_led := f7,
    d_law_led := PySem.W.fnOf "_law_led" "_law_led" (defArgs slaw_led) (defBody slaw_led) (defScope slaw_led) .none kV7 dc7 pm7 an7 cd7 ct7,
    a_law_is_so := f8,
    d_law_is_so := PySem.W.fnOf "_law_is_so" "_law_is_so" (defArgs slaw_is_so) (defBody slaw_is_so) (defScope slaw_is_so) .none kV8 dc8 pm8 an8 cd8 ct8,
    a_law_gone := f9,
    d_law_gone := PySem.W.fnOf "_law_gone" "_law_gone" (defArgs slaw_gone) (defBody slaw_gone) (defScope slaw_gone) .none kV9 dc9 pm9 an9 cd9 ct9,
    a_law_pairs := f10,
    d_law_pairs := PySem.W.fnOf "_law_pairs" "_law_pairs" (defArgs slaw_pairs) (defBody slaw_pairs) (defScope slaw_pairs) .none kV10 dc10 pm10 an10 cd10 ct10,
    a_law_reached := f11,
    d_law_reached := PySem.W.fnOf "_law_reached" "_law_reached" (defArgs slaw_reached) (defBody slaw_reached) (defScope slaw_reached) .none kV11 dc11 pm11 an11 cd11 ct11,
    a_law_right := f12,
    d_law_right := PySem.W.fnOf "_law_right" "_law_right" (defArgs slaw_right) (defBody slaw_right) (defScope slaw_right) .none kV12 dc12 pm12 an12 cd12 ct12,
    a_side_looks := f13,
    d_side_looks := PySem.W.fnOf "side_looks" "side_looks" (defArgs sside_looks) (defBody sside_looks) (defScope sside_looks) .none kV13 dc13 pm13 an13 cd13 ct13,
    a_round_looks := f14,
    d_round_looks := PySem.W.fnOf "round_looks" "round_looks" (defArgs sround_looks) (defBody sround_looks) (defScope sround_looks) .none kV14 dc14 pm14 an14 cd14 ct14,
    a_place_by := f15,
    d_place_by := PySem.W.fnOf "place_by" "place_by" (defArgs splace_by) (defBody splace_by) (defScope splace_by) .none kV15 dc15 pm15 an15 cd15 ct15,
    a_best_step := f16,
    d_best_step := PySem.W.fnOf "best_step" "best_step" (defArgs sbest_step) (defBody sbest_step) (defScope sbest_step) .none kV16 dc16 pm16 an16 cd16 ct16,
    a_Walk_init := f17,
    d_Walk_init := PySem.W.fnOf "__init__" "Walk.__init__" (defArgs sWalk_init) (defBody sWalk_init) (defScope sWalk_init) .none kV17 dc17 pm17 an17 cd17 ct17,
    a_Walkfollow := f18,
    d_Walkfollow := PySem.W.fnOf "_follow" "Walk._follow" (defArgs sWalkfollow) (defBody sWalkfollow) (defScope sWalkfollow) .none kV18 dc18 pm18 an18 cd18 ct18,
    a_Walk_period := f19,
    d_Walk_period := PySem.W.fnOf "period" "Walk.period" (defArgs sWalk_period) (defBody sWalk_period) (defScope sWalk_period) .none kV19 dc19 pm19 an19 cd19 ct19,
    a_Walk_climb := f20,
    d_Walk_climb := PySem.W.fnOf "climb" "Walk.climb" (defArgs sWalk_climb) (defBody sWalk_climb) (defScope sWalk_climb) .none kV20 dc20 pm20 an20 cd20 ct20,
    a_Walk_behind := f21,
    d_Walk_behind := PySem.W.fnOf "behind" "Walk.behind" (defArgs sWalk_behind) (defBody sWalk_behind) (defScope sWalk_behind) .none kV21 dc21 pm21 an21 cd21 ct21,
    a_Walk_reach := f22,
    d_Walk_reach := PySem.W.fnOf "reach" "Walk.reach" (defArgs sWalk_reach) (defBody sWalk_reach) (defScope sWalk_reach) .none kV22 dc22 pm22 an22 cd22 ct22,
    a_check_round := f23,
    d_check_round := PySem.W.fnOf "check_round" "check_round" (defArgs scheck_round) (defBody scheck_round) (defScope scheck_round) .none kV23 dc23 pm23 an23 cd23 ct23,
    a_fewest_uses := f24,
    d_fewest_uses := PySem.W.fnOf "fewest_uses" "fewest_uses" (defArgs sfewest_uses) (defBody sfewest_uses) (defScope sfewest_uses) .none kV24 dc24 pm24 an24 cd24 ct24,
    a_most_uses := f25,
    d_most_uses := PySem.W.fnOf "most_uses" "most_uses" (defArgs smost_uses) (defBody smost_uses) (defScope smost_uses) .none kV25 dc25 pm25 an25 cd25 ct25,
    a_too_far := f26,
    d_too_far := PySem.W.fnOf "too_far" "too_far" (defArgs stoo_far) (defBody stoo_far) (defScope stoo_far) .none kV26 dc26 pm26 an26 cd26 ct26,
    a_clash := f27,
    d_clash := PySem.W.fnOf "clash" "clash" (defArgs sclash) (defBody sclash) (defScope sclash) .none kV27 dc27 pm27 an27 cd27 ct27,
    a_Dark_init := f28,
    d_Dark_init := PySem.W.fnOf "__init__" "Dark.__init__" (defArgs sDark_init) (defBody sDark_init) (defScope sDark_init) .none kV28 dc28 pm28 an28 cd28 ct28,
    a_Dark_length := f29,
    d_Dark_length := PySem.W.fnOf "length" "Dark.length" (defArgs sDark_length) (defBody sDark_length) (defScope sDark_length) .none kV29 dc29 pm29 an29 cd29 ct29,
    a_Dark_hear := f30,
    d_Dark_hear := PySem.W.fnOf "hear" "Dark.hear" (defArgs sDark_hear) (defBody sDark_hear) (defScope sDark_hear) .none kV30 dc30 pm30 an30 cd30 ct30,
    a_Dark_looks := f31,
    d_Dark_looks := PySem.W.fnOf "looks" "Dark.looks" (defArgs sDark_looks) (defBody sDark_looks) (defScope sDark_looks) .none kV31 dc31 pm31 an31 cd31 ct31,
    a_Darkcheck_word := f32,
    d_Darkcheck_word := PySem.W.fnOf "_check_word" "Dark._check_word" (defArgs sDarkcheck_word) (defBody sDarkcheck_word) (defScope sDarkcheck_word) .none kV32 dc32 pm32 an32 cd32 ct32,
    a_Darkhome := f33,
    d_Darkhome := PySem.W.fnOf "_home" "Dark._home" (defArgs sDarkhome) (defBody sDarkhome) (defScope sDarkhome) .none kV33 dc33 pm33 an33 cd33 ct33,
    a_Darkclashing := f34,
    d_Darkclashing := PySem.W.fnOf "_clashing" "Dark._clashing" (defArgs sDarkclashing) (defBody sDarkclashing) (defScope sDarkclashing) .none kV34 dc34 pm34 an34 cd34 ct34,
    a_law := fa,
    d_law := PySem.W.fnOf "law" "law" (defArgs slaw) (defBody slaw) (defScope slaw) .none kV35 dc35 pm35 an35 cd35 ct35,
    C := C,
    C_Walk := C_Walk,
    v_SLOW := .str "slow" tSLOW,
    v_FAST := .str "fast" tFAST,
    a_WORDS := aW,
    a_LW := aL,
    t_slow := tS,
    t_fast := tF }
  have T : Tx K w mg Z := {
    F_law_deck := F0,
    bb_law_deck := F0.binds (ps := P_law_deck) fun _ _ _ _ _ _ us hl => match us, hl with | [_], _ => rfl,
    g_law_deck := PySem.W.mg_of X G a0,
    F_law_take := F1,
    bb_law_take := F1.binds (ps := P_law_take) fun _ _ _ _ _ _ us hl => match us, hl with | [_, _], _ => rfl,
    g_law_take := PySem.W.mg_of X G a1,
    F_law_below := F2,
    bb_law_below := F2.binds (ps := P_law_below) fun _ _ _ _ _ _ us hl => match us, hl with | [_, _], _ => rfl,
    g_law_below := PySem.W.mg_of X G a2,
    F_law_hidden := F3,
    bb_law_hidden := F3.binds (ps := P_law_hidden) fun _ _ _ _ _ _ us hl => match us, hl with | [_, _, _], _ => rfl,
    g_law_hidden := PySem.W.mg_of X G a3,
    F_law_looks := F4,
    bb_law_looks := F4.binds (ps := P_law_looks) fun _ _ _ _ _ _ us hl => match us, hl with | [_, _, _], _ => rfl,
    g_law_looks := PySem.W.mg_of X G a4,
    F_law_dark := F5,
    bb_law_dark := F5.binds (ps := P_law_dark) fun _ _ _ _ _ _ us hl => match us, hl with | [_, _, _], _ => rfl,
    g_law_dark := PySem.W.mg_of X G a5,
    F_law_tables := F6,
    bb_law_tables := F6.binds (ps := P_law_tables) fun _ _ _ _ _ _ us hl => match us, hl with | [_, _, _], _ => rfl,
    g_law_tables := PySem.W.mg_of X G a6,
    F_law_led := F7,
    bb_law_led := F7.binds (ps := P_law_led) fun _ _ _ _ _ _ us hl => match us, hl with | [_, _], _ => rfl,
    g_law_led := PySem.W.mg_of X G a7,
    F_law_is_so := F8,
    bb_law_is_so := F8.binds (ps := P_law_is_so) fun _ _ _ _ _ _ us hl => match us, hl with | [_, _], _ => rfl,
    g_law_is_so := PySem.W.mg_of X G a8,
    F_law_gone := F9,
    bb_law_gone := F9.binds (ps := P_law_gone) fun _ _ _ _ _ _ us hl => match us, hl with | [_, _, _, _], _ => rfl,
    g_law_gone := PySem.W.mg_of X G a9,
    F_law_pairs := F10,
    bb_law_pairs := F10.binds (ps := P_law_pairs) fun _ _ _ _ _ _ us hl => match us, hl with | [_, _], _ => rfl,
    g_law_pairs := PySem.W.mg_of X G a10,
    F_law_reached := F11,
    bb_law_reached := F11.binds (ps := P_law_reached) fun _ _ _ _ _ _ us hl => match us, hl with | [_, _, _, _, _, _, _], _ => rfl,
    g_law_reached := PySem.W.mg_of X G a11,
    F_law_right := F12,
    bb_law_right := F12.binds (ps := P_law_right) fun _ _ _ _ _ _ us hl => match us, hl with | [_, _], _ => rfl,
    g_law_right := PySem.W.mg_of X G a12,
    F_side_looks := F13,
    bb_side_looks := F13.binds (ps := P_side_looks) fun _ _ _ _ _ _ us hl => match us, hl with | [_, _], _ => rfl,
    g_side_looks := PySem.W.mg_of X G a13,
    F_round_looks := F14,
    bb_round_looks := F14.binds (ps := P_round_looks) fun _ _ _ _ _ _ us hl => match us, hl with | [_, _], _ => rfl,
    g_round_looks := PySem.W.mg_of X G a14,
    F_place_by := F15,
    bb_place_by := F15.binds (ps := P_place_by) fun _ _ _ _ _ _ us hl => match us, hl with | [_, _, _, _], _ => rfl,
    g_place_by := PySem.W.mg_of X G a15,
    F_best_step := F16,
    bb_best_step := F16.binds (ps := P_best_step) fun _ _ _ _ _ _ us hl => match us, hl with | [_, _, _, _], _ => rfl,
    g_best_step := PySem.W.mg_of X G a16,
    F_Walk_init := F17,
    bb_Walk_init := F17.binds (ps := P_Walk_init) fun _ _ _ _ _ _ us hl => match us, hl with | [_, _, _, _], _ => rfl,
    F_Walkfollow := F18,
    bb_Walkfollow := F18.binds (ps := P_Walkfollow) fun _ _ _ _ _ _ us hl => match us, hl with | [_, _, _, _], _ => rfl,
    m_Walkfollow := ⟨a18, i18, k18⟩,
    F_Walk_period := F19,
    bb_Walk_period := F19.binds (ps := P_Walk_period) fun _ _ _ _ _ _ us hl => match us, hl with | [_], _ => rfl,
    m_Walk_period := ⟨a19, i19, k19⟩,
    F_Walk_climb := F20,
    bb_Walk_climb := F20.binds (ps := P_Walk_climb) fun _ _ _ _ _ _ us hl => match us, hl with | [_], _ => rfl,
    m_Walk_climb := ⟨a20, i20, k20⟩,
    F_Walk_behind := F21,
    bb_Walk_behind := F21.binds (ps := P_Walk_behind) fun _ _ _ _ _ _ us hl => match us, hl with | [_, _], _ => rfl,
    m_Walk_behind := ⟨a21, i21, k21⟩,
    F_Walk_reach := F22,
    bb_Walk_reach := F22.binds (ps := P_Walk_reach) fun _ _ _ _ _ _ us hl => match us, hl with | [_, _], _ => rfl,
    m_Walk_reach := ⟨a22, i22, k22⟩,
    F_check_round := F23,
    bb_check_round := F23.binds (ps := P_check_round) fun _ _ _ _ _ _ us hl => match us, hl with | [_], _ => rfl,
    g_check_round := PySem.W.mg_of X G a23,
    F_fewest_uses := F24,
    bb_fewest_uses := F24.binds (ps := P_fewest_uses) fun _ _ _ _ _ _ us hl => match us, hl with | [_, _, _], _ => rfl,
    kn_fewest_uses_y_x := KW.kbn0 [1, 0] fun us ws h1 h2 => match us, ws, h1, h2 with | [_], [_, _], _, _ => rfl,
    g_fewest_uses := PySem.W.mg_of X G a24,
    F_most_uses := F25,
    bb_most_uses := F25.binds (ps := P_most_uses) fun _ _ _ _ _ _ us hl => match us, hl with | [_, _, _], _ => rfl,
    kn_most_uses_y_hands_x := KW.kbn0 [1, 2, 0] fun us ws h1 h2 => match us, ws, h1, h2 with | [], [_, _, _], _, _ => rfl,
    g_most_uses := PySem.W.mg_of X G a25,
    F_too_far := F26,
    bb_too_far := F26.binds (ps := P_too_far) fun _ _ _ _ _ _ us hl => match us, hl with | [_, _, _], _ => rfl,
    g_too_far := PySem.W.mg_of X G a26,
    F_clash := F27,
    bb_clash := F27.binds (ps := P_clash) fun _ _ _ _ _ _ us hl => match us, hl with | [_, _, _], _ => rfl,
    g_clash := PySem.W.mg_of X G a27,
    F_Dark_init := F28,
    bb_Dark_init := F28.binds (ps := P_Dark_init) fun _ _ _ _ _ _ us hl => match us, hl with | [_, _], _ => rfl,
    F_Dark_length := F29,
    bb_Dark_length := F29.binds (ps := P_Dark_length) fun _ _ _ _ _ _ us hl => match us, hl with | [_], _ => rfl,
    m_Dark_length := ⟨a29, i29, k29⟩,
    F_Dark_hear := F30,
    bb_Dark_hear := F30.binds (ps := P_Dark_hear) fun _ _ _ _ _ _ us hl => match us, hl with | [_, _, _, _], _ => rfl,
    m_Dark_hear := ⟨a30, i30, k30⟩,
    F_Dark_looks := F31,
    bb_Dark_looks := F31.binds (ps := P_Dark_looks) fun _ _ _ _ _ _ us hl => match us, hl with | [_], _ => rfl,
    m_Dark_looks := ⟨a31, i31, k31⟩,
    F_Darkcheck_word := F32,
    bb_Darkcheck_word := F32.binds (ps := P_Darkcheck_word) fun _ _ _ _ _ _ us hl => match us, hl with | [_, _], _ => rfl,
    m_Darkcheck_word := ⟨a32, i32, k32⟩,
    F_Darkhome := F33,
    bb_Darkhome := F33.binds (ps := P_Darkhome) fun _ _ _ _ _ _ us hl => match us, hl with | [_, _, _, _], _ => rfl,
    m_Darkhome := ⟨a33, i33, k33⟩,
    F_Darkclashing := F34,
    bb_Darkclashing := F34.binds (ps := P_Darkclashing) fun _ _ _ _ _ _ us hl => match us, hl with | [_, _], _ => rfl,
    m_Darkclashing := ⟨a34, i34, k34⟩,
    F_law := F35,
    bb_law := F35.binds (ps := P_law) fun _ _ _ _ _ _ us hl => match us, hl with | [_], _ => rfl,
    g_law := PySem.W.mg_of X G a35,
    cl := ⟨pg, hd, po, sa⟩,
    g_Dark := PySem.W.mg_of X G aC,
    mk_Dark := ⟨mk, a28, i28, kc⟩,
    n_length := n_length,
    n_looks := n_looks,
    cl_Walk := ⟨pg_Walk, hd_Walk, po_Walk, sa_Walk⟩,
    g_Walk := PySem.W.mg_of X G aC_Walk,
    mk_Walk := ⟨mk_Walk, a17, i17, kc_Walk⟩,
    nWalk_places := nWalk_places,
    nWalk_told_by := nWalk_told_by,
    nWalk_start := nWalk_start,
    b_max := PySem.W.mg_none_of X G b_max,
    b_min := PySem.W.mg_none_of X G b_min,
    b_len := PySem.W.mg_none_of X G b_len,
    b_range := PySem.W.mg_none_of X G b_range,
    b_sorted := PySem.W.mg_none_of X G b_sorted,
    b_set := PySem.W.mg_none_of X G b_set,
    b_abs := PySem.W.mg_none_of X G b_abs,
    b_int := PySem.W.mg_none_of X G b_int,
    b_enumerate := PySem.W.mg_none_of X G b_enumerate,
    b_divmod := PySem.W.mg_none_of X G b_divmod,
    b_list := PySem.W.mg_none_of X G b_list,
    b_all := PySem.W.mg_none_of X G b_all,
    b_any := PySem.W.mg_none_of X G b_any,
    b_isinstance := PySem.W.mg_none_of X G b_isinstance,
    b_bool := PySem.W.mg_none_of X G b_bool,
    g_SLOW := PySem.W.mg_of X G gSLOW,
    r_SLOW := ⟨tSLOW, rfl⟩,
    g_FAST := PySem.W.mg_of X G gFAST,
    r_FAST := ⟨tFAST, rfl⟩,
    g_WORDS := PySem.W.mg_of X G gW,
    kd_WORDS := ⟨es, nW, lW, keys, low⟩,
    w_slow := wS,
    w_fast := wF,
    q_slow := fun _ => sqt2 lS,
    q_fast := fun _ => sqt2 lF,
    g_LOOK_WORDS := PySem.W.mg_of X G gL,
    q_LW := fun _ => sqt3 lL }
  exact ⟨PySem.W.fnOf "law" "law" (defArgs slaw) (defBody slaw) (defScope slaw) .none kV35 dc35 pm35 an35 cd35 ct35, fun s v => .of_eq rfl, fun base _ _ => ok_law T⟩
theorem walk {l : PySem.W.OpenLaw} {q : Program} {loose : List Str} {XP : (Str → Option Value) → Heap → Prop} {YP : World → Heap → Prop} {d : DefRec} {K : Params → PySem.W.Frag} (hn : l.most = some 63) (hdf : d.params.defaults = [])
    (hY : ∀ (w : World) (h : Heap), YP w h → (K w.params).In h)
    (F : ∀ (w : World) (mg : Str → Option Value) (fa : Addr) (h : Heap), (K w.params).In h → h.Ns mainGlobals mg → mg d.name = some (.ref fa) →
      ∃ fd : FuncData, (∀ (s : Shared) (u : Value), BindsTo s fd ⟨[u], []⟩ [("script", u)]) ∧ ∀ base : Heap, (K w.params).In base → base.Ns mainGlobals mg → FnOk l.prog w (K w.params) mg base CX0 9 fa fd ["script"] (spLaw (K w.params))) :
    PySem.W.WalkO q loose XP YP l.row.toRowW d [] (fun f vs => PySem.call f vs) :=
  L2.walk_of (n := 63) (k := 9) (x := "script") (CX := fun _ => CX0) (sp := fun w => spLaw (K w.params)) hn (by decide) hdf ⟨rfl, by decide, by decide⟩ hY F (fun _ _ a ns hl _ hS => ⟨a, ns, rfl, hS, hl, fun _ => rfl⟩) fun _ _ _ _ _ z => z
end KA
open PySem PySem.W PyProof.Rows
set_option maxRecDepth 100000 in
set_option maxHeartbeats 0 in
theorem PySem.Challenge.cw_darkpace_k38_uses_by_all_hands_holds : PySem.Challenge.rw_darkpace_k38_uses_by_all_hands.Holds := by
  w_on; o_law; k_head; (case hw => w_witness2)
  k_fill
  refine KA.walk (l := PySem.Challenge.rw_darkpace_k38_uses_by_all_hands) rfl rfl (fun w h Y => PySem.W.kIn_of Y) ?F
  case F =>
    intro w mg fa h KX G hmg
    refine' KA.all_mk KX G hmg ?aC ?aC_Walk ?a0 ?l0 ?c0 ?k0 ?a1 ?l1 ?c1 ?k1 ?a2 ?l2 ?c2 ?k2 ?a3 ?l3 ?c3 ?k3 ?a4 ?l4 ?c4 ?k4 ?a5 ?l5 ?c5 ?k5 ?a6 ?l6 ?c6 ?k6 ?a7 ?l7 ?c7 ?k7 ?a8 ?l8 ?c8 ?k8 ?a9 ?l9 ?c9 ?k9 ?a10 ?l10 ?c10 ?k10 ?a11 ?l11 ?c11 ?k11 ?a12 ?l12 ?c12 ?k12 ?a13 ?l13 ?c13 ?k13 ?a14 ?l14 ?c14 ?k14 ?a15 ?l15 ?c15 ?k15 ?a16 ?l16 ?c16 ?k16 ?a17 ?i17 ?l17 ?c17 ?k17 ?a18 ?i18 ?l18 ?c18 ?k18 ?a19 ?i19 ?l19 ?c19 ?k19 ?a20 ?i20 ?l20 ?c20 ?k20 ?a21 ?i21 ?l21 ?c21 ?k21 ?a22 ?i22 ?l22 ?c22 ?k22 ?a23 ?l23 ?c23 ?k23 ?a24 ?l24 ?c24 ?k24 ?a25 ?l25 ?c25 ?k25 ?a26 ?l26 ?c26 ?k26 ?a27 ?l27 ?c27 ?k27 ?a28 ?i28 ?l28 ?c28 ?k28 ?a29 ?i29 ?l29 ?c29 ?k29 ?a30 ?i30 ?l30 ?c30 ?k30 ?a31 ?i31 ?l31 ?c31 ?k31 ?a32 ?i32 ?l32 ?c32 ?k32 ?a33 ?i33 ?l33 ?c33 ?k33 ?a34 ?i34 ?l34 ?c34 ?k34 ?a35 ?l35 ?c35 ?k35 ?pg ?hd ?po ?sa ?mk ?kc ?n_length ?n_looks ?pg_Walk ?hd_Walk ?po_Walk ?sa_Walk ?mk_Walk ?kc_Walk ?nWalk_places ?nWalk_told_by ?nWalk_start ?b_max ?b_min ?b_len ?b_range ?b_sorted ?b_set ?b_abs ?b_int ?b_enumerate ?b_divmod ?b_list ?b_all ?b_any ?b_isinstance ?b_bool ?gSLOW ?gFAST ?gW ?lW ?keys ?low ?wS ?wF ?lS ?lF ?gL ?lL
    (case aC => k_is)
    (case aC_Walk => k_is)
    (case a0 => k_is)
    (case l0 => k_is)
    (case c0 => k_is)
    (case k0 => k_is)
    (case a1 => k_is)
    (case l1 => k_is)
    (case c1 => k_is)
    (case k1 => k_is)
    (case a2 => k_is)
    (case l2 => k_is)
    (case c2 => k_is)
    (case k2 => k_is)
    (case a3 => k_is)
    (case l3 => k_is)
    (case c3 => k_is)
    (case k3 => k_is)
    (case a4 => k_is)
    (case l4 => k_is)
    (case c4 => k_is)
    (case k4 => k_is)
    (case a5 => k_is)
    (case l5 => k_is)
    (case c5 => k_is)
    (case k5 => k_is)
    (case a6 => k_is)
    (case l6 => k_is)
    (case c6 => k_is)
    (case k6 => k_is)
    (case a7 => k_is)
    (case l7 => k_is)
    (case c7 => k_is)
    (case k7 => k_is)
    (case a8 => k_is)
    (case l8 => k_is)
    (case c8 => k_is)
    (case k8 => k_is)
    (case a9 => k_is)
    (case l9 => k_is)
    (case c9 => k_is)
    (case k9 => k_is)
    (case a10 => k_is)
    (case l10 => k_is)
    (case c10 => k_is)
    (case k10 => k_is)
    (case a11 => k_is)
    (case l11 => k_is)
    (case c11 => k_is)
    (case k11 => k_is)
    (case a12 => k_is)
    (case l12 => k_is)
    (case c12 => k_is)
    (case k12 => k_is)
    (case a13 => k_is)
    (case l13 => k_is)
    (case c13 => k_is)
    (case k13 => k_is)
    (case a14 => k_is)
    (case l14 => k_is)
    (case c14 => k_is)
    (case k14 => k_is)
    (case a15 => k_is)
    (case l15 => k_is)
    (case c15 => k_is)
    (case k15 => k_is)
    (case a16 => k_is)
    (case l16 => k_is)
    (case c16 => k_is)
    (case k16 => k_is)
    (case a17 => k_is)
    (case i17 => k_is)
    (case l17 => k_is)
    (case c17 => k_is)
    (case k17 => k_is)
    (case a18 => k_is)
    (case i18 => k_is)
    (case l18 => k_is)
    (case c18 => k_is)
    (case k18 => k_is)
    (case a19 => k_is)
    (case i19 => k_is)
    (case l19 => k_is)
    (case c19 => k_is)
    (case k19 => k_is)
    (case a20 => k_is)
    (case i20 => k_is)
    (case l20 => k_is)
    (case c20 => k_is)
    (case k20 => k_is)
    (case a21 => k_is)
    (case i21 => k_is)
    (case l21 => k_is)
    (case c21 => k_is)
    (case k21 => k_is)
    (case a22 => k_is)
    (case i22 => k_is)
    (case l22 => k_is)
    (case c22 => k_is)
    (case k22 => k_is)
    (case a23 => k_is)
    (case l23 => k_is)
    (case c23 => k_is)
    (case k23 => k_is)
    (case a24 => k_is)
    (case l24 => k_is)
    (case c24 => k_is)
    (case k24 => k_is)
    (case a25 => k_is)
    (case l25 => k_is)
    (case c25 => k_is)
    (case k25 => k_is)
    (case a26 => k_is)
    (case l26 => k_is)
    (case c26 => k_is)
    (case k26 => k_is)
    (case a27 => k_is)
    (case l27 => k_is)
    (case c27 => k_is)
    (case k27 => k_is)
    (case a28 => k_is)
    (case i28 => k_is)
    (case l28 => k_is)
    (case c28 => k_is)
    (case k28 => k_is)
    (case a29 => k_is)
    (case i29 => k_is)
    (case l29 => k_is)
    (case c29 => k_is)
    (case k29 => k_is)
    (case a30 => k_is)
    (case i30 => k_is)
    (case l30 => k_is)
    (case c30 => k_is)
    (case k30 => k_is)
    (case a31 => k_is)
    (case i31 => k_is)
    (case l31 => k_is)
    (case c31 => k_is)
    (case k31 => k_is)
    (case a32 => k_is)
    (case i32 => k_is)
    (case l32 => k_is)
    (case c32 => k_is)
    (case k32 => k_is)
    (case a33 => k_is)
    (case i33 => k_is)
    (case l33 => k_is)
    (case c33 => k_is)
    (case k33 => k_is)
    (case a34 => k_is)
    (case i34 => k_is)
    (case l34 => k_is)
    (case c34 => k_is)
    (case k34 => k_is)
    (case a35 => k_is)
    (case l35 => k_is)
    (case c35 => k_is)
    (case k35 => k_is)
    (case pg => k_is)
    (case hd => k_is)
    (case po => k_is)
    (case sa => k_is)
    (case mk => k_is)
    (case kc => k_is)
    (case n_length => k_is)
    (case n_looks => k_is)
    (case pg_Walk => k_is)
    (case hd_Walk => k_is)
    (case po_Walk => k_is)
    (case sa_Walk => k_is)
    (case mk_Walk => k_is)
    (case kc_Walk => k_is)
    (case nWalk_places => k_is)
    (case nWalk_told_by => k_is)
    (case nWalk_start => k_is)
    (case b_max => k_is)
    (case b_min => k_is)
    (case b_len => k_is)
    (case b_range => k_is)
    (case b_sorted => k_is)
    (case b_set => k_is)
    (case b_abs => k_is)
    (case b_int => k_is)
    (case b_enumerate => k_is)
    (case b_divmod => k_is)
    (case b_list => k_is)
    (case b_all => k_is)
    (case b_any => k_is)
    (case b_isinstance => k_is)
    (case b_bool => k_is)
    (case gSLOW => k_is)
    (case gFAST => k_is)
    (case gW => k_is)
    (case lW => k_is)
    (case keys => k_keys)
    (case low => decide +kernel)
    (case wS => k_is)
    (case wF => k_is)
    (case lS => k_is)
    (case lF => k_is)
    (case gL => k_is)
    (case lL => k_is)
